/- Texts of the proof, put together: AbsFrame, AbsState, AbsX, AbsPairs, AbsJ, AbsRngD, AbsJ2, AbsJ3, AbsRng, AbsRngR, AbsRngJ, AbsFresh, AbsFreN, AbsShort, AbsLimD, AbsShort2. -/
import Derived.Test.YtchgncpfaclccaaP3
import Derived.Test.YtchgncpfaclccaaP2
/- A call that is met by what it does to the blocks that it reaches: it is sound. -/
namespace Go.Abs
open Go.RowKit
variable {P : Program} {ρ : Ren} {w0 : Start P} {w : World} {H : Heap}

/-- A call, by the blocks that its arguments reach. -/
def CallS (P : Program) (f : FuncId) (args : List Value) (bs : Blocks) (K : Value → Blocks → Prop) : Prop :=
  ∀ (w0 : Start P) (ρ : Ren) (w : World) (args' : Array Value) (n : Nat), Gam w0 ρ (heapOf bs) w → LR ρ args args'.toList →
    CallsIn Fence.wide n P f args' w fun e w' => ∃ v bs' ρ' v', K v bs' ∧ e = .returned v' ∧ VR ρ' v v' ∧ Gam w0 ρ' (heapOf bs') w'

/-! ### Renaming, once more (numbers change anyhow; the globals stay) -/
structure MuS (μ : Mu) : Prop where
  snd : (μ.map (·.2)).Nodup
  glb : ∀ i j, (i, j) ∈ μ → i < abase → j = i
variable {μ : Mu}
theorem mapV_S (ok : MuS μ) : ∀ (n : Nat) (v v' : Value), VR ρ v v' → VR (μ.ren ρ) (mapV μ n v) v'
  | 0, v, v', _ => .unknown _ _
  | n + 1, v, v', h => by
    have ih := mapV_S ok n
    cases h with
    | bool b => exact .bool b
    | int k n => exact .int k n
    | float k n => exact .float k n
    | complex k n m => exact .complex k n m
    | string s => exact .string s
    | nilFunc => exact .nilFunc
    | nilIface => exact .nilIface
    | nilPtr => exact .nilPtr
    | nilSlice l c => exact .nilSlice l c
    | nilMap => exact .nilMap
    | unknown r v => unfold mapV; exact .unknown _ _
    | glob g k hg =>
      simp only [mapV]
      cases hm : μ.find g with
      | none => exact .unknown _ _
      | some j =>
        have hj : j = g := ok.glb _ _ (Mu.find_mem hm) hg
        subst hj
        exact .glob _ k hg
    | ptr i k m hm =>
      simp only [mapV]
      cases hf : μ.find i with
      | none => exact .unknown _ _
      | some j => exact .ptr j k m (by rw [Mu.ren_of ok.snd (Mu.find_mem hf)]; exact hm)
    | map i m hm =>
      simp only [mapV]
      cases hf : μ.find i with
      | none => exact .unknown _ _
      | some j => exact .map j m (by rw [Mu.ren_of ok.snd (Mu.find_mem hf)]; exact hm)
    | slice i k len cap m hm ho hl =>
      simp only [mapV]
      cases hf : μ.find i with
      | none => exact .unknown _ _
      | some j => exact .slice j k len cap m (by rw [Mu.ren_of ok.snd (Mu.find_mem hf)]; exact hm) ho hl
    | opened i k len cap capC m hm ho hc hs hl =>
      simp only [mapV]
      cases hf : μ.find i with
      | none => exact .unknown _ _
      | some j => exact .opened j k len cap capC m (by rw [Mu.ren_of ok.snd (Mu.find_mem hf)]; exact hm) ho hc hs hl
    | empty i k off m hm ho hz =>
      simp only [mapV]
      cases hf : μ.find i with
      | none => exact .unknown _ _
      | some j => exact .empty j k off m (by rw [Mu.ren_of ok.snd (Mu.find_mem hf)]; exact hm) ho hz
    | func f a b a' b' ha hb ra rb =>
      simp only [mapV]
      refine VR.func' ?_ ?_
      · simpa using LR.map_left ih (LR.of_arr ha ra)
      · simpa using LR.map_left ih (LR.of_arr hb rb)
    | yield l m hm =>
      simp only [mapV]
      cases hf : μ.find l with
      | none => exact .unknown _ _
      | some j => exact .yield j m (by rw [Mu.ren_of ok.snd (Mu.find_mem hf)]; exact hm)
    | iface t v v' hv => exact .iface t _ _ (ih _ _ hv)
    | agg a a' ha ra =>
      simp only [mapV]
      refine VR.agg' ?_
      simpa using LR.map_left ih (LR.of_arr ha ra)
    | tuple a a' ha ra =>
      simp only [mapV]
      refine VR.tuple' ?_
      simpa using LR.map_left ih (LR.of_arr ha ra)
theorem mapO_S (ok : MuS μ) {m : Meta} {o o2 : AObj} (h : mapO μ o = some o2) (r : ObjR ρ w m o) : ObjR (μ.ren ρ) w m o2 ∧ o2.alive = o.alive := by
  cases o with
  | cells cs ty opn es =>
    simp only [mapO, Option.some.injEq] at h
    subst h
    obtain ⟨a, b, c, d, e, f, g, i⟩ := r
    exact ⟨⟨by simpa using a, b, c, d, e, f, g, by simpa using LR.map_left (mapV_S ok 8) i⟩, rfl⟩
  | sym cs opn es =>
    simp only [mapO, Option.some.injEq] at h
    subst h
    obtain ⟨⟨a, b, c, d, e, z, f, g, i⟩, j⟩ := r
    exact ⟨⟨⟨a, b, c, d, e, z, f, g, i.plain_any (fun v hv => cellP_plain (j v hv))⟩, j⟩, rfl⟩
  | map es c =>
    simp only [mapO] at h
    split at h
    · simp only [Option.some.injEq] at h
      subst h
      obtain ⟨es', h1, h2⟩ := r
      exact ⟨⟨es', h1, ER.map_val (mapV_S ok 8) h2⟩, rfl⟩
    · cases h
  | deferred => simp only [mapO, Option.some.injEq] at h; subst h; exact ⟨r, rfl⟩
  | taken => simp only [mapO, Option.some.injEq] at h; subst h; exact ⟨r, rfl⟩
  | yld _ _ => simp only [mapO, Option.some.injEq] at h; subst h; exact ⟨r, rfl⟩
  | dead _ _ _ => cases h
  | loop _ => cases h
  | siter _ _ => cases h
theorem LR.map_S (ok : MuS μ) {l l' : List Value} (h : LR ρ l l') : LR (μ.ren ρ) (l.map (mapV μ 8)) l' := LR.map_left (mapV_S ok 8) h

/-! ### What is reached has its place -/
def Placed (ρ : Ren) (i : Nat) : Prop := i < abase ∨ ∃ m, ρ i = some m
theorem LR.placed {f : Value → List Nat} (hf : ∀ v v', VR ρ v v' → ∀ i ∈ f v, Placed ρ i) : ∀ {l l' : List Value}, LR ρ l l' → ∀ i ∈ l.flatMap f, Placed ρ i
  | _, _, .nil, i, h => by cases h
  | _, _, .cons h t, i, hi => by
    rw [List.flatMap_cons] at hi
    rcases List.mem_append.1 hi with h1 | h1
    · exact hf _ _ h i h1
    · exact LR.placed hf t i h1
theorem blocksV_placed : ∀ (n : Nat) (v v' : Value), VR ρ v v' → ∀ i ∈ blocksV n v, Placed ρ i
  | 0, _, _, _, i, h => by simp [blocksV] at h
  | n + 1, v, v', hv, i, h => by
    have ih : ∀ (v v' : Value), VR ρ v v' → ∀ i ∈ blocksV n v, Placed ρ i := blocksV_placed n
    cases hv with
    | glob g k hg => simp only [blocksV, List.mem_singleton] at h; subst h; exact .inl hg
    | ptr j k m hm => simp only [blocksV, List.mem_singleton] at h; subst h; exact .inr ⟨m, hm⟩
    | map j m hm => simp only [blocksV, List.mem_singleton] at h; subst h; exact .inr ⟨m, hm⟩
    | slice j k len cap m hm ho => simp only [blocksV, List.mem_singleton] at h; subst h; exact .inr ⟨m, hm⟩
    | opened j k len cap capC m hm ho hc hs => simp only [blocksV, List.mem_singleton] at h; subst h; exact .inr ⟨m, hm⟩
    | empty j k off m hm ho hz => simp only [blocksV, List.mem_singleton] at h; subst h; exact .inr ⟨m, hm⟩
    | func f a b a' b' ha hb ra rb =>
      simp only [blocksV] at h
      rcases List.mem_append.1 h with h | h
      · exact LR.placed ih (LR.of_arr ha ra) i h
      · exact LR.placed ih (LR.of_arr hb rb) i h
    | yield l m hm => simp only [blocksV, List.mem_singleton] at h; subst h; exact .inr ⟨m, hm⟩
    | iface t v v' hv => exact ih _ _ hv i (by simpa [blocksV] using h)
    | agg a a' ha ra => exact LR.placed ih (LR.of_arr ha ra) i (by simpa [blocksV] using h)
    | tuple a a' ha ra => exact LR.placed ih (LR.of_arr ha ra) i (by simpa [blocksV] using h)
    | _ => simp [blocksV] at h
theorem ER.placed : ∀ {l l' : List MapEntry}, ER ρ l l' → ∀ i ∈ l.flatMap (fun e => blocksV 8 e.val), Placed ρ i
  | _, _, .nil, i, h => by cases h
  | _, _, .cons k kk v b t, i, hi => by
    rw [List.flatMap_cons] at hi
    rcases List.mem_append.1 hi with h1 | h1
    · exact blocksV_placed 8 _ _ v i h1
    · exact ER.placed t i h1
theorem blocksO_placed {m : Meta} {o : AObj} (r : ObjR ρ w m o) : ∀ i ∈ blocksO o, Placed ρ i := by
  intro i h
  cases o with
  | cells cs ty opn es =>
    obtain ⟨_, _, _, _, _, _, _, hl⟩ := r
    exact LR.placed (blocksV_placed 8) hl i (by simpa [blocksO] using h)
  | map es c =>
    obtain ⟨es', _, h2⟩ := r
    exact ER.placed h2 i (by simpa [blocksO] using h)
  | _ => simp [blocksO] at h
/-! ### The call's own view -/
structure CallOK (μ : Mu) (H : Heap) : Prop where
  fst : (μ.map (·.1)).Nodup
  snd : (μ.map (·.2)).Nodup
  lo : ∀ i j, (i, j) ∈ μ → abase ≤ i ∧ hbase ≤ j ∧ j < gbase
  yn : ∀ i j, (i, j) ∈ μ → (i = ynum ↔ j = ynum)
  mb : ∀ i j, (i, j) ∈ μ → mbase ≤ j → mbase ≤ i
  live : ∀ i j, (i, j) ∈ μ → ∃ o o2, H.get i = some o ∧ mapO μ o = some o2 ∧ o.alive = true
theorem mapO_alive {o o2 : AObj} (h : mapO μ o = some o2) (ht : o2 ≠ .taken) : o.alive = true := by
  cases o with
  | taken => simp only [mapO, Option.some.injEq] at h; exact absurd h.symm ht
  | dead _ _ _ => cases h
  | _ => rfl
theorem CallOK.toS (ok : CallOK μ H) : MuS μ := ⟨ok.snd, fun i j hij hlt => by have := (ok.lo i j hij).1; omega⟩
/-- Where a call begins that is met by what it does: the blocks that it is handed have their places, and it may be handed on what the rounds stand at. -/
structure StartC (w0 : Start P) (ρ : Ren) (μ : Mu) (H : Heap) (w : World) (s : Start P) : Prop where
  hw : s.w = w
  hp : s.pin = μ.ren ρ
  hm : ∀ k, ¬ s.mine k
  ok : ItOK s
  fr : ∀ k, s.free k → (ynum, ynum) ∈ μ ∧ ∃ own rest m F, H.get ynum = some (.yld own rest) ∧ ρ ynum = some m ∧ w0.it own rest F m.b w ∧ (∀ j n, ρ j = some n → H.live j → j ≠ ynum → ¬ F n.b) ∧ F k
  it : ∀ {own rest F l w'}, s.it own rest F l w' → w0.it own rest F l w' ∧ ∃ F0 : Nat → Prop, (∀ j n, ρ j = some n → H.live j → j ≠ ynum → ¬ F0 n.b) ∧ ∀ k, F k → k < w.heap.size → F0 k
  yl : ∀ own rest, (ynum, ynum) ∈ μ → H.get ynum = some (.yld own rest) → ∃ m F, ρ ynum = some m ∧ s.it own rest F m.b w ∧ ∀ j n, ρ j = some n → H.live j → j ≠ ynum → ¬ F n.b
theorem startC (g : Gam w0 ρ H w) (ok : CallOK μ H) : ∃ s, StartC w0 ρ μ H w s := by
  by_cases hy : (ynum, ynum) ∈ μ ∧ ∃ own rest, H.get ynum = some (.yld own rest)
  · obtain ⟨hmu, own, rest, hget⟩ := hy
    obtain ⟨m, F, hm, hit, hd⟩ := g.yld own rest hget
    let s : Start P := { w := w, pin := μ.ren ρ, free := F, it := fun own rest F' l w' => w0.it own rest F' l w' ∧ w.heap.size ≤ w'.heap.size ∧ ∀ k, F' k → k < w.heap.size → F k }
    have hown : ∀ k, s.own k → k < w0.w.heap.size → w0.own k := by
      rintro k (⟨i, m', h1, h2, h3, h4⟩ | h) hk
      · obtain ⟨i0, hi0, hr0⟩ := Mu.ren_some h3
        have hmb := (ok.mb _ _ hi0) h1
        rcases Nat.lt_or_ge i0 gbase with hl | hl
        · exact .inl ⟨i0, m', hmb, hl, g.pins i0 m' (Nat.le_trans (by decide) hmb) hl hr0, h4⟩
        · rcases (g.own i0 m' hr0).2 hl with h | h
          · omega
          · exact .inr (h4 ▸ h)
      · exact h.elim
    refine ⟨s, rfl, rfl, fun _ h => h, ⟨?_, ?_, ?_, ?_⟩, ?_, ?_, ?_⟩
    · intro own rest F' l w' h; exact g.itok.bound h.1
    · intro own rest F' l w' h k hk hlt; exact h.2.2 k hk hlt
    · intro own rest F' l w1 w2 h h1 h2 h3 hs hk
      refine ⟨g.itok.stable h.1 h1 h2 h3 hs (fun k hk1 hc => hk k hk1 ?_), Nat.le_trans h.2.1 hs, h.2.2⟩
      rcases hc with ⟨c1, c2⟩ | hc
      · exact .inl ⟨Nat.lt_of_lt_of_le c1 g.below.size, fun ho => c2 (ho.elim (fun ho => .inl (hown k ho c1)) (fun ho => .inr (g.itok.free hit k ho c1)))⟩
      · exact .inr hc
    · intro row rest F' l w1 h args' ha
      obtain ⟨L, hL, hsz, hr⟩ := g.itok.round h.1 args' ha
      refine ⟨L, hL, hsz, fun rC n => (hr rC n).mono ?_⟩
      rintro e w2 ⟨b, F2, rfl, q1, q2, q3, q4, q5, q6, q7⟩
      refine ⟨b, F2, rfl, ⟨q1, Nat.le_trans h.2.1 q5, fun k hk hlt => ?_⟩, q2, q3, q4, q5, q6, q7⟩
      rcases q7 k hk with h7 | h7
      · exact h.2.2 k h7 hlt
      · have := h.2.1; omega
    · intro k hk; exact ⟨hmu, own, rest, m, F, hget, hm, hit, hd, hk⟩
    · intro own' rest' F' l w' h; exact ⟨h.1, F, hd, h.2.2⟩
    · intro own' rest' _ h
      rw [hget] at h
      cases h
      exact ⟨m, F, hm, ⟨hit, Nat.le_refl _, fun k hk _ => hk⟩, hd⟩
  · refine ⟨.of P w (μ.ren ρ), rfl, rfl, fun _ h => h, Start.quiet.ok (quiet_of _ _), fun _ h => h.elim, fun h => h.elim, fun own rest h1 h => absurd ⟨h1, own, rest, h⟩ hy⟩

theorem isYld_of {o : AObj} {own : Bool} {rest : Option (List (List D))} {μ : Mu} (h : mapO μ o = some (.yld own rest)) : o = .yld own rest := by
  cases o <;> simp only [mapO] at h <;> first
    | cases h
    | skip
  · split at h <;> cases h
  · rfl
theorem callGam (g : Gam w0 ρ H w) (ok : CallOK μ H) (hp : ∀ p ∈ μ, Placed ρ p.1) {s : Start P} (hs : StartC w0 ρ μ H w s) : Gam s (μ.ren ρ) (heapOf (gcB H μ μ)) w := by
  have hsnd : ∀ {i i' j : Nat}, (i, j) ∈ μ → (i', j) ∈ μ → i = i' := fun h1 h2 => by have := nodup_inj ok.snd h1 h2 rfl; cases this; rfl
  have hfst : ∀ {i j j' : Nat}, (i, j) ∈ μ → (i, j') ∈ μ → j = j' := fun h1 h2 => by have := nodup_inj ok.fst h1 h2 rfl; cases this; rfl
  have hget : ∀ {j : Nat} {o : AObj}, (heapOf (gcB H μ μ)).get j = some o → ∃ i o', (i, j) ∈ μ ∧ H.get i = some o' ∧ mapO μ o' = some o := fun h => gcB_mem (heapOf_get h)
  have obj : ∀ i m o, μ.ren ρ i = some m → (heapOf (gcB H μ μ)).get i = some o → ObjR (μ.ren ρ) w m o ∧ ∃ i0 o0, (i0, i) ∈ μ ∧ ρ i0 = some m ∧ H.get i0 = some o0 ∧ o.alive = o0.alive := by
    intro i m o hm ho
    obtain ⟨i0, hi0, hr0⟩ := Mu.ren_some hm
    obtain ⟨i1, o1, hi1, hg1, hmo⟩ := hget ho
    obtain rfl := hsnd hi0 hi1
    obtain ⟨r1, r2⟩ := mapO_S ok.toS hmo (g.obj _ m _ hr0 hg1)
    exact ⟨r1, i0, o1, hi0, hr0, hg1, r2⟩
  refine ⟨Nat.le_add_right _ _, ?_, ?_, ?_, ?_, ?_, fun i m o hm ho => (obj i m o hm ho).1, ?_, fun i m _ _ h => by rw [hs.hp]; exact h, ?_, hs.ok, ?_⟩
  · intro i hi
    cases hr : μ.ren ρ i with
    | none => rfl
    | some m =>
      obtain ⟨i0, hi0, _⟩ := Mu.ren_some hr
      have := (ok.lo _ _ hi0).2.2
      have h5 : gbase ≤ i := Nat.le_trans (Nat.le_add_right _ _) hi
      omega
  · have := Kept.refl s
    rwa [hs.hw] at this
  · intro j m hm
    obtain ⟨i, hi, hr⟩ := Mu.ren_some hm
    have h1 := (g.own i m hr).1
    have := (ok.lo _ _ hi).2.2
    exact ⟨h1, fun h => by omega⟩
  · intro j m hm hj
    obtain ⟨i, hi, hr⟩ := Mu.ren_some hm
    have := (ok.lo _ _ hi).2.1
    unfold hbase at this; unfold abase at hj
    omega
  · rintro i j mi mj hgi ⟨oi, gi, ai⟩ ⟨oj, gj, aj⟩ ei ej hb
    obtain ⟨_, i0, oi0, hi0, ri0, gi0, hai⟩ := obj i mi oi ei gi
    obtain ⟨_, j0, oj0, hj0, rj0, gj0, haj⟩ := obj j mj oj ej gj
    have := g.inj i0 j0 mi mj ((ok.mb _ _ hi0) hgi) ⟨oi0, gi0, by rw [← hai]; exact ai⟩ ⟨oj0, gj0, by rw [← haj]; exact aj⟩ ri0 rj0 hb
    subst this
    exact hfst hi0 hj0
  · intro j hj hn
    cases ho : (heapOf (gcB H μ μ)).get j with
    | none => exact absurd ho hn
    | some o =>
      obtain ⟨i, o', hi, hg, _⟩ := hget ho
      rcases hp _ hi with h | ⟨m, hm⟩
      · have := (ok.lo _ _ hi).1; simp only at h; omega
      · exact ⟨m, by rw [Mu.ren_of ok.snd hi]; exact hm⟩
  · intro q hq
    obtain ⟨v1, v2⟩ := g.vars q hq
    have h6 := VarKind.ok_some v1
    have h7 : q.1 < w0.w.heap.size := by
      rcases Nat.lt_or_ge q.1 w0.w.heap.size with h | h
      · exact h
      · rw [Array.getElem?_eq_none h] at h6; cases h6
    refine ⟨by rw [hs.hw]; exact g.good q hq, ?_⟩
    rintro ((⟨j, m, h1, h2, h3, h4⟩ | h) | h)
    · rw [hs.hp] at h3
      obtain ⟨i, hij, hr⟩ := Mu.ren_some h3
      have hmi : mbase ≤ i := (ok.mb _ _ hij) h1
      rcases Nat.lt_or_ge i gbase with hl | hl
      · exact v2 (.inl (.inl ⟨i, m, hmi, hl, g.pins i m (Nat.le_trans (by decide) hmi) hl hr, h4⟩))
      · rcases (g.own i m hr).2 hl with h5 | h5
        · omega
        · exact v2 (.inl (.inr (h4 ▸ h5)))
    · exact hs.hm _ h
    · obtain ⟨_, own, rest, m, F, _, _, hit, _, hF⟩ := hs.fr _ h
      exact v2 (.inr (g.itok.free hit _ hF h7))
  · intro own rest hgt
    obtain ⟨i, o', hi, hg, hmo⟩ := hget hgt
    have ho' := isYld_of hmo
    subst ho'
    obtain rfl := (ok.yn _ _ hi).2 rfl
    obtain ⟨m, F, h1, h2, h3⟩ := hs.yl own rest hi hg
    refine ⟨m, F, by rw [Mu.ren_of ok.snd hi]; exact h1, h2, fun j n hj hl hne hF => ?_⟩
    obtain ⟨oj, gj, aj⟩ := hl
    obtain ⟨_, j0, oj0, hj0, rj0, gj0, haj⟩ := obj j n oj hj gj
    exact h3 j0 n rj0 ⟨oj0, gj0, by rw [← haj]; exact aj⟩ (fun e => hne ((ok.yn _ _ hj0).1 e)) hF

/-! ### Back at the caller -/
theorem numFrom_mem : ∀ {l : List Nat} {n j q : Nat}, (j, q) ∈ numFrom l n → j ∈ l ∧ n ≤ q ∧ q < n + l.length
  | [], _, _, _, h => by cases h
  | i :: r, n, j, q, h => by
    unfold numFrom at h
    rcases List.mem_cons.1 h with h | h
    · cases h; exact ⟨List.mem_cons_self .., Nat.le_refl _, by simp⟩
    · obtain ⟨h1, h2, h3⟩ := numFrom_mem h
      exact ⟨List.mem_cons_of_mem _ h1, by omega, by simp only [List.length_cons]; omega⟩
theorem numFrom_snd : ∀ (l : List Nat) (n : Nat), ((numFrom l n).map (·.2)).Nodup
  | [], _ => List.nodup_nil
  | i :: r, n => by
    unfold numFrom
    simp only [List.map_cons, List.nodup_cons]
    refine ⟨fun h => ?_, numFrom_snd r (n + 1)⟩
    obtain ⟨p, hp, e⟩ := List.mem_map.1 h
    obtain ⟨j, q⟩ := p
    have := (numFrom_mem hp).2.1
    simp only at e
    omega
theorem numFrom_fst : ∀ (l : List Nat) (n : Nat), (numFrom l n).map (·.1) = l
  | [], _ => rfl
  | i :: r, n => by unfold numFrom; simp only [List.map_cons, numFrom_fst r]
variable {β : Mu} {bs : Blocks}
theorem mergeP_next : ∀ (l : Mu) (H : Heap), (mergeP β bs l H).next = H.next
  | [], _ => rfl
  | p :: r, H => by
    unfold mergeP
    rw [mergeP_next r]
    split <;> rfl
theorem mergeP_out {i : Nat} : ∀ (l : Mu) (H : Heap), (∀ j, (i, j) ∈ l → ¬ mbase ≤ j) → (mergeP β bs l H).get i = H.get i
  | [], _, _ => rfl
  | p :: r, H, h => by
    unfold mergeP
    rw [mergeP_out r _ (fun j hj => h j (List.mem_cons_of_mem _ hj))]
    split
    · rename_i hm
      rw [Heap.get_set, if_neg (fun e => h p.2 (by rw [e]; exact List.mem_cons_self ..) hm)]
    · rfl
theorem mergeP_in {i j : Nat} : ∀ (l : Mu) (H : Heap), (l.map (·.1)).Nodup → (i, j) ∈ l → mbase ≤ j → (mergeP β bs l H).get i = some (objAt β bs j)
  | [], _, _, h, _ => by cases h
  | p :: r, H, hn, h, hj => by
    simp only [List.map_cons, List.nodup_cons] at hn
    unfold mergeP
    rcases List.mem_cons.1 h with h | h
    · subst h
      rw [mergeP_out r _ (fun q hq => absurd (List.mem_map.2 ⟨_, hq, rfl⟩) hn.1), if_pos hj, Heap.get_set, if_pos rfl]
    · exact mergeP_in r _ hn.2 h hj
theorem mergeN_next : ∀ (l : List Nat) (H : Heap), (mergeN β bs l H).next = H.next + l.length
  | [], _ => rfl
  | j :: r, H => by unfold mergeN; rw [mergeN_next r]; simp only [Heap.next_new, List.length_cons]; omega
theorem mergeN_old {i : Nat} : ∀ (l : List Nat) (H : Heap), i < H.next → (mergeN β bs l H).get i = H.get i
  | [], _, _ => rfl
  | j :: r, H, h => by
    unfold mergeN
    rw [mergeN_old r _ (by simp only [Heap.next_new]; omega), Heap.get_new, if_neg (by omega)]
theorem mergeN_new {i j : Nat} : ∀ (l : List Nat) (H : Heap), (j, i) ∈ numFrom l H.next → (mergeN β bs l H).get i = some (objAt β bs j)
  | [], _, h => by cases h
  | q :: r, H, h => by
    unfold numFrom at h
    unfold mergeN
    rcases List.mem_cons.1 h with h | h
    · cases h
      rw [mergeN_old r _ (by simp only [Heap.next_new]; omega), Heap.get_new, if_pos rfl]
    · exact mergeN_new r (H.new (objAt β bs q)) (by simpa only [Heap.next_new] using h)

theorem mergeGam {ρ' : Ren} {w' : World} (g : Gam w0 ρ H w) (ok : CallOK μ H) (hp : ∀ p ∈ μ, Placed ρ p.1) {s : Start P} (hs : StartC w0 ρ μ H w s) (g' : Gam s ρ' (heapOf bs) w') (hnd : ((newsOf bs).map (·.1)).Nodup) :
    ∃ ρm, Gam w0 ρm (merged μ bs H) w' ∧ Ext ρ ρm H (merged μ bs H) ∧ ∀ v v', VR ρ' v v' → VR ρm (mapV (backMu μ H.next bs) 8 v) v' := by
  let news := (newsOf bs).map (·.1)
  let β := backMu μ H.next bs
  have place : ∀ {i j : Nat}, (i, j) ∈ μ → ∃ m, ρ i = some m := by
    intro i j hij
    rcases hp _ hij with h | h
    · have := (ok.lo _ _ hij).1; simp only at h; omega
    · exact h
  have ilt : ∀ {i j : Nat}, (i, j) ∈ μ → i < H.next := fun hij => let ⟨m, hm⟩ := place hij; g.lt hm
  have newge : ∀ j ∈ news, gbase ≤ j := by
    intro j hj
    obtain ⟨p, hp, rfl⟩ := List.mem_map.1 hj
    simpa using (List.mem_filter.1 hp).2
  have βmem : ∀ {j i : Nat}, (j, i) ∈ β → ((i, j) ∈ μ) ∨ (j, i) ∈ numFrom news H.next := by
    intro j i h
    rcases List.mem_append.1 h with h | h
    · obtain ⟨p, hp, e⟩ := List.mem_map.1 h
      cases e; exact .inl hp
    · exact .inr h
  have βS : MuS β := by
    refine ⟨?_, fun j i h hj => ?_⟩
    · show ((μ.map (fun p => (p.2, p.1)) ++ numFrom news H.next).map (·.2)).Nodup
      rw [List.map_append, List.map_map]
      refine List.nodup_append.2 ⟨ok.fst, numFrom_snd _ _, ?_⟩
      intro a ha b hb e
      subst e
      obtain ⟨p, hp1, rfl⟩ := List.mem_map.1 ha
      obtain ⟨q, hq, e⟩ := List.mem_map.1 hb
      obtain ⟨j, i⟩ := q
      have h1 := (numFrom_mem hq).2.1
      have h2 : p.1 < H.next := ilt (j := p.2) hp1
      simp only [Function.comp] at e
      omega
    · rcases βmem h with h | h
      · have := (ok.lo _ _ h).2.1; unfold hbase at this; unfold abase at hj; omega
      · have := newge j (numFrom_mem h).1
        unfold gbase at this; unfold abase at hj; omega
  let ρm : Ren := fun i => if i < H.next then ρ i else β.ren ρ' i
  have ρlt : ∀ {i : Nat}, i < H.next → ρm i = ρ i := fun h => if_pos h
  have ρge : ∀ {i : Nat}, ¬ i < H.next → ρm i = β.ren ρ' i := fun h => if_neg h
  -- what was handed lies where it lay
  have pinned : ∀ {i j : Nat} {m : Meta}, (i, j) ∈ μ → ρ' j = some m → ρ i = some m := by
    intro i j m hij hj
    have h1 := ok.lo _ _ hij
    have := g'.pins j m h1.2.1 h1.2.2 hj
    rw [hs.hp] at this
    rwa [Mu.ren_of ok.snd hij] at this
  have hle : (β.ren ρ').le ρm := by
    intro i m hm
    obtain ⟨j, hj, hr⟩ := Mu.ren_some hm
    rcases βmem hj with h | h
    · rw [ρlt (ilt h)]; exact pinned h hr
    · rw [ρge (by have := (numFrom_mem h).2.1; omega)]; exact hm
  have objR : ∀ {j : Nat} {m : Meta}, ρ' j = some m → ObjR ρm w' m (objAt β bs j) := by
    intro j m hj
    unfold objAt
    cases hg : (heapOf bs).get j with
    | none => trivial
    | some o =>
      simp only [Option.bind_some]
      cases hm : mapO β o with
      | none => trivial
      | some o2 => exact (mapO_S βS hm (g'.obj j m o hj hg)).1.mono hle (fun _ => rfl)
  have objA : ∀ {j : Nat}, (objAt β bs j).alive = true → (heapOf bs).live j := by
    intro j h
    unfold objAt at h
    cases hg : (heapOf bs).get j with
    | none => rw [hg] at h; cases h
    | some o =>
      rw [hg] at h
      simp only [Option.bind_some] at h
      cases hm : mapO β o with
      | none => rw [hm] at h; cases h
      | some o2 =>
        rw [hm] at h
        refine ⟨o, hg, ?_⟩
        by_cases hj : ∃ m, ρ' j = some m
        · obtain ⟨m, hj⟩ := hj
          rw [← (mapO_S βS hm (g'.obj j m o hj hg)).2]; exact h
        · refine mapO_alive hm (fun e => ?_)
          subst e; cases h
  have hnx : (merged μ bs H).next = H.next + news.length := by
    show (mergeN β bs news (mergeP β bs μ H)).next = _
    rw [mergeN_next, mergeP_next]
  have getOut : ∀ {i : Nat}, i < H.next → (∀ j, (i, j) ∈ μ → ¬ mbase ≤ j) → (merged μ bs H).get i = H.get i := by
    intro i hi h
    show (mergeN β bs news (mergeP β bs μ H)).get i = _
    rw [mergeN_old _ _ (by rw [mergeP_next]; exact hi), mergeP_out _ _ h]
  have getIn : ∀ {i j : Nat}, (i, j) ∈ μ → mbase ≤ j → (merged μ bs H).get i = some (objAt β bs j) := by
    intro i j hij hj
    show (mergeN β bs news (mergeP β bs μ H)).get i = _
    rw [mergeN_old _ _ (by rw [mergeP_next]; exact ilt hij), mergeP_in _ _ ok.fst hij hj]
  have getNew : ∀ {i j : Nat}, (j, i) ∈ numFrom news H.next → (merged μ bs H).get i = some (objAt β bs j) := by
    intro i j h
    exact mergeN_new _ _ (by rw [mergeP_next]; exact h)
  have newOf : ∀ {i : Nat} {m : Meta}, ¬ i < H.next → ρm i = some m → ∃ j, (j, i) ∈ numFrom news H.next ∧ ρ' j = some m ∧ gbase ≤ j := by
    intro i m hi hm
    rw [ρge hi] at hm
    obtain ⟨j, hj, hr⟩ := Mu.ren_some hm
    rcases βmem hj with h | h
    · exact absurd (ilt h) hi
    · exact ⟨j, h, hr, newge j (numFrom_mem h).1⟩
  -- what may have been written
  have mayOf : ∀ {k : Nat}, s.own k → ∃ i j m, (i, j) ∈ μ ∧ mbase ≤ i ∧ mbase ≤ j ∧ ρ i = some m ∧ m.b = k ∧ H.live i := by
    rintro k (⟨j, m, h1, h2, h3, h4⟩ | h)
    · rw [hs.hp] at h3
      obtain ⟨i, hij, hr⟩ := Mu.ren_some h3
      obtain ⟨o, _, ho, _, ha⟩ := ok.live _ _ hij
      exact ⟨i, j, m, hij, (ok.mb _ _ hij) h1, h1, hr, h4, o, ho, ha⟩
    · exact (hs.hm _ h).elim
  have ownOf : ∀ {k : Nat}, s.own k → k < w0.w.heap.size → w0.own k := by
    intro k h hk
    obtain ⟨i, j, m, hij, hi, hj, hr, rfl, _⟩ := mayOf h
    rcases Nat.lt_or_ge i gbase with hl | hl
    · exact .inl ⟨i, m, hi, hl, g.pins i m (Nat.le_trans (by decide) hi) hl hr, rfl⟩
    · rcases (g.own i m hr).2 hl with h5 | h5
      · omega
      · exact .inr h5
  have liveOld : ∀ {i : Nat}, i < H.next → (merged μ bs H).live i → H.live i ∧ ∀ j, (i, j) ∈ μ → mbase ≤ j → (heapOf bs).live j := by
    rintro i hi ⟨o, ho, ha⟩
    by_cases h : ∃ j, (i, j) ∈ μ ∧ mbase ≤ j
    · obtain ⟨j, hij, hj⟩ := h
      obtain ⟨o1, _, h1, _, h2⟩ := ok.live _ _ hij
      refine ⟨⟨o1, h1, h2⟩, fun j' hij' hj' => ?_⟩
      rw [getIn hij' hj'] at ho
      cases ho
      exact objA ha
    · rw [getOut hi (fun j hij hj => h ⟨j, hij, hj⟩)] at ho
      exact ⟨⟨o, ho, ha⟩, fun j hij hj => absurd ⟨j, hij, hj⟩ h⟩
  have hk' := g'.below
  have hsz : w.heap.size ≤ w'.heap.size := by have := hk'.size; rwa [hs.hw] at this
  have hko : w'.os = w.os := by have := hk'.os; rwa [hs.hw] at this
  have hkt : w'.tape = w.tape := by have := hk'.tape; rwa [hs.hw] at this
  have hkp : w'.output = w.output := by have := hk'.output; rwa [hs.hw] at this
  have hkb : ∀ k, k < w.heap.size → ¬ s.may k → w'.heap[k]? = w.heap[k]? := by have := hk'.block; rwa [hs.hw] at this
  have newb : ∀ {q : Nat} {mq : Meta}, ρ' q = some mq → gbase ≤ q → w.heap.size ≤ mq.b := fun h1 h2 => by
    have := ((g'.own _ _ h1).2 h2).resolve_right (hs.hm _)
    rwa [hs.hw] at this
  refine ⟨ρm, ⟨by rw [hnx]; exact Nat.le_trans g.gb (Nat.le_add_right _ _), ?_, ?_, ?_, ?_, ?_, ?_, ?_, ?_, g.vars, g.itok, ?_⟩, ⟨?_, by rw [hnx]; exact Nat.le_add_right _ _, ?_⟩, fun v v' hv => (mapV_S βS 8 v v' hv).mono hle⟩
  · -- fresh
    intro i hi
    rw [hnx] at hi
    cases hr : ρm i with
    | none => rfl
    | some m =>
      obtain ⟨j, hj, _⟩ := newOf (by omega) hr
      have := (numFrom_mem hj).2.2
      omega
  · -- below
    refine ⟨hko.trans g.below.os, hkt.trans g.below.tape, hkp.trans g.below.output, Nat.le_trans g.below.size hsz, fun k hk hm => ?_⟩
    refine (hkb k (Nat.lt_of_lt_of_le hk g.below.size) (fun hmay => ?_)).trans (g.below.block k hk hm)
    rcases hmay with hmay | hmay
    · exact hm (.inl (ownOf hmay hk))
    · obtain ⟨_, own, rest, m, F, _, _, hit, _, hF⟩ := hs.fr _ hmay
      exact hm (.inr (g.itok.free hit _ hF hk))
  · -- own
    intro i m hm
    by_cases hi : i < H.next
    · rw [ρlt hi] at hm
      have := g.own i m hm
      exact ⟨by omega, this.2⟩
    · obtain ⟨j, hj, hr, hge⟩ := newOf hi hm
      have := g'.own j m hr
      have h1 := newb hr hge
      have h2 := g.below.size
      exact ⟨this.1, fun _ => .inl (by omega)⟩
  · -- glob
    intro i m hm hi
    rw [ρlt (by have := g.gb; unfold gbase at this; unfold abase at hi; omega)] at hm
    exact g.glob i m hm hi
  · -- inj
    intro i j mi mj hgi hi hj ei ej hb
    by_cases h1 : i < H.next
    · rw [ρlt h1] at ei
      by_cases h2 : j < H.next
      · rw [ρlt h2] at ej
        exact g.inj i j mi mj hgi (liveOld h1 hi).1 (liveOld h2 hj).1 ei ej hb
      · obtain ⟨q, hq, hr, hge⟩ := newOf h2 ej
        have a1 := (g.own i mi ei).1
        have a2 := newb hr hge
        omega
    · obtain ⟨p, hp1, hr1, hge1⟩ := newOf h1 ei
      by_cases h2 : j < H.next
      · rw [ρlt h2] at ej
        have a1 := (g.own j mj ej).1
        have a2 := newb hr1 hge1
        omega
      · obtain ⟨q, hq, hr2, hge2⟩ := newOf h2 ej
        obtain ⟨oi, hoi, hai⟩ := hi
        obtain ⟨oj, hoj, haj⟩ := hj
        rw [getNew hp1] at hoi
        rw [getNew hq] at hoj
        cases hoi
        cases hoj
        have := g'.inj p q mi mj (mb_of hge1) (objA hai) (objA haj) hr1 hr2 hb
        subst this
        have hnf : ((numFrom news H.next).map (·.1)).Nodup := by rw [numFrom_fst]; exact hnd
        have := nodup_inj hnf hp1 hq rfl
        cases this
        rfl
  · -- objects
    intro i m o hm ho
    by_cases hi : i < H.next
    · rw [ρlt hi] at hm
      by_cases h : ∃ j, (i, j) ∈ μ ∧ mbase ≤ j
      · obtain ⟨j, hij, hj⟩ := h
        rw [getIn hij hj] at ho
        cases ho
        cases hg : (heapOf bs).get j with
        | none => unfold objAt; rw [hg]; trivial
        | some ob =>
          obtain ⟨m', hm'⟩ := g'.gmap j (.inr ⟨hj, (ok.lo _ _ hij).2.2⟩) (by rw [hg]; simp)
          have := pinned hij hm'
          rw [hm] at this
          cases this
          exact objR hm'
      · have hout : ∀ j, (i, j) ∈ μ → ¬ mbase ≤ j := fun j hij hj => h ⟨j, hij, hj⟩
        rw [getOut hi hout] at ho
        by_cases hyo : ∃ own rest, o = .yld own rest
        · obtain ⟨own, rest, rfl⟩ := hyo; trivial
        refine (g.obj i m o hm ho).mono (fun q n hq => by rw [ρlt (g.lt hq)]; exact hq) (fun hal => ?_)
        refine hkb m.b (g.own i m hm).1 (fun hmay => ?_)
        rcases hmay with hmay | hmay
        · obtain ⟨i2, j2, m2, hij2, hi2, hj2, hr2, hb2, hl2⟩ := mayOf hmay
          have := g.inj i2 i m2 m hi2 hl2 ⟨o, ho, hal⟩ hr2 hm hb2
          subst this
          exact hout _ hij2 hj2
        · obtain ⟨_, own, rest, my, F, hgy, hmy, hit, hd, hF⟩ := hs.fr _ hmay
          exact hd i m hm ⟨o, ho, hal⟩ (fun e => by subst e; rw [hgy] at ho; cases ho; exact hyo ⟨own, rest, rfl⟩) hF
    · obtain ⟨j, hj, hr, _⟩ := newOf hi hm
      rw [getNew hj] at ho
      cases ho
      exact objR hr
  · -- gmap
    intro i hi hn
    have hlt : i < H.next := by
      have := g.gb
      rcases hi with h | h
      · unfold gbase at this; unfold abase at h; omega
      · omega
    rw [ρlt hlt]
    by_cases h : ∃ j, (i, j) ∈ μ ∧ mbase ≤ j
    · obtain ⟨j, hij, _⟩ := h
      exact place hij
    · rw [getOut hlt (fun j hij hj => h ⟨j, hij, hj⟩)] at hn
      exact g.gmap i hi hn
  · -- pins
    intro i m ha hi hm
    rw [ρlt (by have := g.gb; omega)] at hm
    exact g.pins i m ha hi hm
  · -- the rounds
    intro own rest hget
    have hylt : ynum < H.next := Nat.lt_of_lt_of_le (by decide) g.gb
    by_cases hy : (ynum, ynum) ∈ μ
    · rw [getIn hy (by decide)] at hget
      simp only [Option.some.injEq] at hget
      have hob : (heapOf bs).get ynum = some (.yld own rest) := by
        unfold objAt at hget
        cases hg : (heapOf bs).get ynum with
        | none => rw [hg] at hget; cases hget
        | some o =>
          rw [hg] at hget
          simp only [Option.bind_some] at hget
          cases hm : mapO β o with
          | none => have hm' : mapO (backMu μ H.next bs) o = none := hm; rw [hm'] at hget; cases hget
          | some o2 =>
            have hm' : mapO (backMu μ H.next bs) o = some o2 := hm
            rw [hm'] at hget
            simp only [Option.getD_some] at hget
            subst hget
            rw [isYld_of hm]
      obtain ⟨m, F, h1, h2, h3⟩ := g'.yld own rest hob
      have hρy := pinned hy h1
      obtain ⟨h4, F0, hd0, hsub⟩ := hs.it h2
      refine ⟨m, F, by rw [ρlt hylt]; exact hρy, h4, fun j n hj hl hne hF => ?_⟩
      by_cases hlt : j < H.next
      · have hj0 := hj
        rw [ρlt hlt] at hj0
        by_cases hq : ∃ q, (j, q) ∈ μ ∧ mbase ≤ q
        · obtain ⟨q, hjq, hmq⟩ := hq
          have hlq := (liveOld hlt hl).2 q hjq hmq
          obtain ⟨oq, goq, _⟩ := hlq
          obtain ⟨mq, hmq2⟩ := g'.gmap q (.inr ⟨hmq, (ok.lo _ _ hjq).2.2⟩) (by rw [goq]; simp)
          have := pinned hjq hmq2
          rw [hj0] at this
          cases this
          exact h3 q n hmq2 ((liveOld hlt hl).2 q hjq hmq) (fun e => hne ((ok.yn _ _ hjq).2 e)) hF
        · exact hd0 j n hj0 (liveOld hlt hl).1 hne (hsub _ hF (g.own j n hj0).1)
      · obtain ⟨q, hq, hr, hge⟩ := newOf hlt hj
        obtain ⟨o, ho, ha⟩ := hl
        rw [getNew hq] at ho
        cases ho
        exact h3 q n hr (objA ha) (fun e => by subst e; exact absurd hge (by decide)) hF
    · have hny : ∀ j, (ynum, j) ∈ μ → ¬ mbase ≤ j := fun j hj => absurd ((ok.yn _ _ hj).1 rfl ▸ hj) hy
      have hget2 := hget
      rw [getOut hylt hny] at hget2
      refine (g.yld_step (H' := merged μ bs H) (fun own rest h => by rwa [getOut hylt hny] at h) (fun m hm => by rw [ρlt hylt]; exact hm) hko hkt hkp hsz (fun k hk => ?_) (fun j n hj hl hne => ?_)) own rest hget
      · by_cases hmay : s.own k
        · obtain ⟨i, j, m, hij, hi, hj, hr, hb, hl⟩ := mayOf hmay
          exact .inr ⟨i, m, hr, hl, fun e => by subst e; exact hny _ hij hj, hi, hb⟩
        · exact .inl (hkb k hk (fun h => h.elim hmay (fun h => absurd (hs.fr _ h).1 hy)))
      · by_cases hlt : j < H.next
        · rw [ρlt hlt] at hj
          exact .inl ⟨j, n, hj, (liveOld hlt hl).1, hne, rfl⟩
        · obtain ⟨q, hq, hr, hge⟩ := newOf hlt hj
          exact .inr (newb hr hge)
  · -- le
    intro i m hm
    rw [ρlt (g.lt hm)]; exact hm
  · -- keep
    intro i hi hn
    refine ⟨by rw [ρlt hi]; exact hn, getOut hi (fun j hij _ => ?_)⟩
    obtain ⟨m, hm⟩ := place hij
    rw [hn] at hm; cases hm

end Go.Abs

/- State contracts: a function whose body has been walked. -/
namespace Go.Abs
open Go.RowKit
variable {P : Program} {ρ : Ren} {w0 : Start P} {w : World} {H : Heap} {h : Handler} {L : AtLoop}

theorem stateK_out (g : Gam w0 ρ H w) {v v' : Value} (hv : VR ρ v v') {K : Value → Blocks → Prop} (hk : stateK K v H) : ∃ v2 bs ρ2, K v2 bs ∧ VR ρ2 v2 v' ∧ Gam w0 ρ2 (heapOf bs) w := by
  unfold stateK at hk
  obtain ⟨hgood, hk⟩ := bcase_out hk
  let A : AAct := ⟨.leaf, 0, []⟩
  have hall : gcAll (endMu v H) [] A (gcB H (endMu v H) (endMu v H)) = true := by simp [gcAll, gcDef, hgood, A]
  let a : Act := ⟨#[], []⟩
  have ra : ActR ρ A a := ⟨rfl, fun t => by
    have e1 : A.slot t = undef := rfl
    have e2 : a.tmps.getD t undef = undef := rfl
    rw [e1, e2]; exact VR.undef _, ⟨rfl, fun j D e => by simp [A] at e⟩⟩
  obtain ⟨g2, _⟩ := gc_sub g ra (keep := []) hall
  exact ⟨_, _, _, hk, mapV_VR (gcGood_ok hgood) 8 _ _ hv, g2⟩

/-- A loop of a function, whatever its end is. -/
structure LoopGoodF (P : Program) (h : Handler) (L : AtLoop) (f : FuncId) (c : Code) (lv : Lv) (id : Nat) (F : Value → Heap → Prop) (X : Type) (st : X → Slots × Blocks) (inv : X → Prop) (m : X → Nat) : Prop where
  head : ∀ s b, L id s b → ∃ x, inv x ∧ st x = (s, b)
  flat : ((findLoop c lv id).map fun r => loopIds r.1) = some []
  round : ∀ x, inv x → wpRound P h L f id (st x).1 (st x).2 (fun s b => ∃ y, inv y ∧ m y < m x ∧ st y = (s, b))
    (fun i s b => if i = id then wpNext P h L f id .normal s b F else wpNext P h L f id (.exit i) s b F) F

end Go.Abs

/- Handlers by a table hold if each entry does. -/
namespace Go.Abs
open Go.RowKit
variable {P : Program}
theorem saidH_ok {C : FuncId → List D → List D → Prop} (hC : ∀ f ds rs, C f ds rs → Con P f ds rs) : HandlerOK P (saidH P C) := by
  intro g args ats H k hk
  unfold saidH at hk
  split at hk
  · exact wpSaid_call hC hk
  · exact hk.elim
theorem fixH_ok {C : FuncId → List D → List D → Prop} (hC : ∀ f ds rs, C f ds rs → Con P f ds rs) {fix : List D → Option (List D)} : HandlerOK P (fixH C fix) := fun _ _ _ _ _ hk => wpFix_call hC hk
/-- (a state contract speaks of one function) -/
def PreOK (P : Program) (pre : FuncId → Option Handler) : Prop := ∀ g h, pre g = some h → ∀ args ats H k, h g args ats H k → CallH P g args H k
theorem handlerX_ok (hmix : P.follows .mixedOrders = true) {pre : FuncId → Option Handler} (hp : PreOK P pre) {u : Nat} (hu : u ≠ 0) : ∀ n, HandlerOK P (handlerX P pre u n)
  | 0 => fun _ _ _ _ _ h => h.elim
  | n + 1 => fun g args ats H k hk => by
    simp only [handlerX] at hk
    split at hk
    · rename_i h he
      exact hp g h he args ats H k hk
    · exact wpFn_call (handlerX_ok hmix hp hu n) hmix hu hk
abbrev limBs (ti : TypeId) (cs : List Value) (lo hi : Int) : Blocks := [(900, .cells cs ti false 1), (901, .cells [.int .i64 lo] ti false 1), (902, .cells [.int .i64 hi] ti false 1)]
abbrev limArgs (n cap : Nat) : List Value := [.slice (some ⟨900, 0, none⟩) n cap, .pointer (some ⟨901, 0, none⟩), .pointer (some ⟨902, 0, none⟩)]
/-- What is left to show of the function that limit returns. -/
def limGoal (P : Program) (f : FuncId) (ti : TypeId) (n : Nat) (cs : List Value) (cap : Nat) (lo hi : Int) (K : Value → Blocks → Prop) : Prop :=
  wpFn P (fun _ _ _ _ _ => False) (fun _ _ _ => False) 6 f (limArgs n cap).toArray (heapOf (limBs ti cs lo hi)) (stateK K)
structure LimGood (P : Program) (f : FuncId) (ti : TypeId) : Prop where
  mix : P.follows .mixedOrders = true
  fn : ∃ fn c, P.funcs[f]? = some fn ∧ fn.body = some c
  one : ∀ cap lo hi x, limGoal P f ti 1 [.int .i64 x] cap lo hi (fun v b => v = .int .i64 (limE lo hi [.int .i64 x]) ∧ b = limBs ti [.int .i64 x] lo hi)
  two : ∀ cap lo hi x y, limGoal P f ti 2 [.int .i64 x, .int .i64 y] cap lo hi (fun v b => v = .int .i64 (limE lo hi [.int .i64 x, .int .i64 y]) ∧ b = limBs ti [.int .i64 x, .int .i64 y] lo hi)
  three : ∀ cap lo hi x y z, limGoal P f ti 3 [.int .i64 x, .int .i64 y, .int .i64 z] cap lo hi (fun v b => v = .int .i64 (limE lo hi [.int .i64 x, .int .i64 y, .int .i64 z]) ∧ b = limBs ti [.int .i64 x, .int .i64 y, .int .i64 z] lo hi)
  four : ∀ cap lo hi x y z u, limGoal P f ti 4 [.int .i64 x, .int .i64 y, .int .i64 z, .int .i64 u] cap lo hi (fun v b => v = .int .i64 (limE lo hi [.int .i64 x, .int .i64 y, .int .i64 z, .int .i64 u]) ∧ b = limBs ti [.int .i64 x, .int .i64 y, .int .i64 z, .int .i64 u] lo hi)
end Go.Abs

/- Pairs of whole numbers as cells. -/
namespace Go.Abs
theorem bc_t {p : Prop} [Decidable p] {x y : Prop} (h : p) : bcase (decide p) x y = x := by rw [decide_eq_true h]; rfl
theorem bc_f {p : Prop} [Decidable p] {x y : Prop} (h : ¬ p) : bcase (decide p) x y = y := by rw [decide_eq_false h]; rfl
/-- pairs of whole numbers as cells -/
def vp : List (Int × Int) → List Value
  | [] => []
  | p :: r => .int .i64 p.1 :: .int .i64 p.2 :: vp r
@[simp] theorem vp_length : ∀ l : List (Int × Int), (vp l).length = l.length * 2
  | [] => rfl
  | p :: r => by simp only [vp, List.length_cons, vp_length r]; omega
theorem bc_n {a b : Int} {x y : Prop} (h : a ≠ b) : bcase (a != b) x y = x := by rw [show (a != b) = true by simpa using h]; rfl
/-- what is loaded is what is there -/
theorem at1 {l : List Value} {k : Nat} {a : Int} (h : At l k 1 [.int .i64 a]) {Q : Int → Prop} : (∃ n : Int, At l k 1 [.int .i64 n] ∧ Q n) = Q a := by
  apply propext
  constructor
  · rintro ⟨n, hn, hq⟩
    have e := hn.eq.symm.trans h.eq
    simp only [List.cons.injEq, Value.int.injEq, true_and, and_true] at e
    rw [← e]; exact hq
  · intro hq; exact ⟨a, h, hq⟩
abbrev dI (n : Int) : D := .val (.int .i64 n)
/-- the first number that is not naught -/
def fst0 : List Int → Int
  | [] => 0
  | p :: r => if p = 0 then fst0 r else p
end Go.Abs

/- A walk that is cut at loops and at the ends of named blocks: definitions. -/
namespace Go.Abs
/-- What is met where a walk is cut: what is read later, renumbered. -/
def cutAt (L : AtLoop) (id : Nat) (live : List Tmp) (A : AAct) (H : Heap) : Prop :=
  let keep := sortT live; let μ := gcMu keep A H; bcase (gcAll μ keep A (gcB H μ μ)) (L id (gcS μ keep A) (gcB H μ μ)) False
def cutK (L : AtLoop) (id : Nat) (live : List Tmp) (k : Exit → AAct → Heap → Prop) : Exit → AAct → Heap → Prop := fun e A H =>
  match e with
  | .normal => cutAt L id live A H
  | .exit i => if i = id then cutAt L id live A H else k (.exit i) A H
  | e => k e A H
/-- A region that is cut at its end. -/
def endK (L : AtLoop) (id : Nat) (live : List Tmp) (k : Exit → AAct → Heap → Prop) : Exit → AAct → Heap → Prop := fun e A H =>
  match e with
  | .normal => cutAt L id live A H
  | e => k e A H
/-- As wpT with u = 0; the blocks of J, and the regions of J (30000 and more), are cut at their ends. -/
def wpJ (P : Program) (h : Handler) (L : AtLoop) (J : List Nat) : Code → Lv → AAct → Heap → (Exit → AAct → Heap → Prop) → Prop
  | .seq x y, l, A, H, k => wpJ P h L J x { l with normal := liveIn y l } A H (seqK (fun A' H' => wpJ P h L J y l A' H' k) k)
  | .cond c x y, l, A, H, k =>
    match A.eval c with
    | .bool true => wpJ P h L J x l A H k
    | .bool false => wpJ P h L J y l A H k
    | _ => False
  | .block id body, l, A, H, k =>
    if isLoop body = true then wpT P h L 0 (.block id body) l A H k
    else if J.contains id = true then wpJ P h L J body { l with exits := (id, l.normal) :: l.exits } A H (cutK L id l.normal k)
    else wpJ P h L J body { l with exits := (id, l.normal) :: l.exits } A H (blockK id k)
  | .loop _, _, _, _, _ => False
  | .region id ops d, l, A, H, k =>
    if J.contains (30000 + id) = true then wpT P h L 0 (.region id ops d) l A H (endK L (30000 + id) l.normal k)
    else wpT P h L 0 (.region id ops d) l A H k
  | c, l, A, H, k => wpT P h L 0 c l A H k
/-- The points of a piece of code: its loops, and the blocks of J. -/
def ptIds (J : List Nat) : Code → List Nat
  | .seq x y => ptIds J x ++ ptIds J y
  | .cond _ x y => ptIds J x ++ ptIds J y
  | .block i b => if isLoop b then [i] else if J.contains i then i :: ptIds J b else ptIds J b
  | .rangeFunc _ _ a b => [rngId a b]
  | .region i _ _ => if J.contains (30000 + i) then [30000 + i] else []
  | _ => []
/-- What must be shown where the code goes on behind that point. -/
def aftJ (P : Program) (h : Handler) (L : AtLoop) (J : List Nat) : Code → Lv → Nat → Exit → AAct → Heap → (Exit → AAct → Heap → Prop) → Prop
  | .seq x y, l, id, e, A, H, k =>
    if (ptIds J x).contains id then aftJ P h L J x { l with normal := liveIn y l } id e A H (seqK (fun A' H' => wpJ P h L J y l A' H' k) k)
    else aftJ P h L J y l id e A H k
  | .cond _ x y, l, id, e, A, H, k => if (ptIds J x).contains id then aftJ P h L J x l id e A H k else aftJ P h L J y l id e A H k
  | .block i b, l, id, e, A, H, k =>
    if isLoop b then (if i = id then k e A H else False)
    else if J.contains i then (if i = id then k e A H else aftJ P h L J b { l with exits := (i, l.normal) :: l.exits } id e A H (cutK L i l.normal k))
    else aftJ P h L J b { l with exits := (i, l.normal) :: l.exits } id e A H (blockK i k)
  | .region _ _ _, _, _, e, A, H, k => k e A H
  | .rangeFunc _ _ a b, _, id, e, A, H, k => if rngId a b = id then k e A H else False
  | _, _, _, _, _, _, _ => False
/-- A call whose body is walked with cuts. -/
def jFn (P : Program) (h : Handler) (L : AtLoop) (J : List Nat) (f : FuncId) (args : Array Value) (H : Heap) (k : Value → Heap → Prop) : Prop :=
  match P.funcs[f]? with
  | some fn =>
    match fn.body with
    | some c => wpJ P h L J c (fnLv fn) (act0 fn args) H (fnK P fn k)
    | none => False
  | none => False
/-- What follows a point of the function. -/
def jNext (P : Program) (h : Handler) (L : AtLoop) (J : List Nat) (f : FuncId) (id : Nat) (e : Exit) (s : Slots) (b : Blocks) (k : Value → Heap → Prop) : Prop :=
  match P.funcs[f]? with
  | some fn => match fn.body with | some c => aftJ P h L J c (fnLv fn) id e (actOf (fnSize fn) s) (heapOf b) (fnK P fn k) | none => False
  | none => False
/-- The body of a loop of the function. -/
def jRound (P : Program) (h : Handler) (L : AtLoop) (J : List Nat) (f : FuncId) (id : Nat) (s : Slots) (b : Blocks) (B : Slots → Blocks → Prop) (X : Nat → Slots → Blocks → Prop) (k : Value → Heap → Prop) : Prop :=
  match P.funcs[f]? with
  | some fn =>
    match fn.body with
    | some c =>
      match findLoop c (fnLv fn) id with
      | some (body, l) => wpJ P h L J body l (actOf (fnSize fn) s) (heapOf b) (roundK body l B X (fnK P fn k))
      | none => False
    | none => False
  | none => False
/-- What follows a point within the body of a loop of the function. -/
def jIn (P : Program) (h : Handler) (L : AtLoop) (J : List Nat) (f : FuncId) (id id2 : Nat) (e : Exit) (s : Slots) (b : Blocks) (B : Slots → Blocks → Prop) (X : Nat → Slots → Blocks → Prop) (k : Value → Heap → Prop) : Prop :=
  match P.funcs[f]? with
  | some fn =>
    match fn.body with
    | some c =>
      match findLoop c (fnLv fn) id with
      | some (body, l) => aftJ P h L J body l id2 e (actOf (fnSize fn) s) (heapOf b) (roundK body l B X (fnK P fn k))
      | none => False
    | none => False
  | none => False
/-- The body of a loop within a loop of the function. -/
def jRound2 (P : Program) (h : Handler) (L : AtLoop) (J : List Nat) (f : FuncId) (id id2 : Nat) (s : Slots) (b : Blocks) (B : Slots → Blocks → Prop) (X : Nat → Slots → Blocks → Prop) (k : Value → Heap → Prop) : Prop :=
  match P.funcs[f]? with
  | some fn =>
    match fn.body with
    | some c =>
      match findLoop c (fnLv fn) id with
      | some (body, l) =>
        match findLoop body l id2 with
        | some (body2, l2) => wpJ P h L J body2 l2 (actOf (fnSize fn) s) (heapOf b) (roundK body2 l2 B X (fnK P fn k))
        | none => False
      | none => False
    | none => False
  | none => False
/-- What follows a cut within the body of a loop within a loop. -/
def jIn2 (P : Program) (h : Handler) (L : AtLoop) (J : List Nat) (f : FuncId) (id id2 id3 : Nat) (e : Exit) (s : Slots) (b : Blocks) (B : Slots → Blocks → Prop) (X : Nat → Slots → Blocks → Prop) (k : Value → Heap → Prop) : Prop :=
  match P.funcs[f]? with
  | some fn =>
    match fn.body with
    | some c =>
      match findLoop c (fnLv fn) id with
      | some (body, l) =>
        match findLoop body l id2 with
        | some (body2, l2) => aftJ P h L J body2 l2 id3 e (actOf (fnSize fn) s) (heapOf b) (roundK body2 l2 B X (fnK P fn k))
        | none => False
      | none => False
    | none => False
  | none => False
end Go.Abs

/- A range over a function: definitions. -/
namespace Go.Abs
/-- The blocks that the function that is ranged over reaches, each with its number within: they are only read. -/
def reachV (H : Heap) : Nat → List Nat → Mu → Nat → Mu
  | 0, _, μ, _ => μ
  | _, [], μ, _ => μ
  | f + 1, i :: work, μ, ro =>
    match μ.find i with
    | some _ => reachV H f work μ ro
    | none =>
      match H.get i with
      | none => reachV H f work μ ro
      | some o => reachV H f (work ++ blocksO o) (μ ++ [(i, ro)]) (ro + 1)
def iterMu (fv : Value) (H : Heap) : Mu := reachV H 1000 (blocksV 8 fv) [] hbase
def aliveIn (μ : Mu) (H : Heap) (i : Nat) : Bool := match H.get i with | some o => (match mapO μ o with | some (.taken) => false | some _ => true | none => false) | none => false
def iterGood (μ : Mu) (H : Heap) : Bool :=
  nodupB (μ.map (·.1)) && nodupB (μ.map (·.2)) && μ.all fun p => decide (abase ≤ p.1) && (decide (p.1 < mbase) || decide (gbase ≤ p.1)) && decide (hbase ≤ p.2) && decide (p.2 < mbase) && aliveIn μ H p.1
def iterArgs (fv : Value) (H : Heap) : List Value :=
  match fv with
  | .func (.func _) a b => a.toList.map (mapV (iterMu fv H) 8) ++ [.func (.yield ynum) #[] #[]] ++ b.toList.map (mapV (iterMu fv H) 8)
  | _ => []
def iterBlocks (fv : Value) (H : Heap) (rows : List (List D)) : Blocks := (ynum, .yld false (some rows)) :: gcB H (iterMu fv H) (iterMu fv H)
/-- The caller's own view while the rounds run: what the function that is ranged over reaches is only looked at. -/
def wbase : Nat := 460
def reachD (H : Heap) (Z : List Nat) : Nat → List Nat → Mu → Nat → Nat → Mu
  | 0, _, μ, _, _ => μ
  | _, [], μ, _, _ => μ
  | f + 1, i :: work, μ, next, view =>
    match μ.find i with
    | some _ => reachD H Z f work μ next view
    | none =>
      match H.get i with
      | none => reachD H Z f work μ next view
      | some o => if i < gbase then reachD H Z f (work ++ blocksO o) (μ ++ [(i, i)]) next view else if Z.contains i then reachD H Z f (work ++ blocksO o) (μ ++ [(i, view)]) next (view + 1) else reachD H Z f (work ++ blocksO o) (μ ++ [(i, next)]) (next + 1) view
def demGood (Z : List Nat) (μ : Mu) (H : Heap) (b : Blocks) : Bool :=
  nodupB (μ.map (·.1)) && nodupB (μ.map (·.2)) && μ.all fun p => aliveIn μ H p.1 && (decide (p.1 < wbase) || decide (hbase ≤ p.1)) && (if p.1 < gbase then p.2 == p.1 && (decide (p.1 < mbase) || !Z.contains p.1) else if Z.contains p.1 then decide (abase ≤ p.2) && decide (p.2 < wbase) else decide (gbase ≤ p.2) && decide (p.2 < (heapOf b).next))
/-- What is read in the rounds and behind them. -/
def liveR (ps : Array Tmp) (x y : Code) (l : Lv) : List Tmp := sortT (uni l.normal (uni ((liveIn x { l with normal := liveIn y l }).filter fun t => !ps.contains t) l.ret))
/-- With the mark of deferred calls. -/
def markA (s : Slots) (b : Blocks) (sz : Nat) : AAct := { actOf sz s with defers := (heapOf b).next :: (actOf sz s).defers }
def markH (b : Blocks) : Heap := (heapOf b).new .deferred
def demMu (fv : Value) (keep : List Tmp) (sz : Nat) (s : Slots) (b : Blocks) : Mu :=
  reachD (markH b) ((iterMu fv (heapOf b)).map (·.1)) 1000 ((keep.flatMap fun k => blocksV 8 ((markA s b sz).slot k)) ++ mroots (markH b) ++ (markA s b sz).defers) [] gbase abase
def enterS (fv : Value) (keep : List Tmp) (sz : Nat) (s : Slots) (b : Blocks) : Slots := gcS (demMu fv keep sz s b) keep (markA s b sz)
def enterB (fv : Value) (keep : List Tmp) (sz : Nat) (s : Slots) (b : Blocks) : Blocks := gcB (markH b) (demMu fv keep sz s b) (demMu fv keep sz s b)
def enterGood (fv : Value) (keep : List Tmp) (sz : Nat) (s : Slots) (b : Blocks) : Bool :=
  iterGood (iterMu fv (heapOf b)) (heapOf b) && demGood ((iterMu fv (heapOf b)).map (·.1)) (demMu fv keep sz s b) (markH b) (enterB fv keep sz s b) && gcDef (demMu fv keep sz s b) keep (markA s b sz)
/-- The end of a round: the slots are what they were. -/
def rowGood (μ : Mu) (keep : List Tmp) (A : AAct) (b : Blocks) : Bool := gcAll μ keep A b && μ.all fun p => decide (p.1 < wbase) || decide (hbase ≤ p.1)
def rendK (keep : List Tmp) (A : AAct) (B : Slots → Blocks → Prop) (X : Exit → Slots → Blocks → Prop) : Exit → AAct → Heap → Prop := fun e _ H =>
  match e with
  | .normal => bcase (rowGood (gcMu keep A H) keep A (gcB H (gcMu keep A H) (gcMu keep A H))) (B (gcS (gcMu keep A H) keep A) (gcB H (gcMu keep A H) (gcMu keep A H))) False
  | .exit i => bcase (rowGood (gcMu keep A H) keep A (gcB H (gcMu keep A H) (gcMu keep A H))) (X (.exit i) (gcS (gcMu keep A H) keep A) (gcB H (gcMu keep A H) (gcMu keep A H))) False
  | .ret => bcase (rowGood (gcMu keep A H) keep A (gcB H (gcMu keep A H) (gcMu keep A H))) (X .ret (gcS (gcMu keep A H) keep A) (gcB H (gcMu keep A H) (gcMu keep A H))) False
  | _ => False
def onlyN (k : AAct → Heap → Prop) : Exit → AAct → Heap → Prop := fun e A H =>
  match e with
  | .normal => k A H
  | _ => False
/-- A round: what is handed on lies behind the caller's blocks. -/
def roundR (P : Program) (h : Handler) (u : Nat) (sz : Nat) (ps : Array Tmp) (x y : Code) (l : Lv) (keep : List Tmp) (s : Slots) (b : Blocks) (row : List D) (B : Slots → Blocks → Prop) (X : Exit → Slots → Blocks → Prop) : Prop :=
  bcase (decide (countV row ≤ 40) && decide (row.length = ps.size)) (∀ caps,
    wpT P h (fun _ _ _ => False) u x { l with normal := liveIn y l } (AAct.putAll { actOf sz s with defers := [] } (ps.toList.zip (layVals caps wbase row).1)) (heapOf (b ++ (layVals caps wbase row).2))
      (onlyN fun A1 H1 => wpT P h (fun _ _ _ => False) u y l A1 H1 (rendK keep (actOf sz s) B X))) False
/-- A range over a function of the function: its head. -/
def headOf (P : Program) (sz : Nat) (r : Code × Lv) (s : Slots) (b : Blocks) (k : FuncId → List Value → Blocks → Slots → Blocks → Prop) : Prop :=
  match r with
  | (.rangeFunc f ps x y, l) =>
    match (actOf sz s).eval f with
    | .func (.func g) first captured =>
      bcase (enterable P g && enterGood (.func (.func g) first captured) (liveR ps x y l) sz s b)
        (k g (iterArgs (.func (.func g) first captured) (heapOf b)) (gcB (heapOf b) (iterMu (.func (.func g) first captured) (heapOf b)) (iterMu (.func (.func g) first captured) (heapOf b)))
          (enterS (.func (.func g) first captured) (liveR ps x y l) sz s b) (enterB (.func (.func g) first captured) (liveR ps x y l) sz s b)) False
    | _ => False
  | _ => False
def rowOfR (P : Program) (h : Handler) (sz : Nat) (r : Code × Lv) (s : Slots) (b : Blocks) (row : List D) (B : Slots → Blocks → Prop) (X : Exit → Slots → Blocks → Prop) : Prop :=
  match r with
  | (.rangeFunc _ ps x y, l) => roundR P h 8 sz ps x y l (liveR ps x y l) s b row B X
  | _ => False
/-- (at the top of the function) -/
def rHead (P : Program) (f : FuncId) (id : Nat) (s : Slots) (b : Blocks) (k : FuncId → List Value → Blocks → Slots → Blocks → Prop) : Prop :=
  match P.funcs[f]? with
  | some fn => match fn.body with
    | some c => match findLoop c (fnLv fn) id with
      | some r => headOf P (fnSize fn) r s b k
      | none => False
    | none => False
  | none => False
def rRound (P : Program) (h : Handler) (f : FuncId) (id : Nat) (s : Slots) (b : Blocks) (row : List D) (B : Slots → Blocks → Prop) (X : Exit → Slots → Blocks → Prop) : Prop :=
  match P.funcs[f]? with
  | some fn => match fn.body with
    | some c => match findLoop c (fnLv fn) id with
      | some r => rowOfR P h (fnSize fn) r s b row B X
      | none => False
    | none => False
  | none => False
/-- (within a loop) -/
def rHead2 (P : Program) (f : FuncId) (id id2 : Nat) (s : Slots) (b : Blocks) (k : FuncId → List Value → Blocks → Slots → Blocks → Prop) : Prop :=
  match P.funcs[f]? with
  | some fn => match fn.body with
    | some c => match findLoop c (fnLv fn) id with
      | some (body, l) => match findLoop body l id2 with
        | some r => headOf P (fnSize fn) r s b k
        | none => False
      | none => False
    | none => False
  | none => False
def rRound2 (P : Program) (h : Handler) (f : FuncId) (id id2 : Nat) (s : Slots) (b : Blocks) (row : List D) (B : Slots → Blocks → Prop) (X : Exit → Slots → Blocks → Prop) : Prop :=
  match P.funcs[f]? with
  | some fn => match fn.body with
    | some c => match findLoop c (fnLv fn) id with
      | some (body, l) => match findLoop body l id2 with
        | some r => rowOfR P h (fnSize fn) r s b row B X
        | none => False
      | none => False
    | none => False
  | none => False
end Go.Abs

/- A walk that is cut at loops and at the ends of named blocks: it is enough. -/
namespace Go.Abs
open Go.RowKit
variable {P : Program} {ρ : Ren} {w0 : Start P} {w : World} {H : Heap} {h : Handler} {L : AtLoop} {J : List Nat} {sz : Nat}

/-- The points of a piece of code lead on. -/
def ptsOK (P : Program) (h : Handler) (L : AtLoop) (J : List Nat) (sz : Nat) : Code → Lv → Cont → Prop
  | .seq x y, l, k => ptsOK P h L J sz x { l with normal := liveIn y l } (seqK (fun A' H' => wpJ P h L J y l A' H' k) k) ∧ ptsOK P h L J sz y l k
  | .cond _ x y, l, k => ptsOK P h L J sz x l k ∧ ptsOK P h L J sz y l k
  | .block i b, l, k =>
    if isLoop b then i < rbase → ∀ s bl, L i s bl → Holds P false sz (.block i b) (actOf sz s) (heapOf bl) k
    else if J.contains i then (∀ s bl, L i s bl → k .normal (actOf sz s) (heapOf bl)) ∧ ptsOK P h L J sz b { l with exits := (i, l.normal) :: l.exits } (cutK L i l.normal k)
    else ptsOK P h L J sz b { l with exits := (i, l.normal) :: l.exits } (blockK i k)
  | .region i _ _, _, k => if J.contains (30000 + i) then ∀ s bl, L (30000 + i) s bl → k .normal (actOf sz s) (heapOf bl) else True
  | .rangeFunc f ps x y, _, k => ∀ s bl, L (rngId x y) s bl → Holds P false sz (.rangeFunc f ps x y) (actOf sz s) (heapOf bl) k
  | _, _, _ => True

theorem cutAt_out {id : Nat} {live : List Tmp} {A : AAct} {a : Act} (hk : cutAt L id live A H) (g : Gam w0 ρ H w) (ra : ActR ρ A a) : ∃ s bl ρ2, L id s bl ∧ Gam w0 ρ2 (heapOf bl) w ∧ ActR ρ2 (actOf A.size s) a := by
  unfold cutAt at hk
  obtain ⟨hgood, hk⟩ := bcase_out hk
  obtain ⟨g2, ra2⟩ := gc_sub g ra (keep := _) hgood
  exact ⟨_, _, _, hk, g2, ra2⟩

theorem wpJ_sound (hh : HandlerOK P h) (hmix : P.follows .mixedOrders = true) : ∀ (c : Code) {l : Lv} {A : AAct} {H : Heap} {K : Cont}, wpJ P h L J c l A H K → ptsOK P h L J sz c l K → Holds P false sz c A H K := by
  intro c
  induction c with
  | seq x y ihx ihy =>
    intro l A H K hk hl w0 ρ w a n g ra hs
    simp only [wpJ] at hk
    refine wpIn_seq (wpIn_mono (ihx hk hl.1 w0 ρ w a n g ra hs) ?_)
    rintro e a1 w1 ⟨A1, H1, ρ1, k1, s1, ra1, g1, ext1⟩
    cases e with
    | normal => exact wpIn_mono (ihy k1 hl.2 w0 ρ1 w1 a1 n g1 ra1 s1) (fun e a w p => p.back ext1)
    | _ => exact ⟨A1, H1, ρ1, k1, s1, ra1, g1, ext1⟩
  | cond c x y ihx ihy =>
    intro l A H K hk hl w0 ρ w a n g ra hs
    simp only [wpJ] at hk
    have hc := ra.eval c
    split at hk
    · rename_i ec
      rw [ec] at hc
      exact wpIn_cond_true hc.bool_inv (ihx hk hl.1 w0 ρ w a n g ra hs)
    · rename_i ec
      rw [ec] at hc
      exact wpIn_cond_false hc.bool_inv (ihy hk hl.2 w0 ρ w a n g ra hs)
    · cases hk
  | block id body ih =>
    intro l A H K hk hl w0 ρ w a n g ra hs
    simp only [wpJ] at hk
    simp only [ptsOK] at hl
    split at hk
    · rename_i hlp
      rw [if_pos hlp] at hl
      refine wpT_sound (L := L) (u := 0) (b := false) hh hmix (fun _ => rfl) _ hk (fun _ => ?_) w0 ρ w a n g ra hs
      simp only [loopsOK]
      rw [if_pos hlp]
      exact hl
    · rename_i hlp
      rw [if_neg hlp] at hl
      split at hk
      · rename_i hJ
        rw [if_pos hJ] at hl
        refine wpIn_block (wpIn_mono (ih hk hl.2 w0 ρ w a n g ra hs) ?_)
        rintro e a1 w1 ⟨A1, H1, ρ1, k1, s1, ra1, g1, _⟩
        have cut : cutAt L id l.normal A1 H1 → Post w0 ρ H false sz K .normal a1 w1 := by
          intro hc
          obtain ⟨s, bl, ρ2, h1, h2, h3⟩ := cutAt_out hc g1 ra1
          rw [s1] at h3
          exact ⟨_, _, ρ2, hl.1 s bl h1, rfl, h3, h2, fun hb => by cases hb⟩
        cases e with
        | normal => exact cut k1
        | exit id' =>
          simp only [cutK] at k1
          by_cases hid : id' = id
          · simp only [hid, if_true] at k1
            simp only [Exit.inBlock, hid, if_true]
            exact cut k1
          · simp only [hid, if_false] at k1
            simp only [Exit.inBlock, hid, if_false]
            exact ⟨A1, H1, ρ1, k1, s1, ra1, g1, fun hb => by cases hb⟩
        | _ => exact ⟨A1, H1, ρ1, k1, s1, ra1, g1, fun hb => by cases hb⟩
      · rename_i hJ
        rw [if_neg hJ] at hl
        refine wpIn_block (wpIn_mono (ih hk hl w0 ρ w a n g ra hs) ?_)
        rintro e a1 w1 ⟨A1, H1, ρ1, k1, s1, ra1, g1, ext1⟩
        cases e with
        | exit id' =>
          simp only [blockK] at k1
          by_cases hid : id' = id
          · simp only [hid, if_true] at k1
            simp only [Exit.inBlock, hid, if_true]
            exact ⟨A1, H1, ρ1, k1, s1, ra1, g1, ext1⟩
          · simp only [hid, if_false] at k1
            simp only [Exit.inBlock, hid, if_false]
            exact ⟨A1, H1, ρ1, k1, s1, ra1, g1, ext1⟩
        | _ => exact ⟨A1, H1, ρ1, k1, s1, ra1, g1, ext1⟩
  | loop body ih => intro l A H K hk; exact hk.elim
  | skip => intro l A H K hk _; exact wpT_sound (L := L) (u := 0) (b := false) hh hmix (fun _ => rfl) _ hk (fun _ => trivial)
  | region id ops draw =>
    intro l A H K hk hl
    simp only [wpJ] at hk
    simp only [ptsOK] at hl
    split at hk
    · rename_i hJ
      rw [if_pos hJ] at hl
      intro w0 ρ w a n g ra hs
      refine wpIn_mono (wpT_sound (L := L) (u := 0) (b := false) hh hmix (fun _ => rfl) _ hk (fun _ => trivial) w0 ρ w a n g ra hs) ?_
      rintro e a1 w1 ⟨A1, H1, ρ1, k1, s1, ra1, g1, _⟩
      cases e with
      | normal =>
        obtain ⟨s, bl, ρ2, h1, h2, h3⟩ := cutAt_out k1 g1 ra1
        rw [s1] at h3
        exact ⟨_, _, ρ2, hl s bl h1, rfl, h3, h2, fun hb => by cases hb⟩
      | _ => exact ⟨A1, H1, ρ1, k1, s1, ra1, g1, fun hb => by cases hb⟩
    · exact wpT_sound (L := L) (u := 0) (b := false) hh hmix (fun _ => rfl) _ hk (fun _ => trivial)
  | exit id => intro l A H K hk _; exact wpT_sound (L := L) (u := 0) (b := false) hh hmix (fun _ => rfl) _ hk (fun _ => trivial)
  | ret => intro l A H K hk _; exact wpT_sound (L := L) (u := 0) (b := false) hh hmix (fun _ => rfl) _ hk (fun _ => trivial)
  | rangeFunc f ps x y _ _ =>
    intro l A H K hk hl
    exact wpT_sound (L := L) (u := 0) (b := false) hh hmix (fun _ => rfl) _ hk (fun _ => hl)
  | label l => intro l A H K hk; exact hk.elim
  | goto l => intro l A H K hk; exact hk.elim
  | scope body _ => intro l A H K hk; exact hk.elim
  | refuse why => intro l A H K hk; exact hk.elim

theorem nodupB_of {l : List Nat} (hl : l.Nodup) : nodupB l = true := by
  induction l with
  | nil => rfl
  | cons a l ih => simp only [List.nodup_cons] at hl; simp only [nodupB, Bool.and_eq_true, Bool.not_eq_true']; exact ⟨by simpa using hl.1, ih hl.2⟩
theorem findLoop_pt : ∀ (c : Code) (l : Lv) (id : Nat) {r : Code × Lv}, findLoop c l id = some r → id ∈ ptIds J c := by
  intro c
  induction c with
  | seq x y ihx ihy =>
    intro l id r hr
    simp only [findLoop] at hr
    simp only [ptIds, List.mem_append]
    rcases Option.or_eq_some_iff.1 hr with h | ⟨_, h⟩
    · exact .inl (ihx _ _ h)
    · exact .inr (ihy _ _ h)
  | cond c x y ihx ihy =>
    intro l id r hr
    simp only [findLoop] at hr
    simp only [ptIds, List.mem_append]
    rcases Option.or_eq_some_iff.1 hr with h | ⟨_, h⟩
    · exact .inl (ihx _ _ h)
    · exact .inr (ihy _ _ h)
  | block i b ih =>
    intro l id r hr
    simp only [findLoop] at hr
    simp only [ptIds]
    split at hr
    · rename_i hlp
      split at hr
      · rename_i e; simp [hlp, e]
      · cases hr
    · rename_i hlp
      rw [if_neg hlp]
      split
      · exact List.mem_cons_of_mem _ (ih _ _ hr)
      · exact ih _ _ hr
  | rangeFunc f ps a b _ _ =>
    intro l id r hr
    simp only [findLoop] at hr
    split at hr
    · rename_i e; simp [ptIds, e]
    · cases hr
  | _ => intro l id r hr; simp [findLoop] at hr

/-- It is enough to look at each point by its number. -/
theorem ptsOK_of : ∀ (c : Code) {l : Lv} {K : Cont}, nodupB (ptIds J c) = true →
    (∀ id body l', findLoop c l id = some (body, l') → (id < rbase ∨ isRange body = true) → ∀ s bl, L id s bl → Holds P false sz (stmtOf id body) (actOf sz s) (heapOf bl) (fun e A H => aftJ P h L J c l id e A H K)) →
    (∀ id ∈ ptIds J c, findLoop c l id = none → ∀ s bl, L id s bl → aftJ P h L J c l id .normal (actOf sz s) (heapOf bl) K) → ptsOK P h L J sz c l K := by
  intro c
  induction c with
  | seq x y ihx ihy =>
    intro l K hn hl hc
    have hn' := nodupB_spec hn
    simp only [ptIds] at hn'
    obtain ⟨n1, n2, n3⟩ := List.nodup_append.1 hn'
    have inx : ∀ {id : Nat}, id ∈ ptIds J x → (ptIds J x).contains id = true := fun h => by simpa using h
    have iny : ∀ {id : Nat}, id ∈ ptIds J y → (ptIds J x).contains id = false := fun {id} hy => by
      cases hx : (ptIds J x).contains id with
      | false => rfl
      | true => exact absurd rfl (n3 id (by simpa using hx) id hy)
    have nox : ∀ {id : Nat} {l' : Lv}, id ∈ ptIds J y → findLoop x l' id = none := fun {id l'} hy => by
      cases hx : findLoop x l' id with
      | none => rfl
      | some r => exact absurd rfl (n3 id (findLoop_pt x _ id hx) id hy)
    have noy : ∀ {id : Nat} {l' : Lv}, id ∈ ptIds J x → findLoop y l' id = none := fun {id l'} hx => by
      cases hy : findLoop y l' id with
      | none => rfl
      | some r => exact absurd rfl (n3 id hx id (findLoop_pt y _ id hy))
    refine ⟨ihx (nodupB_of n1) (fun id body l' hf hrb s bl hs => ?_) (fun id hi hf s bl hs => ?_), ihy (nodupB_of n2) (fun id body l' hf hrb s bl hs => ?_) (fun id hi hf s bl hs => ?_)⟩
    · have := hl id body l' (by simp only [findLoop]; rw [hf]; rfl) hrb s bl hs
      simpa only [aftJ, inx (findLoop_pt x _ id hf), if_true] using this
    · have := hc id (by simp only [ptIds]; exact List.mem_append_left _ hi) (by simp only [findLoop]; rw [hf, noy hi]; rfl) s bl hs
      simpa only [aftJ, inx hi, if_true] using this
    · have hi := findLoop_pt (J := J) y _ id hf
      have := hl id body l' (by simp only [findLoop]; rw [nox hi]; exact hf) hrb s bl hs
      simpa only [aftJ, iny hi, Bool.false_eq_true, if_false] using this
    · have := hc id (by simp only [ptIds]; exact List.mem_append_right _ hi) (by simp only [findLoop]; rw [hf, nox hi]; rfl) s bl hs
      simpa only [aftJ, iny hi, Bool.false_eq_true, if_false] using this
  | cond c x y ihx ihy =>
    intro l K hn hl hc
    have hn' := nodupB_spec hn
    simp only [ptIds] at hn'
    obtain ⟨n1, n2, n3⟩ := List.nodup_append.1 hn'
    have inx : ∀ {id : Nat}, id ∈ ptIds J x → (ptIds J x).contains id = true := fun h => by simpa using h
    have iny : ∀ {id : Nat}, id ∈ ptIds J y → (ptIds J x).contains id = false := fun {id} hy => by
      cases hx : (ptIds J x).contains id with
      | false => rfl
      | true => exact absurd rfl (n3 id (by simpa using hx) id hy)
    have nox : ∀ {id : Nat} {l' : Lv}, id ∈ ptIds J y → findLoop x l' id = none := fun {id l'} hy => by
      cases hx : findLoop x l' id with
      | none => rfl
      | some r => exact absurd rfl (n3 id (findLoop_pt x _ id hx) id hy)
    have noy : ∀ {id : Nat} {l' : Lv}, id ∈ ptIds J x → findLoop y l' id = none := fun {id l'} hx => by
      cases hy : findLoop y l' id with
      | none => rfl
      | some r => exact absurd rfl (n3 id hx id (findLoop_pt y _ id hy))
    refine ⟨ihx (nodupB_of n1) (fun id body l' hf hrb s bl hs => ?_) (fun id hi hf s bl hs => ?_), ihy (nodupB_of n2) (fun id body l' hf hrb s bl hs => ?_) (fun id hi hf s bl hs => ?_)⟩
    · have := hl id body l' (by simp only [findLoop]; rw [hf]; rfl) hrb s bl hs
      simpa only [aftJ, inx (findLoop_pt x _ id hf), if_true] using this
    · have := hc id (by simp only [ptIds]; exact List.mem_append_left _ hi) (by simp only [findLoop]; rw [hf, noy hi]; rfl) s bl hs
      simpa only [aftJ, inx hi, if_true] using this
    · have hi := findLoop_pt (J := J) y _ id hf
      have := hl id body l' (by simp only [findLoop]; rw [nox hi]; exact hf) hrb s bl hs
      simpa only [aftJ, iny hi, Bool.false_eq_true, if_false] using this
    · have := hc id (by simp only [ptIds]; exact List.mem_append_right _ hi) (by simp only [findLoop]; rw [hf, nox hi]; rfl) s bl hs
      simpa only [aftJ, iny hi, Bool.false_eq_true, if_false] using this
  | block i b ih =>
    intro l K hn hl hc
    simp only [ptsOK]
    by_cases hlp : isLoop b = true
    · rw [if_pos hlp]
      intro hid s bl hs
      cases b with
      | loop body =>
        have := hl i body _ (by simp [findLoop, isLoop]; rfl) (.inl hid) s bl hs
        simpa only [aftJ, isLoop, if_true, stmtOf, hid] using this
      | _ => simp [isLoop] at hlp
    · rw [if_neg hlp]
      have hfl : ∀ id, findLoop (.block i b) l id = findLoop b { l with exits := (i, l.normal) :: l.exits } id := fun id => by simp only [findLoop]; rw [if_neg hlp]
      by_cases hJ : J.contains i = true
      · rw [if_pos hJ]
        have hn' : nodupB (i :: ptIds J b) = true := by simp only [ptIds] at hn; rw [if_neg hlp, if_pos hJ] at hn; exact hn
        have hnd := List.nodup_cons.1 (nodupB_spec hn')
        have hp : ptIds J (.block i b) = i :: ptIds J b := by simp only [ptIds]; rw [if_neg hlp, if_pos hJ]
        refine ⟨fun s bl hs => ?_, ih (nodupB_of hnd.2) (fun id body l' hf hrb s bl hs => ?_) (fun id hi hf s bl hs => ?_)⟩
        · have hno : findLoop (.block i b) l i = none := by
            rw [hfl]
            cases hx : findLoop b { l with exits := (i, l.normal) :: l.exits } i with
            | none => rfl
            | some r => exact absurd (findLoop_pt b _ i hx) hnd.1
          have := hc i (by rw [hp]; exact List.mem_cons_self ..) hno s bl hs
          simpa only [aftJ, hlp, hJ, if_true, if_false, Bool.false_eq_true] using this
        · have hne : i ≠ id := fun e => by subst e; exact hnd.1 (findLoop_pt b _ _ hf)
          have := hl id body l' (by rw [hfl]; exact hf) hrb s bl hs
          simpa only [aftJ, hlp, hJ, hne, if_true, if_false, Bool.false_eq_true] using this
        · have hne : i ≠ id := fun e => by subst e; exact hnd.1 hi
          have := hc id (by rw [hp]; exact List.mem_cons_of_mem _ hi) (by rw [hfl]; exact hf) s bl hs
          simpa only [aftJ, hlp, hJ, hne, if_true, if_false, Bool.false_eq_true] using this
      · rw [if_neg hJ]
        have hp : ptIds J (.block i b) = ptIds J b := by simp only [ptIds]; rw [if_neg hlp, if_neg hJ]
        refine ih (by rw [hp] at hn; exact hn) (fun id body l' hf hrb s bl hs => ?_) (fun id hi hf s bl hs => ?_)
        · have := hl id body l' (by rw [hfl]; exact hf) hrb s bl hs
          simpa only [aftJ, hlp, hJ, if_false, Bool.false_eq_true] using this
        · have := hc id (by rw [hp]; exact hi) (by rw [hfl]; exact hf) s bl hs
          simpa only [aftJ, hlp, hJ, if_false, Bool.false_eq_true] using this
  | region i ops d =>
    intro l K hn hl hc
    simp only [ptsOK]
    by_cases hJ : J.contains (30000 + i) = true
    · rw [if_pos hJ]
      intro s bl hs
      have := hc (30000 + i) (by simp only [ptIds]; rw [if_pos hJ]; exact List.mem_cons_self ..) (by simp [findLoop]) s bl hs
      simpa only [aftJ] using this
    · rw [if_neg hJ]; trivial
  | rangeFunc f ps a b _ _ =>
    intro l K hn hl hc s bl hs
    have := hl (rngId a b) (.rangeFunc f ps a b) l (by simp [findLoop]) (.inr rfl) s bl hs
    have hge : ¬ rngId a b < rbase := by unfold rngId; omega
    simpa only [aftJ, stmtOf, hge, if_false, if_true] using this
  | _ => intro l K _ _ _; trivial

/-- What returns from within goes on as a return. -/
theorem aftJ_ret : ∀ (c : Code) {l : Lv} {id : Nat} {A : AAct} {H : Heap} {K : Cont}, id ∈ ptIds J c → K .ret A H → aftJ P h L J c l id .ret A H K := by
  intro c
  induction c with
  | seq x y ihx ihy =>
    intro l id A H K hf hk
    simp only [aftJ]
    simp only [ptIds, List.mem_append] at hf
    split
    · rename_i hx; exact ihx (by simpa using hx) hk
    · rename_i hx
      exact ihy (hf.resolve_left (by simpa using hx)) hk
  | cond c x y ihx ihy =>
    intro l id A H K hf hk
    simp only [aftJ]
    simp only [ptIds, List.mem_append] at hf
    split
    · rename_i hx; exact ihx (by simpa using hx) hk
    · rename_i hx
      exact ihy (hf.resolve_left (by simpa using hx)) hk
  | block i b ih =>
    intro l id A H K hf hk
    simp only [aftJ]
    simp only [ptIds] at hf
    split
    · rename_i hlp
      simp only [hlp, if_true, List.mem_singleton] at hf
      rw [if_pos hf.symm]; exact hk
    · rename_i hlp
      rw [if_neg hlp] at hf
      split
      · rename_i hJ
        rw [if_pos hJ] at hf
        split
        · exact hk
        · rename_i hne
          exact ih ((List.mem_cons.1 hf).resolve_left (fun e => hne e.symm)) hk
      · rename_i hJ
        rw [if_neg hJ] at hf
        exact ih hf hk
  | region i ops d => intro l id A H K _ hk; exact hk
  | rangeFunc f ps a b _ _ =>
    intro l id A H K hf hk
    simp only [ptIds, List.mem_singleton] at hf
    simp only [aftJ]
    rw [if_pos hf.symm]; exact hk
  | _ => intro l id A H K hf; simp [ptIds] at hf

/-- THE RULE OF A LOOP, with points within its body. -/
theorem loop_ruleJ (hh : HandlerOK P h) (hmix : P.follows .mixedOrders = true) {X : Type} (st : X → Slots × Blocks) (inv : X → Prop) (m : X → Nat) {id : Nat} {body : Code} {l' : Lv} {k : Cont} {R : Cont}
    (hb : ∀ x, inv x → ∃ L : AtLoop, wpJ P h L J body l' (actOf sz (st x).1) (heapOf (st x).2) (roundK body l' (fun s b => ∃ y, inv y ∧ m y < m x ∧ st y = (s, b)) (fun i s b => if i = id then k .normal (actOf sz s) (heapOf b) else k (.exit i) (actOf sz s) (heapOf b)) R) ∧
      ptsOK P h L J sz body l' (roundK body l' (fun s b => ∃ y, inv y ∧ m y < m x ∧ st y = (s, b)) (fun i s b => if i = id then k .normal (actOf sz s) (heapOf b) else k (.exit i) (actOf sz s) (heapOf b)) R))
    (hR : ∀ e A H, (e = .ret) → R e A H → k e A H) (hR2 : ∀ e A H, e ≠ .ret → e ≠ .normal → ¬ R e A H) :
    ∀ x, inv x → Holds P false sz (.block id (.loop body)) (actOf sz (st x).1) (heapOf (st x).2) k := by
  have key : ∀ (N : Nat) (x : X), m x < N → inv x → ∀ (w0 : Start P) (ρ : Ren) (w : World) (a : Act) (n : Nat), Gam w0 ρ (heapOf (st x).2) w → ActR ρ (actOf sz (st x).1) a →
      body.wpIn (Fr none) n P (Exit.then (LoopIn body (Fr none) n P (fun e a w => ∀ (ρ0 : Ren) (H0 : Heap), Post w0 ρ0 H0 false sz (fun e A H => match e with | .exit i => if i = id then k .normal A H else k (.exit i) A H | e => k e A H) e a w)) (fun e a w => ∀ (ρ0 : Ren) (H0 : Heap), Post w0 ρ0 H0 false sz (fun e A H => match e with | .exit i => if i = id then k .normal A H else k (.exit i) A H | e => k e A H) e a w)) a w := by
    intro N
    induction N with
    | zero => intro x hx; omega
    | succ N ih =>
      intro x hx hinv w0 ρ w a n g ra
      obtain ⟨L, hb1, hb2⟩ := hb x hinv
      refine wpIn_mono (wpJ_sound hh hmix body hb1 hb2 w0 ρ w a n g ra rfl) ?_
      rintro e a1 w1 ⟨A1, H1, ρ1, k1, s1, ra1, g1, _⟩
      cases e with
      | normal =>
        simp only [roundK] at k1
        obtain ⟨hgood, y, hy, hlt, he⟩ := bcase_out k1
        obtain ⟨g2, ra2⟩ := gc_sub g1 ra1 (keep := _) hgood
        have e1 : (st y).1 = _ := congrArg Prod.fst he
        have e2 : (st y).2 = _ := congrArg Prod.snd he
        exact loopIn_once (ih y (by omega) hy w0 _ w1 a1 n (by rw [e2]; exact g2) (by rw [e1, ← s1]; exact ra2))
      | exit i =>
        simp only [roundK] at k1
        obtain ⟨hgood, k1⟩ := bcase_out k1
        obtain ⟨g2, ra2⟩ := gc_sub g1 ra1 (keep := _) hgood
        intro ρ0 H0
        refine ⟨_, _, _, k1, ?_, by rw [← s1]; exact ra2, g2, fun h => by cases h⟩
        rfl
      | ret =>
        intro ρ0 H0
        exact ⟨A1, H1, ρ1, hR _ _ _ rfl k1, s1, ra1, g1, fun h => by cases h⟩
      | goto t => exact absurd k1 (hR2 _ _ _ (by simp) (by simp))
      | panic ch => exact absurd k1 (hR2 _ _ _ (by simp) (by simp))
      | outgrown => exact absurd k1 (hR2 _ _ _ (by simp) (by simp))
  intro x hinv w0 ρ w a n g ra hs
  refine wpIn_block (wpIn_mono (wpIn_loop_once (key _ x (Nat.lt_succ_self _) hinv w0 ρ w a n g ra)) ?_)
  intro e a1 w1 hp
  obtain ⟨A1, H1, ρ1, k1, s1, ra1, g1, _⟩ := hp ρ (heapOf (st x).2)
  cases e with
  | exit i =>
    simp only at k1
    by_cases hi : i = id
    · simp only [hi, if_true] at k1
      simp only [Exit.inBlock, hi, if_true]
      exact ⟨A1, H1, ρ1, k1, s1, ra1, g1, fun h => by cases h⟩
    · simp only [hi, if_false] at k1
      simp only [Exit.inBlock, hi, if_false]
      exact ⟨A1, H1, ρ1, k1, s1, ra1, g1, fun h => by cases h⟩
  | _ => exact ⟨A1, H1, ρ1, k1, s1, ra1, g1, fun h => by cases h⟩
end Go.Abs

/- Functions with cuts, and loops within loops: by what is left to show of each part. -/
namespace Go.Abs
open Go.RowKit
variable {P : Program} {ρ : Ren} {w0 : Start P} {w : World} {H : Heap} {h : Handler} {L : AtLoop} {J : List Nat}

theorem jFn_run (hh : HandlerOK P h) (hmix : P.follows .mixedOrders = true) {f : FuncId} {fn : Func} {c : Code} (hf : P.funcs[f]? = some fn) (hc : fn.body = some c) {args : Array Value} {k : Value → Heap → Prop}
    (hk : jFn P h L J f args H k) (hl : ptsOK P h L J (max args.size fn.ntmps) c (fnLv fn) (fnK P fn k))
    (g : Gam w0 ρ H w) {args' : Array Value} (n : Nat) (ha : LR ρ args.toList args'.toList) :
    CallsIn Fence.wide n P f args' w fun e w' => ∃ v H' ρ' v', k v H' ∧ e = .returned v' ∧ VR ρ' v v' ∧ Gam w0 ρ' H' w' := by
  unfold jFn at hk
  simp only [hf, hc] at hk
  refine callsIn_of_wp_marks hf hc trivial ?_
  refine wpIn_mono (wpJ_sound hh hmix c hk hl w0 ρ w _ n g (initial_act ha fn.ntmps) rfl) ?_
  rintro e a1 w1 ⟨A1, H1, ρ1, k1, s1, ra1, g1, _⟩
  have fin : ∀ {v : Value} {H2 : Heap}, takeA A1.defers H1 = some H2 → resultsA P H2 fn A1 = some v → k v H2 → LeavesInM Fence.wide n P fn a1.tmps (fun e w' => ∃ v H' ρ' v', k v H' ∧ e = .returned v' ∧ VR ρ' v v' ∧ Gam w0 ρ' H' w') a1.defers .returning w1 := by
    intro v H2 hd hr hkv
    have hdd := ra1.defers
    refine leaves_R (P := P) (ρ := ρ1) (w0 := w0) A1.defers a1.defers hd g1 hdd (fun w2 g2 ext2 => ?_)
    obtain ⟨v', hv, hrun⟩ := resultsA_sound g2 ra1 hr
    exact ⟨v', hrun, v, H2, ρ1, v', hkv, rfl, hv, g2⟩
  cases e with
  | normal =>
    simp only [fnK] at k1
    split at k1
    · rename_i hd
      split at k1
      · rename_i v hr; exact fin hd hr k1
      · cases k1
    · cases k1
  | ret =>
    simp only [fnK] at k1
    split at k1
    · rename_i hd
      split at k1
      · rename_i v hr; exact fin hd hr k1
      · cases k1
    · cases k1
  | _ => exact k1.elim

abbrev Kx := Slots → Blocks → Prop
abbrev Xk := Nat → Slots → Blocks → Prop
/-- A loop within a round of a loop: its points are cuts. -/
structure LoopJ2 (P : Program) (h : Handler) (J : List Nat) (f : FuncId) (c : Code) (lv : Lv) (id id2 : Nat) (L : AtLoop) (B : Kx) (X : Xk) (F : Value → Heap → Prop) : Type 1 where
  Y : Type
  st : Y → Slots × Blocks
  inv : Y → Prop
  m : Y → Nat
  head : ∀ s b, L id2 s b → ∃ y, inv y ∧ st y = (s, b)
  pts : List Nat
  is : ((findLoop c lv id).bind fun r => (findLoop r.1 r.2 id2).map fun q => (ptIds J q.1, loopIds q.1)) = some (pts, [])
  nd : nodupB pts = true
  round : ∀ y, inv y → ∃ L2 : AtLoop,
    jRound2 P h L2 J f id id2 (st y).1 (st y).2 (fun s b => ∃ z, inv z ∧ m z < m y ∧ st z = (s, b)) (fun i s b => if i = id2 then jIn P h L J f id id2 .normal s b B X F else jIn P h L J f id id2 (.exit i) s b B X F) F ∧
    ∀ id3 ∈ pts, ∀ s b, L2 id3 s b → jIn2 P h L2 J f id id2 id3 .normal s b (fun s b => ∃ z, inv z ∧ m z < m y ∧ st z = (s, b)) (fun i s b => if i = id2 then jIn P h L J f id id2 .normal s b B X F else jIn P h L J f id id2 (.exit i) s b B X F) F
/-- A loop of a function. -/
structure LoopJ (P : Program) (h : Handler) (J : List Nat) (f : FuncId) (c : Code) (lv : Lv) (id : Nat) (L : AtLoop) (F : Value → Heap → Prop) : Type 1 where
  Y : Type
  st : Y → Slots × Blocks
  inv : Y → Prop
  m : Y → Nat
  head : ∀ s b, L id s b → ∃ y, inv y ∧ st y = (s, b)
  pts : List Nat
  loops : List Nat
  is : ((findLoop c lv id).map fun r => (ptIds J r.1, loopIds r.1)) = some (pts, loops)
  nd : nodupB pts = true
  round : ∀ y, inv y → ∃ L2 : AtLoop,
    jRound P h L2 J f id (st y).1 (st y).2 (fun s b => ∃ z, inv z ∧ m z < m y ∧ st z = (s, b)) (fun i s b => if i = id then jNext P h L J f id .normal s b F else jNext P h L J f id (.exit i) s b F) F ∧
    (∀ id2 ∈ pts, id2 ∉ loops → ∀ s b, L2 id2 s b → jIn P h L2 J f id id2 .normal s b (fun s b => ∃ z, inv z ∧ m z < m y ∧ st z = (s, b)) (fun i s b => if i = id then jNext P h L J f id .normal s b F else jNext P h L J f id (.exit i) s b F) F) ∧
    (∀ id2 ∈ loops, Nonempty (LoopJ2 P h J f c lv id id2 L2 (fun s b => ∃ z, inv z ∧ m z < m y ∧ st z = (s, b)) (fun i s b => if i = id then jNext P h L J f id .normal s b F else jNext P h L J f id (.exit i) s b F) F))

theorem loopJ2_holds (hh : HandlerOK P h) (hmix : P.follows .mixedOrders = true) {f : FuncId} {fn : Func} {c : Code} (hf : P.funcs[f]? = some fn) (hc : fn.body = some c) {id id2 : Nat} {F : Value → Heap → Prop} {B : Kx} {X : Xk} {body : Code} {l' : Lv} (hfl : findLoop c (fnLv fn) id = some (body, l')) {body2 : Code} {l2 : Lv} (hf2 : findLoop body l' id2 = some (body2, l2))
    (g : LoopJ2 P h J f c (fnLv fn) id id2 L B X F) (hr : id2 < rbase ∨ isRange body2 = true) {s : Slots} {b : Blocks} (hs : L id2 s b) :
    Holds P false (fnSize fn) (stmtOf id2 body2) (actOf (fnSize fn) s) (heapOf b) (fun e A H => aftJ P h L J body l' id2 e A H (roundK body l' B X (fnK P fn F))) := by
  obtain ⟨y, hy, he⟩ := g.head s b hs
  have e1 : (g.st y).1 = s := congrArg Prod.fst he
  have e2 : (g.st y).2 = b := congrArg Prod.snd he
  have his := g.is
  rw [hfl] at his
  simp only [Option.bind_some, hf2, Option.map_some, Option.some.injEq, Prod.mk.injEq] at his
  rw [stmt_loop hr his.2]
  have eqX : ∀ (B : Kx) (X : Xk) i s b, (if i = id2 then jIn P h L J f id id2 .normal s b B X F else jIn P h L J f id id2 (.exit i) s b B X F) = (if i = id2 then aftJ P h L J body l' id2 .normal (actOf (fnSize fn) s) (heapOf b) (roundK body l' B X (fnK P fn F)) else aftJ P h L J body l' id2 (.exit i) (actOf (fnSize fn) s) (heapOf b) (roundK body l' B X (fnK P fn F))) := by
    intro B X i s b
    simp only [jIn, hf, hc, hfl]
  have := loop_ruleJ (P := P) (h := h) (J := J) (sz := fnSize fn) hh hmix g.st g.inv g.m (id := id2) (body := body2) (l' := l2) (k := fun e A H => aftJ P h L J body l' id2 e A H (roundK body l' B X (fnK P fn F))) (R := fnK P fn F)
    (fun y hy => by
      obtain ⟨L2, h1, h2⟩ := g.round y hy
      refine ⟨L2, ?_, ptsOK_of body2 (by rw [his.1]; exact g.nd) (fun id3 b3 l3 hf3 _ => ?_) (fun id3 hi3 hf3 s b hs3 => ?_)⟩
      · unfold jRound2 at h1
        simp only [hf, hc, hfl, hf2, eqX] at h1
        exact h1
      · have := findLoop_ids _ _ _ hf3
        rw [his.2] at this
        cases this
      · have h3 := h2 id3 (by rw [his.1] at hi3; exact hi3) s b hs3
        unfold jIn2 at h3
        simp only [hf, hc, hfl, hf2, eqX] at h3
        exact h3)
    (fun e A H he hR => by subst he; exact aftJ_ret body (findLoop_pt body l' id2 hf2) hR)
    (fun e A H h1 h2 hR => by cases e <;> first | exact h1 rfl | exact h2 rfl | exact hR)
    y hy
  rw [e1, e2] at this
  exact this

theorem loopJ_holds (hh : HandlerOK P h) (hmix : P.follows .mixedOrders = true) {f : FuncId} {fn : Func} {c : Code} (hf : P.funcs[f]? = some fn) (hc : fn.body = some c) {id : Nat} {F : Value → Heap → Prop} {body : Code} {l' : Lv} (hfl : findLoop c (fnLv fn) id = some (body, l'))
    (g : LoopJ P h J f c (fnLv fn) id L F) (hr : id < rbase ∨ isRange body = true) {s : Slots} {b : Blocks} (hs : L id s b) :
    Holds P false (fnSize fn) (stmtOf id body) (actOf (fnSize fn) s) (heapOf b) (fun e A H => aftJ P h L J c (fnLv fn) id e A H (fnK P fn F)) := by
  obtain ⟨y, hy, he⟩ := g.head s b hs
  have e1 : (g.st y).1 = s := congrArg Prod.fst he
  have e2 : (g.st y).2 = b := congrArg Prod.snd he
  have his := g.is
  rw [hfl] at his
  simp only [Option.map_some, Option.some.injEq, Prod.mk.injEq] at his
  have hst : stmtOf id body = .block id (.loop body) := by
    rcases hr with hr | hr
    · simp [stmtOf, hr]
    · exfalso
      cases body <;> first
        | (cases hr; done)
        | skip
      rename_i rf rp ra rb
      obtain ⟨L2, _, _, h3⟩ := g.round y hy
      obtain ⟨g2⟩ := h3 (rngId ra rb) (by rw [← his.2]; simp [loopIds])
      have h4 := g2.is
      simp [hfl, findLoop, loopIds] at h4
  rw [hst]
  have eqX : ∀ i s b, (if i = id then jNext P h L J f id .normal s b F else jNext P h L J f id (.exit i) s b F) = (if i = id then aftJ P h L J c (fnLv fn) id .normal (actOf (fnSize fn) s) (heapOf b) (fnK P fn F) else aftJ P h L J c (fnLv fn) id (.exit i) (actOf (fnSize fn) s) (heapOf b) (fnK P fn F)) := by
    intro i s b
    simp only [jNext, hf, hc]
  have := loop_ruleJ (P := P) (h := h) (J := J) (sz := fnSize fn) hh hmix g.st g.inv g.m (id := id) (body := body) (l' := l') (k := fun e A H => aftJ P h L J c (fnLv fn) id e A H (fnK P fn F)) (R := fnK P fn F)
    (fun y hy => by
      obtain ⟨L2, h1, h2, h3⟩ := g.round y hy
      refine ⟨L2, ?_, ptsOK_of body (by rw [his.1]; exact g.nd) (fun id2 b2 l2 hf2 hr2 s b hs2 => ?_) (fun id2 hi2 hf2 s b hs2 => ?_)⟩
      · unfold jRound at h1
        simp only [hf, hc, hfl, eqX] at h1
        exact h1
      · have hm : id2 ∈ g.loops := by rw [← his.2]; exact findLoop_ids _ _ _ hf2
        obtain ⟨g2⟩ := h3 id2 hm
        have := loopJ2_holds hh hmix hf hc hfl hf2 g2 hr2 hs2
        simp only [eqX] at this
        exact this
      · have hnl : id2 ∉ g.loops := by
          intro hm
          rw [← his.2] at hm
          have := findLoop_some body l' id2 hm
          rw [hf2] at this
          cases this
        have h4 := h2 id2 (by rw [his.1] at hi2; exact hi2) hnl s b hs2
        unfold jIn at h4
        simp only [hf, hc, hfl, eqX] at h4
        exact h4)
    (fun e A H he hR => by subst he; exact aftJ_ret c (findLoop_pt c _ id hfl) hR)
    (fun e A H h1 h2 hR => by cases e <;> first | exact h1 rfl | exact h2 rfl | exact hR)
    y hy
  rw [e1, e2] at this
  exact this

theorem ptsOK_good (hh : HandlerOK P h) (hmix : P.follows .mixedOrders = true) {f : FuncId} {fn : Func} {c : Code} (hf : P.funcs[f]? = some fn) (hc : fn.body = some c) {F : Value → Heap → Prop} {pts loops : List Nat} (his : (ptIds J c, loopIds c) = (pts, loops)) (hn : nodupB pts = true)
    (hcut : ∀ id ∈ pts, id ∉ loops → ∀ s b, L id s b → jNext P h L J f id .normal s b F)
    (hl : ∀ id ∈ loops, Nonempty (LoopJ P h J f c (fnLv fn) id L F)) : ptsOK P h L J (fnSize fn) c (fnLv fn) (fnK P fn F) := by
  simp only [Prod.mk.injEq] at his
  refine ptsOK_of c (by rw [his.1]; exact hn) (fun id body l' hfl hr s b hs => ?_) (fun id hi hfl s b hs => ?_)
  · obtain ⟨g⟩ := hl id (by rw [← his.2]; exact findLoop_ids _ _ _ hfl)
    exact loopJ_holds hh hmix hf hc hfl g hr hs
  · have hnl : id ∉ loops := by
      intro hm
      rw [← his.2] at hm
      have := findLoop_some c (fnLv fn) id hm
      rw [hfl] at this
      cases this
    have h4 := hcut id (by rw [his.1] at hi; exact hi) hnl s b hs
    unfold jNext at h4
    simp only [hf, hc] at h4
    exact h4

/-- A FUNCTION IS PROVED, with cuts and loops within loops: a contract in data. -/
theorem con_J (hh : HandlerOK P h) (hmix : P.follows .mixedOrders = true) (J : List Nat) {L : AtLoop} {f : FuncId} {fn : Func} {c : Code} (hf : P.funcs[f]? = some fn) (hc : fn.body = some c) {ds rs : List D} (hcount : countV ds ≤ 400) (hsz : ds.length = fn.params.size) {pts loops : List Nat} (his : (ptIds J c, loopIds c) = (pts, loops)) (hn : nodupB pts = true)
    (hk : ∀ caps, capsL 40 (layVals caps 500 ds).1 → jFn P h L J f (layVals caps 500 ds).1.toArray (heapOf (layVals caps 500 ds).2) (dataK (· = rs)))
    (hcut : ∀ id ∈ pts, id ∉ loops → ∀ s b, L id s b → jNext P h L J f id .normal s b (dataK (· = rs)))
    (hl : ∀ id ∈ loops, Nonempty (LoopJ P h J f c (fnLv fn) id L (dataK (· = rs)))) : Con P f ds rs := by
  intro w args hgood hr
  obtain ⟨caps, ρ, hst, g, ha⟩ := lay_gam hgood hr hcount
  have hsz2 : max (layVals caps 500 ds).1.toArray.size fn.ntmps = fnSize fn := by simp [fnSize, layVals_len, hsz]
  refine callsIn_wide.1 ((jFn_run hh hmix hf hc (hk caps (capsL_of 40 ha)) (by rw [hsz2]; exact ptsOK_good hh hmix hf hc his hn hcut hl) g 0 (by simpa using ha)).mono ?_)
  rintro e w' ⟨v, H', ρ', v', hkv, rfl, hv, g'⟩
  obtain ⟨vs, ds', u, rfl, h1, rfl⟩ := dataK_out g' hst hv hkv
  exact ⟨⟨vs, u, rfl, h1⟩, g'.below.below hst⟩
end Go.Abs

/- A range over a function: it is sound. -/
namespace Go.Abs
open Go.RowKit
variable {P : Program} {ρ : Ren} {w0 : Start P} {w : World} {H : Heap} {h : Handler}

/-! ### The same call, seen from a later world -/
/-- What the rounds of an outer range may change, named. -/
structure Wit (w0 : Start P) (ρ : Ren) (H : Heap) (w : World) (Fo : Nat → Prop) : Prop where
  is : ∀ own rest, H.get ynum = some (.yld own rest) → ∃ m, ρ ynum = some m ∧ w0.it own rest Fo m.b w ∧ ∀ j n, ρ j = some n → H.live j → j ≠ ynum → ¬ Fo n.b
  no : (∀ own rest, H.get ynum ≠ some (.yld own rest)) → ∀ k, ¬ Fo k
theorem Gam.wit (g : Gam w0 ρ H w) : ∃ Fo, Wit w0 ρ H w Fo := by
  by_cases hy : ∃ own rest, H.get ynum = some (.yld own rest)
  · obtain ⟨own, rest, hget⟩ := hy
    obtain ⟨m, F, h1, h2, h3⟩ := g.yld own rest hget
    refine ⟨F, ⟨fun own' rest' h => ?_, fun h => absurd hget (h own rest)⟩⟩
    rw [hget] at h
    cases h
    exact ⟨m, h1, h2, h3⟩
  · exact ⟨fun _ => False, ⟨fun own rest h => absurd ⟨own, rest, h⟩ hy, fun _ _ h => h⟩⟩
variable {Fo : Nat → Prop}
theorem Wit.bound (wt : Wit w0 ρ H w Fo) (g : Gam w0 ρ H w) {k : Nat} (hk : Fo k) : k < w.heap.size := by
  by_cases hy : ∃ own rest, H.get ynum = some (.yld own rest)
  · obtain ⟨own, rest, hget⟩ := hy
    obtain ⟨m, h1, h2, h3⟩ := wt.is own rest hget
    exact g.itok.bound h2 k hk
  · exact absurd hk (wt.no (fun own rest h => hy ⟨own, rest, h⟩) k)
theorem Wit.free (wt : Wit w0 ρ H w Fo) (g : Gam w0 ρ H w) {k : Nat} (hk : Fo k) (hlt : k < w0.w.heap.size) : w0.free k := by
  by_cases hy : ∃ own rest, H.get ynum = some (.yld own rest)
  · obtain ⟨own, rest, hget⟩ := hy
    obtain ⟨m, h1, h2, h3⟩ := wt.is own rest hget
    exact g.itok.free h2 k hk hlt
  · exact absurd hk (wt.no (fun own rest h => hy ⟨own, rest, h⟩) k)
theorem Wit.yld (wt : Wit w0 ρ H w Fo) : YldR w0 ρ H w := fun own rest h => let ⟨m, h1, h2, h3⟩ := wt.is own rest h; ⟨m, Fo, h1, h2, h3⟩

def startAt (w0 : Start P) (ρ : Ren) (w : World) (Fo : Nat → Prop) : Start P :=
  { w := w, pin := ρ, mine := fun k => ∃ i m, gbase ≤ i ∧ ρ i = some m ∧ m.b = k, free := Fo, it := fun own rest F l w' => w0.it own rest F l w' ∧ w.heap.size ≤ w'.heap.size ∧ ∀ k, F k → k < w.heap.size → Fo k }
theorem at_own (g : Gam w0 ρ H w) {k : Nat} (h : (startAt w0 ρ w Fo).own k) (hk : k < w0.w.heap.size) : w0.own k := by
  rcases h with ⟨i, m, h1, h2, h3, h4⟩ | ⟨i, m, h1, h3, h4⟩
  · exact .inl ⟨i, m, h1, h2, g.pins i m (Nat.le_trans (by decide) h1) h2 h3, h4⟩
  · rcases (g.own i m h3).2 h1 with h | h
    · omega
    · exact .inr (h4 ▸ h)
theorem at_itok (g : Gam w0 ρ H w) (wt : Wit w0 ρ H w Fo) : ItOK (startAt w0 ρ w Fo) := by
  refine ⟨?_, ?_, ?_, ?_⟩
  · intro own rest F' l w' h; exact g.itok.bound h.1
  · intro own rest F' l w' h k hk hlt; exact h.2.2 k hk hlt
  · intro own rest F' l w1 w2 h h1 h2 h3 hs hk
    refine ⟨g.itok.stable h.1 h1 h2 h3 hs (fun k hk1 hc => hk k hk1 ?_), Nat.le_trans h.2.1 hs, h.2.2⟩
    rcases hc with ⟨c1, c2⟩ | hc
    · exact .inl ⟨Nat.lt_of_lt_of_le c1 g.below.size, fun ho => c2 (ho.elim (fun ho => .inl (at_own g ho c1)) (fun ho => .inr (wt.free g ho c1)))⟩
    · exact .inr hc
  · intro row rest F' l w1 h args' ha
    obtain ⟨L, hL, hsz, hr⟩ := g.itok.round h.1 args' ha
    refine ⟨L, hL, hsz, fun rC n => (hr rC n).mono ?_⟩
    rintro e w2 ⟨b, F2, rfl, q1, q2, q3, q4, q5, q6, q7⟩
    refine ⟨b, F2, rfl, ⟨q1, Nat.le_trans h.2.1 q5, fun k hk hlt => ?_⟩, q2, q3, q4, q5, q6, q7⟩
    rcases q7 k hk with h7 | h7
    · exact h.2.2 k h7 hlt
    · have := h.2.1; omega
theorem Gam.atNow (g : Gam w0 ρ H w) (wt : Wit w0 ρ H w Fo) : Gam (startAt w0 ρ w Fo) ρ H w := by
  refine ⟨g.gb, g.fresh, Kept.refl (startAt w0 ρ w Fo), fun i m hm => ⟨(g.own i m hm).1, fun hi => .inr ⟨i, m, hi, hm, rfl⟩⟩, g.glob, g.inj, g.obj, g.gmap, fun _ _ _ _ h => h, ?_, at_itok g wt, ?_⟩
  · intro q hq
    obtain ⟨v1, v2⟩ := g.vars q hq
    have h6 := VarKind.ok_some v1
    have h7 : q.1 < w0.w.heap.size := by
      rcases Nat.lt_or_ge q.1 w0.w.heap.size with h | h
      · exact h
      · rw [Array.getElem?_eq_none h] at h6; cases h6
    refine ⟨g.good q hq, fun h => ?_⟩
    rcases h with h | h
    · exact v2 (.inl (at_own g h h7))
    · exact v2 (.inr (wt.free g h h7))
  · intro own rest hget
    obtain ⟨m, h1, h2, h3⟩ := wt.is own rest hget
    exact ⟨m, Fo, h1, ⟨h2, Nat.le_refl _, fun _ hk _ => hk⟩, h3⟩
/-- The blocks that a call may change from here on. -/
def Foot (ρ : Ren) (Fo : Nat → Prop) (k : Nat) : Prop := (∃ i m, mbase ≤ i ∧ ρ i = some m ∧ m.b = k) ∨ Fo k
theorem at_foot {k : Nat} (h : (startAt w0 ρ w Fo).may k) : Foot ρ Fo k := by
  rcases h with (⟨i, m, h1, h2, h3, h4⟩ | ⟨i, m, h1, h3, h4⟩) | h
  · exact .inl ⟨i, m, h1, h3, h4⟩
  · exact .inl ⟨i, m, mb_of h1, h3, h4⟩
  · exact .inr h
/-- Back at the call's own beginning. -/
theorem Gam.atBack (g : Gam w0 ρ H w) (wt : Wit w0 ρ H w Fo) {ρ2 : Ren} {H2 : Heap} {w2 : World} (g2 : Gam (startAt w0 ρ w Fo) ρ2 H2 w2) :
    Gam w0 ρ2 H2 w2 ∧ (∀ k, k < w.heap.size → ¬ Foot ρ Fo k → w2.heap[k]? = w.heap[k]?) ∧ (∃ Fo2, Wit w0 ρ2 H2 w2 Fo2 ∧ ∀ k, Fo2 k → Fo k ∨ w.heap.size ≤ k) ∧ (∀ i m, mbase ≤ i → ρ2 i = some m → Foot ρ Fo m.b ∨ w.heap.size ≤ m.b) := by
  have hsz : w.heap.size ≤ w2.heap.size := g2.below.size
  have key : ∀ k, k < w.heap.size → ¬ Foot ρ Fo k → w2.heap[k]? = w.heap[k]? := fun k hk hf => g2.below.block k hk (fun h => hf (at_foot h))
  have own2 : ∀ i m, gbase ≤ i → ρ2 i = some m → w.heap.size ≤ m.b ∨ ∃ j n, gbase ≤ j ∧ ρ j = some n ∧ n.b = m.b := fun i m hi hm => (g2.own i m hm).2 hi
  have hit : ∀ {own rest F l w'}, (startAt w0 ρ w Fo).it own rest F l w' → w0.it own rest F l w' ∧ ∀ k, F k → Fo k ∨ w.heap.size ≤ k := fun {own rest F l w'} h =>
    ⟨h.1, fun k hk => by
      rcases Nat.lt_or_ge k w.heap.size with hl | hl
      · exact .inl (h.2.2 k hk hl)
      · exact .inr hl⟩
  refine ⟨⟨g2.gb, g2.fresh, ⟨g2.below.os.trans g.below.os, g2.below.tape.trans g.below.tape, g2.below.output.trans g.below.output, Nat.le_trans g.below.size hsz, fun k hk hm => ?_⟩, fun i m hm => ⟨(g2.own i m hm).1, fun hi => ?_⟩, g2.glob, g2.inj, g2.obj, g2.gmap, fun i m h1 h2 hm => g.pins i m h1 h2 (g2.pins i m h1 h2 hm), g.vars, g.itok, ?_⟩, key, ?_, ?_⟩
  · refine (g2.below.block k (Nat.lt_of_lt_of_le hk g.below.size) (fun h => ?_)).trans (g.below.block k hk hm)
    rcases h with h | h
    · exact hm (.inl (at_own g h hk))
    · exact hm (.inr (wt.free g h hk))
  · rcases own2 i m hi hm with h | ⟨j, n, hj, hn, hb⟩
    · exact .inl (Nat.le_trans g.below.size h)
    · rw [← hb]; exact (g.own j n hn).2 hj
  · intro own rest hget
    obtain ⟨m, F, h1, h2, h3⟩ := g2.yld own rest hget
    exact ⟨m, F, h1, h2.1, h3⟩
  · by_cases hy : ∃ own rest, H2.get ynum = some (.yld own rest)
    · obtain ⟨own, rest, hget⟩ := hy
      obtain ⟨m, F, h1, h2, h3⟩ := g2.yld own rest hget
      refine ⟨F, ⟨fun own' rest' h => ?_, fun h => absurd hget (h own rest)⟩, (hit h2).2⟩
      rw [hget] at h
      cases h
      exact ⟨m, h1, h2.1, h3⟩
    · exact ⟨fun _ => False, ⟨fun own rest h => absurd ⟨own, rest, h⟩ hy, fun _ _ h => h⟩, fun _ h => h.elim⟩
  · intro i m hi hm
    rcases Nat.lt_or_ge i gbase with hl | hl
    · exact .inl (.inl ⟨i, m, hi, g2.pins i m (Nat.le_trans (by decide) hi) hl hm, rfl⟩)
    · rcases own2 i m hl hm with h | ⟨j, n, hj, hn, hb⟩
      · exact .inr h
      · exact .inl (.inl ⟨j, n, mb_of hj, hn, hb⟩)

/-- The world changes elsewhere. -/
theorem Gam.same (g : Gam w0 ρ H w) (wt : Wit w0 ρ H w Fo) {w' : World} (h1 : w'.os = w.os) (h2 : w'.tape = w.tape) (h3 : w'.output = w.output) (hs : w.heap.size ≤ w'.heap.size)
    (hw : ∀ k, k < w0.w.heap.size → ¬ w0.may k → w'.heap[k]? = w.heap[k]?) (hb : ∀ i m, ρ i = some m → H.live i → w'.heap[m.b]? = w.heap[m.b]?) (hf : ∀ k, Fo k → w'.heap[k]? = w.heap[k]?) : Gam w0 ρ H w' ∧ Wit w0 ρ H w' Fo := by
  have wt' : Wit w0 ρ H w' Fo := by
    refine ⟨fun own rest hget => ?_, wt.no⟩
    obtain ⟨m, q1, q2, q3⟩ := wt.is own rest hget
    refine ⟨m, q1, g.itok.stable q2 h1 h2 h3 hs (fun k hk hc => ?_), q3⟩
    rcases hc with ⟨c1, c2⟩ | hc
    · exact hw k c1 c2
    · exact hf k hc
  exact ⟨⟨g.gb, g.fresh, ⟨h1.trans g.below.os, h2.trans g.below.tape, h3.trans g.below.output, Nat.le_trans g.below.size hs, fun k hk hm => (hw k hk hm).trans (g.below.block k hk hm)⟩, fun i m hm => ⟨Nat.lt_of_lt_of_le (g.own i m hm).1 hs, (g.own i m hm).2⟩, g.glob, g.inj,
    fun i m o hm ho => (g.obj i m o hm ho).mono ρ.le_refl (fun hal => hb i m hm ⟨o, ho, hal⟩), g.gmap, g.pins, g.vars, g.itok, wt'.yld⟩, wt'⟩

/-! ### What is handed on is laid -/
theorem heapOf_next {b r : Blocks} (h : ∀ p ∈ r, p.1 < gbase) : (heapOf (b ++ r)).next = (heapOf b).next := by
  have e : r.filter (fun p => decide (gbase ≤ p.1)) = [] := List.filter_eq_nil_iff.2 (fun p hp => by have := h p hp; simp; omega)
  simp [heapOf, List.filter_append, e]
theorem foldl_set_out (r : Blocks) : ∀ (t : Tree AObj) (i : Nat), (∀ p ∈ r, p.1 ≠ i) → (r.foldl (fun t (p : Nat × AObj) => t.set (p.1 + 1) p.1 p.2) t).get i = t.get i := by
  induction r with
  | nil => intro t i _; rfl
  | cons p r ih =>
    intro t i h
    simp only [List.foldl_cons]
    rw [ih _ i (fun q hq => h q (List.mem_cons_of_mem _ hq)), Tree.get_set _ _ _ _ _ (by omega), if_neg (fun e => h p (List.mem_cons_self ..) e.symm)]
theorem heapOf_out {b r : Blocks} {i : Nat} (h : ∀ p ∈ r, p.1 ≠ i) : (heapOf (b ++ r)).get i = (heapOf b).get i := by
  simp only [heapOf, Heap.get, List.foldl_append]
  exact foldl_set_out r _ i h
theorem Gam.layRow {b : Blocks} (g : Gam w0 ρ (heapOf b) w) (wt : Wit w0 ρ (heapOf b) w Fo) (hno : ∀ q, wbase ≤ q → q < hbase → ρ q = none ∧ ∀ o, (q, o) ∉ b) {F : Nat → Prop} (hF : ∀ k, Foot ρ Fo k → F k)
    {row : List D} {vs' : List Value} (h : ReadsL (hide F w) row vs') (hc : countV row ≤ 40) :
    ∃ caps ρ3, Gam w0 ρ3 (heapOf (b ++ (layVals caps wbase row).2)) w ∧ LR ρ3 (layVals caps wbase row).1 vs' ∧ ρ.le ρ3 ∧ (∀ i m, ρ3 i = some m → ρ i = some m ∨ (wbase ≤ i ∧ i < hbase ∧ ¬ F m.b)) ∧ Wit w0 ρ3 (heapOf (b ++ (layVals caps wbase row).2)) w Fo := by
  obtain ⟨pl, h1, h2, h3⟩ := layVals_ok row wbase h
  let caps : Nat → Nat := fun q => ((pl q).map (·.1)).getD 0
  let ρ3 : Ren := fun q => if wbase ≤ q ∧ q < wbase + countV row then (pl q).map (·.2) else ρ q
  have hhi : wbase + countV row ≤ hbase := by unfold wbase hbase; omega
  have hρ : ∀ q m, ρ3 q = some m → (wbase ≤ q ∧ q < wbase + countV row ∧ (m.b < w.heap.size ∧ ¬ F m.b) ∧ ∃ c, pl q = some (c, m)) ∨ (¬ (wbase ≤ q ∧ q < wbase + countV row) ∧ ρ q = some m) := by
    intro q m hm
    simp only [ρ3] at hm
    split at hm
    · rename_i hq
      obtain ⟨⟨c, m'⟩, hx, e⟩ := Option.map_eq_some_iff.1 hm
      cases e
      obtain ⟨c2, m2, hx2, hb⟩ := h2 q hq.1 hq.2
      rw [hx] at hx2; cases hx2
      exact .inl ⟨hq.1, hq.2, ⟨by rw [hide_size] at hb; exact hb.1, let ⟨_, _, _, hcl⟩ := hb.2; (hide_cells hcl).1⟩, c, hx⟩
    · rename_i hq; exact .inr ⟨hq, hm⟩
  have hbl := h1 caps
  have hle : ρ.le ρ3 := by
    intro q m hm
    have : ¬ (wbase ≤ q ∧ q < wbase + countV row) := fun hq => by
      rw [(hno q hq.1 (by omega)).1] at hm; cases hm
    simp only [ρ3]; rw [if_neg this]; exact hm
  have hlow : ∀ p ∈ (layVals caps wbase row).2, wbase ≤ p.1 ∧ p.1 < wbase + countV row := fun p hp => let ⟨a, c, _⟩ := hbl p.1 p.2 hp; ⟨a, c⟩
  have hgb : ∀ p ∈ (layVals caps wbase row).2, p.1 < gbase := fun p hp => by have := (hlow p hp).2; unfold hbase at hhi; unfold gbase; omega
  have hn := heapOf_next (b := b) hgb
  have hold : ∀ {i : Nat}, ¬ (wbase ≤ i ∧ i < wbase + countV row) → (heapOf (b ++ (layVals caps wbase row).2)).get i = (heapOf b).get i := fun {i} hi => heapOf_out (fun p hp e => hi (by rw [← e]; exact hlow p hp))
  have hnew : ∀ {i : Nat} {o : AObj}, wbase ≤ i → i < wbase + countV row → (heapOf (b ++ (layVals caps wbase row).2)).get i = some o → (i, o) ∈ (layVals caps wbase row).2 := by
    intro i o h1 h2 h
    rcases List.mem_append.1 (heapOf_get h) with h | h
    · exact absurd h ((hno i h1 (by omega)).2 o)
    · exact h
  have hmbn : ∀ {i : Nat}, mbase ≤ i → ¬ (wbase ≤ i ∧ i < wbase + countV row) := fun {i} hi h => by unfold mbase at hi; unfold hbase at hhi; omega
  have hobj : ∀ {q : Nat} {m : Meta} {o : AObj}, wbase ≤ q → q < wbase + countV row → ρ3 q = some m → (heapOf (b ++ (layVals caps wbase row).2)).get q = some o → ObjR ρ3 w m o ∧ ¬ F m.b := by
    intro q m o q1 q2 hm ho
    obtain ⟨_, _, c', m', hx, hb, cs, es, rfl, r1, r2, r3, ⟨a, ty, fz, r4, r5, r6⟩, r7⟩ := hbl q o (hnew q1 q2 ho)
    rcases hρ q m hm with ⟨_, _, _, c, hx2⟩ | ⟨hq, _⟩
    · rw [hx] at hx2
      cases hx2
      obtain ⟨r8, r9⟩ := hide_cells r4
      refine ⟨⟨⟨r1, r2, r3, a, ty, fz, ⟨r9, fun h => by cases h⟩, r5, ?_⟩, r7⟩, r8⟩
      rw [r6]
      exact LR.plain (fun v => plain_refl _ 8 v) cs (List.all_eq_true.2 (fun v hv => cellP_plain (r7 v hv)))
    · exact absurd ⟨q1, q2⟩ hq
  have live3 : ∀ {i : Nat}, ¬ (wbase ≤ i ∧ i < wbase + countV row) → (heapOf (b ++ (layVals caps wbase row).2)).live i → (heapOf b).live i := fun {i} hi ⟨o, ho, ha⟩ => ⟨o, by rw [← hold hi]; exact ho, ha⟩
  have hyn : ¬ (wbase ≤ ynum ∧ ynum < wbase + countV row) := hmbn (by decide)
  have wt3 : Wit w0 ρ3 (heapOf (b ++ (layVals caps wbase row).2)) w Fo := by
    refine ⟨fun own rest hget => ?_, fun h => wt.no (fun own rest h' => h own rest (by rw [hold hyn]; exact h'))⟩
    rw [hold hyn] at hget
    obtain ⟨m, q1, q2, q3⟩ := wt.is own rest hget
    refine ⟨m, hle _ _ q1, q2, fun j n hj hl hne hf => ?_⟩
    by_cases hj2 : wbase ≤ j ∧ j < wbase + countV row
    · obtain ⟨o, ho, _⟩ := hl
      exact (hobj hj2.1 hj2.2 hj ho).2 (hF _ (.inr hf))
    · rcases hρ j n hj with ⟨a, c, _⟩ | ⟨_, hj3⟩
      · exact hj2 ⟨a, c⟩
      · exact q3 j n hj3 (live3 hj2 hl) hne hf
  refine ⟨caps, ρ3, ⟨by rw [hn]; exact g.gb, ?_, g.below, ?_, ?_, ?_, ?_, ?_, ?_, g.vars, g.itok, wt3.yld⟩, h3 caps ρ3 ⟨fun q q1 q2 => ?_⟩, hle, ?_, wt3⟩
  · intro i hi
    rw [hn] at hi
    have := g.gb
    have hni : ¬ (wbase ≤ i ∧ i < wbase + countV row) := hmbn (by unfold gbase at this; unfold mbase; omega)
    simp only [ρ3]; rw [if_neg hni]; exact g.fresh i hi
  · intro i m hm
    rcases hρ i m hm with ⟨a, c, hb, _⟩ | ⟨_, hm⟩
    · exact ⟨hb.1, fun hg => absurd ⟨a, c⟩ (hmbn (mb_of hg))⟩
    · exact g.own i m hm
  · intro i m hm hi
    rcases hρ i m hm with ⟨a, c, hb, _⟩ | ⟨_, hm⟩
    · unfold wbase at a; unfold abase at hi; omega
    · exact g.glob i m hm hi
  · intro i j mi mj hgi hi hj ei ej hbb
    have hi2 := hmbn hgi
    rcases hρ i mi ei with ⟨a, c, _⟩ | ⟨_, ei⟩
    · exact absurd ⟨a, c⟩ hi2
    · rcases hρ j mj ej with ⟨a, c, _⟩ | ⟨hj2, ej⟩
      · obtain ⟨o, ho, _⟩ := hj
        exact absurd (hF _ (.inl ⟨i, mi, hgi, ei, hbb⟩)) (hobj a c (by simp only [ρ3]; rw [if_pos ⟨a, c⟩]; obtain ⟨c2, m2, hx, _⟩ := h2 j a c; have := ‹ρ3 j = some mj›; simp only [ρ3] at this; rw [if_pos ⟨a, c⟩] at this; exact this) ho).2
      · exact g.inj i j mi mj hgi (live3 hi2 hi) (live3 hj2 hj) ei ej hbb
  · intro i m o hm ho
    rcases hρ i m hm with ⟨a, c, _⟩ | ⟨hi2, hm2⟩
    · exact (hobj a c hm ho).1
    · rw [hold hi2] at ho
      exact (g.obj i m o hm2 ho).mono hle (fun _ => rfl)
  · intro i hi hne
    have hi2 : ¬ (wbase ≤ i ∧ i < wbase + countV row) := by
      rcases hi with h | h
      · intro h2; unfold abase at h; unfold wbase at h2; omega
      · exact hmbn h.1
    rw [hold hi2] at hne
    obtain ⟨m, hm⟩ := g.gmap i hi hne
    exact ⟨m, hle _ _ hm⟩
  · intro i m ha hi hm
    rcases hρ i m hm with ⟨a, c, _⟩ | ⟨_, hm⟩
    · omega
    · exact g.pins i m ha hi hm
  · obtain ⟨c, m, hx, _⟩ := h2 q q1 q2
    exact ⟨c, m, hx, by simp [caps, hx], by simp [ρ3, q1, q2, hx]⟩
  · intro i m hm
    rcases hρ i m hm with ⟨a, c, hb, _⟩ | ⟨_, hm⟩
    · exact .inr ⟨a, by omega, hb.2⟩
    · exact .inl hm

/-! ### The caller's view while the rounds run -/
theorem aliveIn_out {μ : Mu} {H : Heap} {i : Nat} (h : aliveIn μ H i = true) : ∃ o o2, H.get i = some o ∧ mapO μ o = some o2 ∧ o.alive = true := by
  unfold aliveIn at h
  cases hg : H.get i with
  | none => simp [hg] at h
  | some o =>
    simp only [hg] at h
    cases hm : mapO μ o with
    | none => simp [hm] at h
    | some o2 =>
      refine ⟨o, o2, rfl, hm, mapO_alive hm (fun e => ?_)⟩
      subst e
      simp [hm] at h
structure DemOK (Z : List Nat) (μ : Mu) (H : Heap) (nx : Nat) : Prop where
  fst : (μ.map (·.1)).Nodup
  snd : (μ.map (·.2)).Nodup
  live : ∀ i j, (i, j) ∈ μ → ∃ o o2, H.get i = some o ∧ mapO μ o = some o2 ∧ o.alive = true
  win : ∀ i j, (i, j) ∈ μ → i < wbase ∨ hbase ≤ i
  cls : ∀ i j, (i, j) ∈ μ → (i < gbase ∧ j = i ∧ (i < mbase ∨ i ∉ Z)) ∨ (gbase ≤ i ∧ i ∈ Z ∧ abase ≤ j ∧ j < wbase) ∨ (gbase ≤ i ∧ i ∉ Z ∧ gbase ≤ j ∧ j < nx)
theorem demGood_ok {Z : List Nat} {μ : Mu} {H : Heap} {b : Blocks} (h : demGood Z μ H b = true) : DemOK Z μ H (heapOf b).next := by
  simp only [demGood, Bool.and_eq_true] at h
  have hall := fun p hp => List.all_eq_true.1 h.2 p hp
  refine ⟨nodupB_spec h.1.1, nodupB_spec h.1.2, fun i j hij => ?_, fun i j hij => ?_, fun i j hij => ?_⟩
  all_goals
    have := hall _ hij
    simp only [Bool.and_eq_true, Bool.or_eq_true, decide_eq_true_eq] at this
    obtain ⟨⟨h1, h2⟩, h3⟩ := this
  · exact aliveIn_out h1
  · exact h2
  · split at h3
    · rename_i hlt
      simp only [Bool.and_eq_true, Bool.or_eq_true, decide_eq_true_eq, beq_iff_eq, Bool.not_eq_true', List.contains_eq_mem, decide_eq_false_iff_not] at h3
      exact .inl ⟨hlt, h3.1, h3.2⟩
    · rename_i hge
      split at h3
      · rename_i hz
        simp only [Bool.and_eq_true, decide_eq_true_eq] at h3
        exact .inr (.inl ⟨by omega, by simpa using hz, h3⟩)
      · rename_i hz
        simp only [Bool.and_eq_true, decide_eq_true_eq] at h3
        exact .inr (.inr ⟨by omega, by simpa using hz, h3⟩)
theorem mu_eq_snd {μ : Mu} (h : (μ.map (·.2)).Nodup) {i i' j : Nat} (h1 : (i, j) ∈ μ) (h2 : (i', j) ∈ μ) : i = i' := by have := nodup_inj h h1 h2 rfl; cases this; rfl
theorem mu_eq_fst {μ : Mu} (h : (μ.map (·.1)).Nodup) {i j j' : Nat} (h1 : (i, j) ∈ μ) (h2 : (i, j') ∈ μ) : j = j' := by have := nodup_inj h h1 h2 rfl; cases this; rfl
theorem ren_obj {μ : Mu} (ok : MuS μ) (g : Gam w0 ρ H w) {i : Nat} {m : Meta} {o : AObj} (hm : μ.ren ρ i = some m) (ho : (heapOf (gcB H μ μ)).get i = some o) : ObjR (μ.ren ρ) w m o ∧ ∃ i0 o0, (i0, i) ∈ μ ∧ ρ i0 = some m ∧ H.get i0 = some o0 ∧ mapO μ o0 = some o ∧ o.alive = o0.alive := by
  obtain ⟨i0, hi0, hr0⟩ := Mu.ren_some hm
  obtain ⟨i1, o1, hi1, hg1, hmo⟩ := gcB_mem (heapOf_get ho)
  obtain rfl := mu_eq_snd ok.snd hi0 hi1
  obtain ⟨r1, r2⟩ := mapO_S ok hmo (g.obj _ m _ hr0 hg1)
  exact ⟨r1, i0, o1, hi0, hr0, hg1, hmo, r2⟩
theorem act_S {μ : Mu} (ok : MuS μ) {A : AAct} {a : Act} (ra : ActR ρ A a) {keep : List Tmp} (hdef : gcDef μ keep A = true) : ActR (μ.ren ρ) (actOf A.size (gcS μ keep A)) a := by
  refine ⟨ra.size, ?_, ?_⟩
  · intro t
    unfold AAct.slot actOf
    simp only
    rcases foldlS_tree (gcS μ keep A) (blank A.size) t with h | ⟨p, hp, h0, h1, h2⟩
    · rw [h, blank_get]
      by_cases ht : t < A.size
      · rw [if_pos ht]; exact .unknown _ _
      · rw [if_neg ht]
        have : a.tmps.getD t undef = undef := by
          rw [Array.getD_eq_getD_getElem?, Array.getElem?_eq_none (by rw [ra.size]; exact Nat.le_of_not_lt ht)]
          rfl
        rw [this]
        exact VR.undef _
    · rw [h2]
      unfold gcS at hp
      rcases List.mem_append.1 hp with hp | hp
      · obtain ⟨k, _, rfl⟩ := List.mem_map.1 hp
        simp only at h1
        subst h1
        exact mapV_S ok 8 _ _ (ra.slot k)
      · obtain ⟨D, _, rfl⟩ := List.mem_map.1 hp
        exact absurd h0 (Nat.lt_irrefl _)
  · have hde : (actOf A.size (gcS μ keep A)).defers = A.defers.map fun D => (μ.find D).getD 0 := defOf_gcS hdef
    rw [hde]
    refine ⟨by rw [List.length_map]; exact ra.defers.1, fun j D' h => ?_⟩
    rw [List.getElem?_map] at h
    obtain ⟨D, hD, rfl⟩ := Option.map_eq_some_iff.1 h
    obtain ⟨m, h1, h2⟩ := ra.defers.2 j D hD
    simp only [gcDef, Bool.and_eq_true] at hdef
    obtain ⟨q, hq⟩ := Option.isSome_iff_exists.1 (List.all_eq_true.1 hdef.2 D (List.mem_of_getElem? hD))
    exact ⟨m, by rw [hq]; simp only [Option.getD_some]; rw [Mu.ren_of ok.snd (Mu.find_mem hq)]; exact h1, h2⟩
theorem DemOK.toS {Z : List Nat} {μ : Mu} {nx : Nat} (ok : DemOK Z μ H nx) : MuS μ := ⟨ok.snd, fun i j hij hlt => by
  rcases ok.cls i j hij with h | h | h
  · exact h.2.1
  · have := h.1; unfold gbase at this; unfold abase at hlt; omega
  · have := h.1; unfold gbase at this; unfold abase at hlt; omega⟩
theorem dem_gam {Z : List Nat} {μ : Mu} (g : Gam w0 ρ H w) (wt : Wit w0 ρ H w Fo) (ok : DemOK Z μ H (heapOf (gcB H μ μ)).next) :
    Gam w0 (μ.ren ρ) (heapOf (gcB H μ μ)) w ∧ Wit w0 (μ.ren ρ) (heapOf (gcB H μ μ)) w (fun k => (∃ own rest, (heapOf (gcB H μ μ)).get ynum = some (.yld own rest)) ∧ Fo k) ∧
    (∀ j m, mbase ≤ j → μ.ren ρ j = some m → ∃ i, (i, j) ∈ μ ∧ ρ i = some m ∧ H.live i ∧ mbase ≤ i ∧ i ∉ Z) ∧ (∀ j m, j < mbase → μ.ren ρ j = some m → ∃ i, (i, j) ∈ μ ∧ ρ i = some m ∧ H.live i ∧ (i < mbase ∨ i ∈ Z)) ∧
    (∀ q, wbase ≤ q → q < hbase → μ.ren ρ q = none ∧ ∀ o, (q, o) ∉ gcB H μ μ) := by
  have okS := ok.toS
  have big : ∀ {i j : Nat}, (i, j) ∈ μ → mbase ≤ j → mbase ≤ i ∧ i ∉ Z := by
    intro i j hij hj
    rcases ok.cls i j hij with ⟨h1, h2, h3⟩ | h | h
    · subst h2; exact ⟨hj, h3.resolve_left (by omega)⟩
    · have := h.2.2.2; unfold wbase at this; unfold mbase at hj; omega
    · exact ⟨mb_of h.1, h.2.1⟩
  have big' : ∀ {i j : Nat}, (i, j) ∈ μ → gbase ≤ j → gbase ≤ i := by
    intro i j hij hj
    rcases ok.cls i j hij with ⟨h1, h2, h3⟩ | h | h
    · omega
    · exact h.1
    · exact h.1
  have same : ∀ {i j : Nat}, (i, j) ∈ μ → (j < abase ∨ (hbase ≤ j ∧ j < gbase)) → j = i := by
    intro i j hij hj
    rcases ok.cls i j hij with h | h | h
    · exact h.2.1
    · have h1 := h.2.2.1; have h2 := h.2.2.2; unfold wbase at h2; unfold hbase at hj; omega
    · have h1 := h.2.2.1; unfold gbase at h1 hj; unfold abase at hj; omega
  have liveOf : ∀ {i j : Nat}, (i, j) ∈ μ → H.live i := fun hij => let ⟨o, _, h1, _, h2⟩ := ok.live _ _ hij; ⟨o, h1, h2⟩
  have obj := fun {i : Nat} {m : Meta} {o : AObj} (hm : μ.ren ρ i = some m) (ho : (heapOf (gcB H μ μ)).get i = some o) => ren_obj okS g hm ho
  have wt2 : Wit w0 (μ.ren ρ) (heapOf (gcB H μ μ)) w (fun k => (∃ own rest, (heapOf (gcB H μ μ)).get ynum = some (.yld own rest)) ∧ Fo k) := by
    refine ⟨fun own rest hget => ?_, fun h k hk => let ⟨⟨own, rest, h'⟩, _⟩ := hk; h own rest h'⟩
    obtain ⟨i, o', hi, hg, hmo⟩ := gcB_mem (heapOf_get hget)
    have ho' := isYld_of hmo
    subst ho'
    obtain rfl : ynum = i := same hi (.inr (by decide))
    obtain ⟨m, q1, q2, q3⟩ := wt.is own rest hg
    have eF : (fun k => (∃ own rest, (heapOf (gcB H μ μ)).get ynum = some (.yld own rest)) ∧ Fo k) = Fo := by
      funext k
      exact propext ⟨fun h => h.2, fun h => ⟨⟨own, rest, hget⟩, h⟩⟩
    refine ⟨m, by rw [Mu.ren_of ok.snd hi]; exact q1, by rw [eF]; exact q2, fun j n hj hl hne hF => ?_⟩
    obtain ⟨oj, gj, aj⟩ := hl
    obtain ⟨_, j0, oj0, hj0, rj0, gj0, _, haj⟩ := obj hj gj
    exact q3 j0 n rj0 ⟨oj0, gj0, by rw [← haj]; exact aj⟩ (fun e => by subst e; exact hne (mu_eq_fst ok.fst hj0 hi)) hF.2
  refine ⟨⟨Nat.le_add_right _ _, ?_, g.below, ?_, ?_, ?_, fun i m o hm ho => (obj hm ho).1, ?_, ?_, g.vars, g.itok, wt2.yld⟩, wt2, ?_, ?_, ?_⟩
  · intro i hi
    cases hr : μ.ren ρ i with
    | none => rfl
    | some m =>
      obtain ⟨i0, hi0, _⟩ := Mu.ren_some hr
      have hgb : gbase ≤ (heapOf (gcB H μ μ)).next := Nat.le_add_right _ _
      rcases ok.cls _ _ hi0 with h | h | h
      · omega
      · have := h.2.2.2; unfold wbase at this; unfold gbase at hgb; omega
      · omega
  · intro j m hm
    obtain ⟨i, hi, hr⟩ := Mu.ren_some hm
    exact ⟨(g.own i m hr).1, fun hj => (g.own i m hr).2 (big' hi hj)⟩
  · intro j m hm hj
    obtain ⟨i, hi, hr⟩ := Mu.ren_some hm
    have := same hi (.inl hj)
    subst this
    exact g.glob _ m hr hj
  · rintro i j mi mj hgi ⟨oi, gi, ai⟩ ⟨oj, gj, aj⟩ ei ej hb
    obtain ⟨_, i0, oi0, hi0, ri0, gi0, _, hai⟩ := obj ei gi
    obtain ⟨_, j0, oj0, hj0, rj0, gj0, _, haj⟩ := obj ej gj
    have := g.inj i0 j0 mi mj (big hi0 hgi).1 ⟨oi0, gi0, by rw [← hai]; exact ai⟩ ⟨oj0, gj0, by rw [← haj]; exact aj⟩ ri0 rj0 hb
    subst this
    exact mu_eq_fst ok.fst hi0 hj0
  · intro j hj hn
    cases ho : (heapOf (gcB H μ μ)).get j with
    | none => exact absurd ho hn
    | some o =>
      obtain ⟨i, o', hi, hg, _⟩ := gcB_mem (heapOf_get ho)
      have := same hi (hj.imp id (fun h => ⟨Nat.le_trans (by decide) h.1, h.2⟩))
      subst this
      obtain ⟨m, hm⟩ := g.gmap j hj (by rw [hg]; simp)
      exact ⟨m, by rw [Mu.ren_of ok.snd hi]; exact hm⟩
  · intro j m ha hj hm
    obtain ⟨i, hi, hr⟩ := Mu.ren_some hm
    have := same hi (.inr ⟨ha, hj⟩)
    subst this
    exact g.pins _ m ha hj hr
  · intro j m hj hm
    obtain ⟨i, hi, hr⟩ := Mu.ren_some hm
    exact ⟨i, hi, hr, liveOf hi, big hi hj⟩
  · intro j m hj hm
    obtain ⟨i, hi, hr⟩ := Mu.ren_some hm
    refine ⟨i, hi, hr, liveOf hi, ?_⟩
    rcases ok.cls i j hi with ⟨h1, h2, h3⟩ | h | h
    · subst h2; exact .inl hj
    · exact .inr h.2.1
    · have := h.2.2.1; unfold gbase at this; unfold mbase at hj; omega
  · intro q q1 q2
    have no : ∀ i, (i, q) ∉ μ := by
      intro i hi
      rcases ok.cls i q hi with ⟨h1, h2, h3⟩ | h | h
      · subst h2; rcases ok.win _ _ hi with h | h <;> omega
      · omega
      · have := h.2.2.1; unfold gbase at this; unfold hbase at q2; omega
    refine ⟨?_, fun o ho => ?_⟩
    · cases hr : μ.ren ρ q with
      | none => rfl
      | some m => obtain ⟨i, hi, _⟩ := Mu.ren_some hr; exact absurd hi (no i)
    · obtain ⟨i, _, hi, _⟩ := gcB_mem ho
      exact no i hi

/-! ### The view of the function that is ranged over -/
structure IterOK (μ : Mu) (H : Heap) : Prop where
  fst : (μ.map (·.1)).Nodup
  snd : (μ.map (·.2)).Nodup
  cls : ∀ i j, (i, j) ∈ μ → abase ≤ i ∧ (i < mbase ∨ gbase ≤ i) ∧ hbase ≤ j ∧ j < mbase
  live : ∀ i j, (i, j) ∈ μ → ∃ o o2, H.get i = some o ∧ mapO μ o = some o2 ∧ o.alive = true
theorem iterGood_ok {μ : Mu} {H : Heap} (h : iterGood μ H = true) : IterOK μ H := by
  simp only [iterGood, Bool.and_eq_true] at h
  have hall := fun p hp => List.all_eq_true.1 h.2 p hp
  refine ⟨nodupB_spec h.1.1, nodupB_spec h.1.2, fun i j hij => ?_, fun i j hij => ?_⟩
  all_goals
    have := hall _ hij
    simp only [Bool.and_eq_true, Bool.or_eq_true, decide_eq_true_eq] at this
    obtain ⟨⟨⟨⟨h1, h2⟩, h3⟩, h4⟩, h5⟩ := this
  · exact ⟨h1, h2, h3, h4⟩
  · exact aliveIn_out h5
theorem IterOK.toS {μ : Mu} (ok : IterOK μ H) : MuS μ := ⟨ok.snd, fun i j hij hlt => by have := (ok.cls i j hij).1; omega⟩
theorem reachV_placed (g : Gam w0 ρ H w) : ∀ (f : Nat) (work : List Nat) (μ : Mu) (ro : Nat), (∀ i ∈ work, Placed ρ i) → (∀ p ∈ μ, Placed ρ p.1) → ∀ p ∈ reachV H f work μ ro, Placed ρ p.1
  | 0, _, μ, _, _, h => by simpa [reachV] using h
  | f + 1, [], μ, _, _, h => by simpa [reachV] using h
  | f + 1, i :: work, μ, ro, hw, h => by
    have hw2 : ∀ j ∈ work, Placed ρ j := fun j hj => hw j (List.mem_cons_of_mem _ hj)
    have hi := hw i (List.mem_cons_self ..)
    unfold reachV
    split
    · exact reachV_placed g f work μ ro hw2 h
    · split
      · exact reachV_placed g f work μ ro hw2 h
      · rename_i o ho
        have hm : ∃ m, ρ i = some m := by
          rcases hi with hlt | hm
          · exact g.gmap i (.inl hlt) (by rw [ho]; simp)
          · exact hm
        obtain ⟨m, hm⟩ := hm
        refine reachV_placed g f _ _ _ (fun j hj => ?_) (fun p hp => ?_)
        · rcases List.mem_append.1 hj with hj | hj
          · exact hw2 j hj
          · exact blocksO_placed (g.obj i m o hm ho) j hj
        · rcases List.mem_append.1 hp with hp | hp
          · exact h p hp
          · rw [List.mem_singleton.1 hp]; exact hi
def iterRen (μ : Mu) (ρ : Ren) (ml : Meta) : Ren := fun j => if j = ynum then some ml else μ.ren ρ j
theorem iter_gam {μ : Mu} (g : Gam w0 ρ H w) (ok : IterOK μ H) {rows : List (List D)} {ml : Meta} (hml : w.heap.size ≤ ml.b) (hml2 : ml.b < w.heap.size + 2) {w1 : World} (hbl : Below w.heap.size w w1) (hsz1 : ml.b < w1.heap.size) {s : Start P} (hsw : s.w = w1) (hsp : s.pin = iterRen μ ρ ml) (hmine : ∀ k, ¬ s.mine k)
    (hvars : ∀ q ∈ varsOf P, ¬ s.free q.1) (hok : ItOK s) {F0 : Nat → Prop} (hit : s.it false (some rows) F0 ml.b w1) (hd : ∀ i j n, (i, j) ∈ μ → ρ i = some n → ¬ F0 n.b) : Gam s (iterRen μ ρ ml) (heapOf ((ynum, .yld false (some rows)) :: gcB H μ μ)) w1 := by
  have okS := ok.toS
  have g1 : Gam w0 ρ H w1 := g.grow hbl
  have ine : ∀ {i j : Nat}, (i, j) ∈ μ → j ≠ ynum := fun hij e => by have := (ok.cls _ _ hij).2.2.2; subst e; exact absurd this (by decide)
  have rOf : ∀ {j : Nat} {m : Meta}, iterRen μ ρ ml j = some m → (j = ynum ∧ m = ml) ∨ (j ≠ ynum ∧ ∃ i, (i, j) ∈ μ ∧ ρ i = some m) := by
    intro j m h
    unfold iterRen at h
    split at h
    · rename_i e; cases h; exact .inl ⟨e, rfl⟩
    · rename_i e
      obtain ⟨i, hi, hr⟩ := Mu.ren_some h
      exact .inr ⟨e, i, hi, hr⟩
  have hle : (μ.ren ρ).le (iterRen μ ρ ml) := by
    intro j m h
    obtain ⟨i, hi, _⟩ := Mu.ren_some h
    unfold iterRen
    rw [if_neg (ine hi)]; exact h
  have getY : ∀ {j : Nat} {o : AObj}, (heapOf ((ynum, .yld false (some rows)) :: gcB H μ μ)).get j = some o → (j = ynum ∧ o = .yld false (some rows)) ∨ (j ≠ ynum ∧ ∃ i o0, (i, j) ∈ μ ∧ H.get i = some o0 ∧ mapO μ o0 = some o) := by
    intro j o h
    rcases List.mem_cons.1 (heapOf_get h) with e | h
    · cases e; exact .inl ⟨rfl, rfl⟩
    · obtain ⟨i, o0, hi, hg, hmo⟩ := gcB_mem h
      exact .inr ⟨ine hi, i, o0, hi, hg, hmo⟩
  have hs1 := hbl.size
  refine ⟨Nat.le_add_right _ _, ?_, ?_, ?_, ?_, ?_, ?_, ?_, fun i m _ _ h => by rw [hsp]; exact h, ?_, hok, ?_⟩
  · intro i hi
    have hgb : gbase ≤ i := Nat.le_trans (Nat.le_add_right _ _) hi
    cases hr : iterRen μ ρ ml i with
    | none => rfl
    | some m =>
      rcases rOf hr with ⟨e, _⟩ | ⟨_, i0, hi0, _⟩
      · subst e; exact absurd hgb (by decide)
      · have := (ok.cls _ _ hi0).2.2.2; unfold mbase at this; unfold gbase at hgb; omega
  · have := Kept.refl s
    rwa [hsw] at this
  · intro j m hm
    rcases rOf hm with ⟨e, rfl⟩ | ⟨_, i, hi, hr⟩
    · exact ⟨hsz1, fun h => by subst e; exact absurd h (by decide)⟩
    · exact ⟨(g1.own i m hr).1, fun h => by have := (ok.cls _ _ hi).2.2.2; unfold mbase at this; unfold gbase at h; omega⟩
  · intro j m hm hj
    rcases rOf hm with ⟨e, _⟩ | ⟨_, i, hi, hr⟩
    · subst e; exact absurd hj (by decide)
    · have := (ok.cls _ _ hi).2.2.1; unfold hbase at this; unfold abase at hj; omega
  · intro i j mi mj hgi hi hj ei ej hb
    rcases rOf ei with ⟨e, rfl⟩ | ⟨_, i0, hi0, _⟩
    · rcases rOf ej with ⟨e2, _⟩ | ⟨_, j0, hj0, rj0⟩
      · rw [e, e2]
      · have := (g.own j0 mj rj0).1; omega
    · have := (ok.cls _ _ hi0).2.2.2; omega
  · intro j m o hm ho
    rcases getY ho with ⟨_, rfl⟩ | ⟨hne, i, o0, hi, hg, hmo⟩
    · trivial
    · rcases rOf hm with ⟨e, _⟩ | ⟨_, i2, hi2, hr2⟩
      · exact absurd e hne
      · obtain rfl := mu_eq_snd ok.snd hi hi2
        exact (mapO_S okS hmo (g1.obj _ m _ hr2 hg)).1.mono hle (fun _ => rfl)
  · intro j hj hn
    cases ho : (heapOf ((ynum, .yld false (some rows)) :: gcB H μ μ)).get j with
    | none => exact absurd ho hn
    | some o =>
      rcases getY ho with ⟨e, _⟩ | ⟨_, i, o0, hi, _⟩
      · exact ⟨ml, by simp [iterRen, e]⟩
      · have := (ok.cls _ _ hi).2.2; unfold hbase mbase at this; unfold abase mbase at hj; omega
  · intro q hq
    refine ⟨by rw [hsw]; exact g1.good q hq, ?_⟩
    have h6 := VarKind.ok_some (g.good q hq)
    have h7 : q.1 < w.heap.size := by
      rcases Nat.lt_or_ge q.1 w.heap.size with h | h
      · exact h
      · rw [Array.getElem?_eq_none h] at h6; cases h6
    rintro ((⟨j, m, h1, h2, h3, h4⟩ | h) | h)
    · rw [hsp] at h3
      rcases rOf h3 with ⟨_, rfl⟩ | ⟨_, i, hi, _⟩
      · omega
      · have := (ok.cls _ _ hi).2.2.2; omega
    · exact hmine _ h
    · exact hvars q hq h
  · intro own rest hget
    rcases getY hget with ⟨_, e⟩ | ⟨hne, _⟩
    · cases e
      refine ⟨ml, F0, by simp [iterRen], hit, fun j n hj hl hne hF => ?_⟩
      rcases rOf hj with ⟨e, _⟩ | ⟨_, i, hi, hr⟩
      · exact hne e
      · exact hd i j n hi hr hF
    · exact absurd rfl hne
end Go.Abs

/- A range over a function: the rule. -/
namespace Go.Abs
open Go.RowKit
variable {P : Program} {ρ : Ren} {w0 : Start P} {w : World} {H : Heap} {h : Handler} {Fo : Nat → Prop}

theorem readsL_len {ds : List D} {vs : List Value} (h : ReadsL w ds vs) : ds.length = vs.length := by
  induction ds generalizing vs with
  | nil => cases h; rfl
  | cons d r ih => cases h with | cons h t => simp [ih t]
theorem putAll_size : ∀ (l : List (Tmp × Value)) (A : AAct), (A.putAll l).size = A.size
  | [], _ => rfl
  | (t, v) :: l, A => by
    simp only [AAct.putAll]
    rw [putAll_size l]
    unfold AAct.put1
    split <;> rfl
theorem Foot.mono {ρ2 : Ren} {Fo2 : Nat → Prop} {k : Nat} (hr : ∀ i m, mbase ≤ i → ρ i = some m → ρ2 i = some m) (hf : Fo k → Fo2 k) (h : Foot ρ Fo k) : Foot ρ2 Fo2 k := by
  rcases h with ⟨i, m, h1, h2, h3⟩ | h
  · exact .inl ⟨i, m, h1, hr i m h1 h2, h3⟩
  · exact .inr (hf h)
theorem foot_may (g : Gam w0 ρ H w) (wt : Wit w0 ρ H w Fo) {k : Nat} (h : Foot ρ Fo k) (hk : k < w0.w.heap.size) : w0.may k := by
  rcases h with ⟨i, m, h1, h2, rfl⟩ | h
  · rcases Nat.lt_or_ge i gbase with hl | hl
    · exact .inl (.inl ⟨i, m, h1, hl, g.pins i m (Nat.le_trans (by decide) h1) hl h2, rfl⟩)
    · rcases (g.own i m h2).2 hl with h | h
      · omega
      · exact .inl (.inr h)
  · exact .inr (wt.free g h hk)
theorem foot_lt (g : Gam w0 ρ H w) (wt : Wit w0 ρ H w Fo) {k : Nat} (h : Foot ρ Fo k) : k < w.heap.size := by
  rcases h with ⟨i, m, h1, h2, rfl⟩ | h
  · exact (g.own i m h2).1
  · exact wt.bound g h
theorem gc_wit {μ : Mu} (g : Gam w0 ρ H w) (wt : Wit w0 ρ H w Fo) (ok : MuOK μ (heapOf (gcB H μ μ)).next) : Wit w0 (μ.ren ρ) (heapOf (gcB H μ μ)) w (fun k => (∃ own rest, (heapOf (gcB H μ μ)).get ynum = some (.yld own rest)) ∧ Fo k) := by
  have okS : MuS μ := ⟨ok.snd, fun i j hij hlt => by
    rcases ok.cls i j hij with h | h
    · exact h.2
    · have := h.1; unfold gbase at this; unfold abase at hlt; omega⟩
  refine ⟨fun own rest hget => ?_, fun h k hk => let ⟨⟨own, rest, h'⟩, _⟩ := hk; h own rest h'⟩
  obtain ⟨i, o', hi, hg, hmo⟩ := gcB_mem (heapOf_get hget)
  have ho' := isYld_of hmo
  subst ho'
  have hiy : ynum = i := by
    rcases ok.cls _ _ hi with h | h
    · exact h.2
    · exact absurd h.2.1 (by decide)
  subst hiy
  obtain ⟨m, q1, q2, q3⟩ := wt.is own rest hg
  have eF : (fun k => (∃ own rest, (heapOf (gcB H μ μ)).get ynum = some (.yld own rest)) ∧ Fo k) = Fo := by
    funext k
    exact propext ⟨fun h => h.2, fun h => ⟨⟨own, rest, hget⟩, h⟩⟩
  refine ⟨m, by rw [Mu.ren_of ok.snd hi]; exact q1, by rw [eF]; exact q2, fun j n hj hl hne hF => ?_⟩
  obtain ⟨oj, gj, aj⟩ := hl
  obtain ⟨_, j0, oj0, hj0, rj0, gj0, _, haj⟩ := ren_obj okS g hj gj
  exact q3 j0 n rj0 ⟨oj0, gj0, by rw [← haj]; exact aj⟩ (fun e => by subst e; exact hne (mu_eq_fst ok.fst hj0 hi)) hF.2

/-- The record of a loop changes: nothing else. -/
theorem Gam.record (g : Gam w0 ρ H w) (wt : Wit w0 ρ H w Fo) {lr : Nat} (h0 : w0.w.heap.size ≤ lr) (hm : ∀ i m, ρ i = some m → m.b ≠ lr) (hf : ¬ Fo lr) (o : Obj) : Gam w0 ρ H (w.putObj lr o) ∧ Wit w0 ρ H (w.putObj lr o) Fo := by
  have hput : ∀ k, k ≠ lr → (w.putObj lr o).heap[k]? = w.heap[k]? := fun k hk => World.putObj_heap_other hk
  exact g.same wt rfl rfl rfl (by simp [World.putObj]) (fun k hk _ => hput k (by omega)) (fun i m h _ => hput _ (hm i m h)) (fun k hk => hput k (fun e => hf (e ▸ hk)))

/-- What a round leaves. -/
def Left (B : Slots → Blocks → Prop) (X : Exit → Slots → Blocks → Prop) (e : Exit) (s : Slots) (b : Blocks) : Prop :=
  match e with
  | .normal => B s b
  | .ret => X .ret s b
  | .exit i => X (.exit i) s b
  | _ => False
theorem rend_out {keep : List Tmp} {A A1 : AAct} {B : Slots → Blocks → Prop} {X : Exit → Slots → Blocks → Prop} {e : Exit} (hk : rendK keep A B X e A1 H) : ∃ μ, rowGood μ keep A (gcB H μ μ) = true ∧ Left B X e (gcS μ keep A) (gcB H μ μ) := by
  cases e with
  | normal => obtain ⟨h1, h2⟩ := bcase_out hk; exact ⟨_, h1, h2⟩
  | ret => obtain ⟨h1, h2⟩ := bcase_out hk; exact ⟨_, h1, h2⟩
  | exit i => obtain ⟨h1, h2⟩ := bcase_out hk; exact ⟨_, h1, h2⟩
  | _ => exact hk.elim

def JumpIs (e : Exit) (jump : Option Code) : Prop := match e with | .normal => jump = none | .ret => jump = some .ret | .exit i => jump = some (.exit i) | _ => False
/-- What is known behind a round. -/
def RoundQ (sz : Nat) (B : Slots → Blocks → Prop) (X : Exit → Slots → Blocks → Prop) (w0 : Start P) (ρ : Ren) (Fo : Nat → Prop) (w : World) (a : Act) (lr : Nat) (L : Loop) (e : Ending) (w' : World) : Prop :=
      ∃ (jump : Option Code) (ex : Exit) (ρ' : Ren) (s' : Slots) (b' : Blocks) (Fo' : Nat → Prop) (L' : Loop), e = .returned (.bool jump.isNone) ∧ Left B X ex s' b' ∧ JumpIs ex jump ∧
        Gam w0 ρ' (heapOf b') w' ∧ Wit w0 ρ' (heapOf b') w' Fo' ∧ ActR ρ' (actOf sz s') a ∧ w'.heap[lr]? = some (.loop L') ∧ L' = { L with state := if jump.isNone then .ready else .done, pending := jump } ∧
        w'.os = w.os ∧ w'.tape = w.tape ∧ w'.output = w.output ∧ w.heap.size ≤ w'.heap.size ∧ (∀ k, k < w.heap.size → k ≠ lr → ¬ Foot ρ Fo k → w'.heap[k]? = w.heap[k]?) ∧ (∀ k, Foot ρ' Fo' k → Foot ρ Fo k ∨ w.heap.size ≤ k) ∧
        (∀ i m, ρ' i = some m → m.b ≠ lr) ∧ ¬ Fo' lr ∧ (∀ i m, i < mbase → ρ' i = some m → ρ i = some m) ∧ (∀ q, wbase ≤ q → q < hbase → ρ' q = none ∧ ∀ o, (q, o) ∉ b')

/-- A ROUND, from the caller's view. lr: the loop's record. -/
theorem round_run (hh : HandlerOK P h) (hmix : P.follows .mixedOrders = true) {u : Nat} (hu : u ≠ 0) {sz : Nat} {ps : Array Tmp} {x y : Code} {l : Lv} {keep : List Tmp} {s : Slots} {b : Blocks} {row : List D} {B : Slots → Blocks → Prop} {X : Exit → Slots → Blocks → Prop}
    (hr : roundR P h u sz ps x y l keep s b row B X) (g : Gam w0 ρ (heapOf b) w) (wt : Wit w0 ρ (heapOf b) w Fo) {a : Act} (ra : ActR ρ (actOf sz s) a) {lr : Nat} {L : Loop} (hL : w.heap[lr]? = some (.loop L)) (h0 : w0.w.heap.size ≤ lr)
    (hLt : L.tmps = a.tmps) (hLp : L.params = ps) (hLa : L.assign = x) (hLb : L.body = y) (hLs : L.state = .ready) (hm : ∀ i m, ρ i = some m → m.b ≠ lr) (hf : ¬ Fo lr) (hno : ∀ q, wbase ≤ q → q < hbase → ρ q = none ∧ ∀ o, (q, o) ∉ b)
    {F : Nat → Prop} (hFl : F lr) (hF : ∀ k, Foot ρ Fo k → F k) {args' : Array Value} (hrd : ReadsL (hide F w) row args'.toList) (rC : Option Nat) (n : Nat) :
    L.params.size = args'.size ∧ RoundIn (Fr rC) n P lr L.fn ((L.params.zip args').foldl (fun tmps (t, a) => tmps.setIfInBounds t a) L.tmps) L.assign L.body w (RoundQ sz B X w0 ρ Fo w a lr L) := by
  have hlr : lr < w.heap.size := by
    rcases Nat.lt_or_ge lr w.heap.size with h | h
    · exact h
    · rw [Array.getElem?_eq_none h] at hL; cases hL
  unfold roundR at hr
  obtain ⟨hcnt, hwp⟩ := bcase_out hr
  simp only [Bool.and_eq_true, decide_eq_true_eq] at hcnt
  have hlen := readsL_len hrd
  refine ⟨by rw [hLp, ← hcnt.2, hlen]; simp, ?_⟩
  obtain ⟨caps, ρ3, g3, hl3, hle3, hnew3, wt3⟩ := g.layRow wt hno hF hrd hcnt.1
  have hwp := hwp caps
  -- numbers that may be written are the caller's
  have big3 : ∀ i m, mbase ≤ i → ρ3 i = some m → ρ i = some m := fun i m hi h => (hnew3 i m h).resolve_right (fun h2 => by have := h2.2.1; unfold mbase at hi; unfold hbase at this; omega)
  have foot3 : ∀ k, Foot ρ3 Fo k → Foot ρ Fo k := fun k hk => hk.mono big3 id
  have lr3 : ∀ i m, ρ3 i = some m → m.b ≠ lr := fun i m h e => by
    rcases hnew3 i m h with h | ⟨_, _, h⟩
    · exact hm i m h e
    · exact h (e ▸ hFl)
  refine roundIn_of_wpIn (Fr_fn _ _) ?_
  rw [Fr_inRound, hLa, hLb, hLp, hLt]
  have raA : ActR ρ3 (AAct.putAll { actOf sz s with defers := [] } (ps.toList.zip (layVals caps wbase row).1)) { tmps := (ps.zip args').foldl (fun tmps (t, a) => tmps.setIfInBounds t a) a.tmps, defers := [] } := by
    have base : ActR ρ3 { actOf sz s with defers := [] } { tmps := a.tmps, defers := [] } := ⟨ra.size, fun t => (ra.slot t).mono hle3, rfl, fun j D e => by simp at e⟩
    have := putAll_R ps.toList hl3 base
    have e : (ps.zip args').foldl (fun tmps (t, a) => tmps.setIfInBounds t a) a.tmps = (ps.toList.zip args'.toList).foldl (fun tmps (p : Tmp × Value) => tmps.setIfInBounds p.1 p.2) a.tmps := by
      rw [← Array.foldl_toList, Array.toList_zip]
    rw [e]
    exact this
  have hx := wpT_soundR (b := true) (rC := some lr) (sz := sz) hh hmix (fun h0 => absurd h0 hu) (fun h0 => absurd h0 hu) x hwp (fun h0 => absurd h0 hu) _ ρ3 w _ n (g3.atNow wt3) raA (putAll_size _ _)
  refine wpIn_mono hx ?_
  rintro e1 a1 w1 ⟨A1, H1, ρ4, k1, s1, ra4, g4, ext4⟩
  cases e1 with
  | normal =>
    obtain ⟨g4', key4, ⟨Fo4, wt4, hFo4⟩, foot4⟩ := g3.atBack wt3 g4
    have hs1 : w.heap.size ≤ w1.heap.size := g4.below.size
    have e4 := ext4 rfl
    have small4 : ∀ i m, i < mbase → ρ4 i = some m → ρ3 i = some m := by
      intro i m hi h
      have hnx : i < (heapOf (b ++ (layVals caps wbase row).2)).next := by have := g3.gb; unfold gbase at this; unfold mbase at hi; omega
      cases hr3 : ρ3 i with
      | none => rw [(e4.keep i hnx hr3).1] at h; cases h
      | some m' => rw [e4.le i m' hr3] at h; exact h
    have nfl : ¬ Foot ρ3 Fo lr := by
      rintro (⟨i, m, h1, h2, h3⟩ | h)
      · exact lr3 i m h2 h3
      · exact hf h
    have foot4' : ∀ k, Foot ρ4 Fo4 k → Foot ρ Fo k ∨ w.heap.size ≤ k := by
      rintro k (⟨i, m, h1, h2, rfl⟩ | h)
      · exact (foot4 i m h1 h2).imp (foot3 _) id
      · exact (hFo4 k h).imp .inr id
    have lr4 : ∀ i m, ρ4 i = some m → m.b ≠ lr := by
      intro i m h e
      rcases Nat.lt_or_ge i mbase with hl | hl
      · exact lr3 i m (small4 i m hl h) e
      · rcases foot4 i m hl h with h1 | h1
        · exact nfl (e ▸ h1)
        · omega
    have f4 : ¬ Fo4 lr := fun h => by
      rcases hFo4 lr h with h | h
      · exact hf h
      · omega
    have hL1 : w1.heap[lr]? = some (.loop L) := (key4 lr hlr nfl).trans hL
    have hlr1 : lr < w1.heap.size := by omega
    refine ⟨_, run_beginRound hL1 hLs, ?_⟩
    obtain ⟨gb, wtb⟩ := g4'.record wt4 h0 lr4 f4 (.loop { L with state := .busy })
    have hsb : (w1.putObj lr (.loop { L with state := .busy })).heap.size = w1.heap.size := by simp [World.putObj]
    have hLb1 : (w1.putObj lr (.loop { L with state := .busy })).heap[lr]? = some (.loop { L with state := .busy }) := World.putObj_heap_same hlr1
    have hy := wpT_soundR (b := true) (rC := some lr) (sz := sz) hh hmix (fun h0 => absurd h0 hu) (fun h0 => absurd h0 hu) y k1 (fun h0 => absurd h0 hu) _ ρ4 _ a1 n (gb.atNow wtb) ra4 s1
    refine wpIn_mono hy ?_
    rintro e2 a2 w2 ⟨A2, H2, ρ5, k2, s2, ra5, g5, ext5⟩
    obtain ⟨g5', key5, ⟨Fo5, wt5, hFo5⟩, foot5⟩ := gb.atBack wtb g5
    have hs2 : w1.heap.size ≤ w2.heap.size := by have := g5.below.size; simp only [startAt] at this; omega
    have e5 := ext5 rfl
    have small5 : ∀ i m, i < mbase → ρ5 i = some m → ρ4 i = some m := by
      intro i m hi h
      have hnx : i < H1.next := by have := g4.gb; unfold gbase at this; unfold mbase at hi; omega
      cases hr3 : ρ4 i with
      | none => rw [(e5.keep i hnx hr3).1] at h; cases h
      | some m' => rw [e5.le i m' hr3] at h; exact h
    have nfl4 : ¬ Foot ρ4 Fo4 lr := by
      rintro (⟨i, m, h1, h2, h3⟩ | h)
      · exact lr4 i m h2 h3
      · exact f4 h
    have foot5' : ∀ k, Foot ρ5 Fo5 k → Foot ρ Fo k ∨ w.heap.size ≤ k := by
      rintro k (⟨i, m, h1, h2, rfl⟩ | h)
      · rcases foot5 i m h1 h2 with h | h
        · exact foot4' _ h
        · exact .inr (by omega)
      · rcases hFo5 k h with h | h
        · exact foot4' _ (.inr h)
        · exact .inr (by omega)
    have hL2 : w2.heap[lr]? = some (.loop { L with state := .busy }) := (key5 lr (by omega) nfl4).trans hLb1
    have hlr2 : lr < w2.heap.size := by omega
    obtain ⟨μ, hgood, hleft⟩ := rend_out k2
    simp only [rowGood, Bool.and_eq_true] at hgood
    obtain ⟨hall, hrow⟩ := hgood
    have hok : MuOK μ (heapOf (gcB H2 μ μ)).next := by simp only [gcAll, Bool.and_eq_true] at hall; exact gcGood_ok hall.1
    have ra0 : ActR ρ5 (actOf sz s) a := ra.mono (Ren.le_trans hle3 (Ren.le_trans e4.le e5.le))
    obtain ⟨g6, ra6⟩ := gc_sub g5' ra0 hall
    have wt6 := gc_wit g5' wt5 hok
    have hrow' : ∀ i j, (i, j) ∈ μ → i < wbase ∨ hbase ≤ i := fun i j hij => by
      have := List.all_eq_true.1 hrow _ hij
      simpa using this
    have muBig : ∀ i j, (i, j) ∈ μ → mbase ≤ j → mbase ≤ i := fun i j hij hj => by
      rcases hok.cls i j hij with h | h
      · omega
      · exact mb_of h.1
    have muSmall : ∀ i j, (i, j) ∈ μ → j < mbase → i = j := fun i j hij hj => by
      rcases hok.cls i j hij with h | h
      · exact h.2.symm
      · have := h.2.1; unfold gbase at this; unfold mbase at hj; omega
    have small6 : ∀ i m, i < mbase → μ.ren ρ5 i = some m → ρ i = some m := by
      intro i m hi h
      obtain ⟨i0, hi0, hr0⟩ := Mu.ren_some h
      obtain rfl := muSmall _ _ hi0 hi
      rcases hnew3 _ m (small4 _ m hi (small5 _ m hi hr0)) with h | ⟨q1, q2, _⟩
      · exact h
      · rcases hrow' _ _ hi0 with h | h <;> omega
    have foot6 : ∀ k, Foot (μ.ren ρ5) (fun k => (∃ own rest, (heapOf (gcB H2 μ μ)).get ynum = some (.yld own rest)) ∧ Fo5 k) k → Foot ρ5 Fo5 k := by
      rintro k (⟨i, m, h1, h2, h3⟩ | h)
      · obtain ⟨i0, hi0, hr0⟩ := Mu.ren_some h2
        exact .inl ⟨i0, m, muBig _ _ hi0 h1, hr0, h3⟩
      · exact .inr h.2
    have nfl5 : ¬ Foot ρ5 Fo5 lr := fun h => by
      rcases foot5' lr h with h | h
      · rcases h with ⟨i, m, h1, h2, h3⟩ | h
        · exact hm i m h2 h3
        · exact hf h
      · omega
    have lr6 : ∀ i m, μ.ren ρ5 i = some m → m.b ≠ lr := by
      intro i m h e
      rcases Nat.lt_or_ge i mbase with hl | hl
      · exact hm i m (small6 i m hl h) e
      · exact nfl5 (foot6 _ (.inl ⟨i, m, hl, h, e⟩))
    have f6 : ¬ ((∃ own rest, (heapOf (gcB H2 μ μ)).get ynum = some (.yld own rest)) ∧ Fo5 lr) := fun h => nfl5 (.inr h.2)
    have fin : ∀ (jump : Option Code), JumpIs e2 jump → ∃ v w', (Instr.endRound lr jump).run P w2 = .ok v w' ∧ RoundQ sz B X w0 ρ Fo w a lr L (.returned v) w' := fun jump hj => by
      obtain ⟨g7, wt7⟩ := g6.record wt6 h0 lr6 f6 (.loop { ({ L with state := .busy } : Loop) with state := if jump.isNone then .ready else .done, pending := jump })
      refine ⟨_, _, run_endRound jump hL2, ?_⟩
      refine ⟨jump, e2, _, _, _, _, _, rfl, hleft, hj, g7, wt7, ra6, World.putObj_heap_same hlr2, rfl, g5.below.os.trans g4.below.os, g5.below.tape.trans g4.below.tape, g5.below.output.trans g4.below.output, (by simp [World.putObj]; omega), (fun k hk hkl hkf => by
          have nf3 : ¬ Foot ρ3 Fo k := fun h => hkf (foot3 k h)
          have nf4 : ¬ Foot ρ4 Fo4 k := fun h => by
            rcases foot4' k h with h | h
            · exact hkf h
            · omega
          rw [World.putObj_heap_other hkl, key5 k (by omega) nf4, World.putObj_heap_other hkl, key4 k hk nf3]), (fun k hk => foot5' k (foot6 k hk)), lr6, f6, small6, (fun q q1 q2 => ?_)⟩
      have no : ∀ i, (i, q) ∉ μ := by
        intro i hi
        have := muSmall _ _ hi (by unfold hbase at q2; unfold mbase; omega)
        subst this
        rcases hrow' _ _ hi with h | h <;> omega
      refine ⟨?_, fun o ho => ?_⟩
      · cases hr : μ.ren ρ5 q with
        | none => rfl
        | some m => obtain ⟨i, hi, _⟩ := Mu.ren_some hr; exact absurd hi (no i)
      · obtain ⟨i, _, hi, _⟩ := gcB_mem ho
        exact no i hi
    cases e2 with
    | normal => exact fin none rfl
    | ret => exact fin (some .ret) rfl
    | exit i => exact fin (some (.exit i)) rfl
    | _ => exact hleft.elim
  | _ => exact k1.elim

/-- The end of a function that is ranged over: all has been handed on, or the rounds have stopped. -/
def EndY : Value → Blocks → Prop := fun _ bs => ∃ r, (heapOf bs).get ynum = some (.yld false r) ∧ (r = some [] ∨ r = none)
/-- Where the caller stands between two rounds. -/
def StandsAt (J : List (List D) → Slots → Blocks → Prop) (X : Exit → Slots → Blocks → Prop) (rest : Option (List (List D))) (L : Loop) (s : Slots) (b : Blocks) : Prop :=
  match rest with
  | some r => L.state = .ready ∧ L.pending = none ∧ J r s b
  | none => L.state = .done ∧ ∃ e c, L.pending = some c ∧ X e s b ∧ ((e = .ret ∧ c = .ret) ∨ ∃ i, e = .exit i ∧ c = .exit i)
structure Stands (w0 : Start P) (sz : Nat) (fn : FuncId) (ps : Array Tmp) (x y : Code) (tmps : Array Value) (a : Act) (D0 lr N : Nat) (F0 : Nat → Prop) (J : List (List D) → Slots → Blocks → Prop) (X : Exit → Slots → Blocks → Prop)
    (rest : Option (List (List D))) (F : Nat → Prop) (w' : World) (ρ' : Ren) (s' : Slots) (b' : Blocks) (Fo' : Nat → Prop) (L : Loop) : Prop where
  gam : Gam w0 ρ' (heapOf b') w'
  wit : Wit w0 ρ' (heapOf b') w' Fo'
  act : ActR ρ' (actOf sz s') a
  hL : w'.heap[lr]? = some (.loop L)
  lp : L.fn = fn ∧ L.tmps = tmps ∧ L.params = ps ∧ L.assign = x ∧ L.body = y ∧ L.defers = D0
  st : StandsAt J X rest L s' b'
  foot : ∀ k, F k ↔ (k = lr ∨ Foot ρ' Fo' k)
  sub : ∀ k, F k → k < N → F0 k
  lrn : ∀ i m, ρ' i = some m → m.b ≠ lr
  lrf : ¬ Fo' lr
  low : ∀ i m, i < mbase → ρ' i = some m → m.b < N ∧ ¬ F0 m.b
  win : ∀ q, wbase ≤ q → q < hbase → ρ' q = none ∧ ∀ o, (q, o) ∉ b'

/-- THE RULE OF A RANGE OVER A FUNCTION. rows: what the function hands on; J: what is known of the caller while such a rest is still to come; X: where a round leaves the statement. -/
theorem range_rule (hh : HandlerOK P h) (hmix : P.follows .mixedOrders = true) {u : Nat} (hu : u ≠ 0) {sz : Nat} {f : Operand} {ps : Array Tmp} {x y : Code} {l : Lv} {keep : List Tmp} {s : Slots} {b : Blocks} {K : Cont} {gf : FuncId} {first captured : Array Value}
    (hfv : (actOf sz s).eval f = .func (.func gf) first captured) (hen : enterable P gf = true) (hgood : enterGood (.func (.func gf) first captured) keep sz s b = true) {rows : List (List D)}
    (hit : CallS P gf (iterArgs (.func (.func gf) first captured) (heapOf b)) (iterBlocks (.func (.func gf) first captured) (heapOf b) rows) EndY)
    (J : List (List D) → Slots → Blocks → Prop) (X : Exit → Slots → Blocks → Prop) (h0 : J rows (enterS (.func (.func gf) first captured) keep sz s b) (enterB (.func (.func gf) first captured) keep sz s b))
    (hround : ∀ row rest s b, J (row :: rest) s b → roundR P h u sz ps x y l keep s b row (J rest) X)
    (hend : ∀ s b, J [] s b → K .normal (actOf sz s) (heapOf b)) (hX : ∀ e s b, X e s b → K e (actOf sz s) (heapOf b)) :
    Holds P false sz (.rangeFunc f ps x y) (actOf sz s) (heapOf b) K := by
  intro w0 ρ w a n g ra _
  simp only [enterGood, Bool.and_eq_true] at hgood
  obtain ⟨⟨hig, hdg⟩, hdef⟩ := hgood
  have iok := iterGood_ok hig
  have dok := demGood_ok hdg
  refine wpIn_rangeFunc fun fn _ => ?_
  have hrun := run_enterLoop_outer (P := P) (w := w) fn a.tmps ps x y
  -- the worlds
  let W1 : World := w.alloc (.deferred (some []))
  let L0 : Loop := { state := .ready, pending := none, fn, tmps := a.tmps, params := ps, assign := x, body := y, defers := w.heap.size }
  let W2 : World := W1.alloc (.loop L0)
  let lr : Nat := w.heap.size + 1
  have hW1 : W1.heap.size = w.heap.size + 1 := by simp [W1]
  have hW2 : W2.heap.size = w.heap.size + 2 := by simp [W2, W1]
  have hL2 : W2.heap[lr]? = some (.loop L0) := by
    have := alloc_get W1 (.loop L0)
    rw [hW1] at this
    exact this
  -- the caller
  let mD : Meta := ⟨w.heap.size, 0, 0, false, 0, 0, by omega⟩
  obtain ⟨g1, ext1⟩ := g.new .deferred (.deferred (some [])) mD rfl (alloc_get _ _)
  let ρ1 : Ren := ρ.put (heapOf b).next mD
  let a' : Act := { a with defers := { target := .collected w.heap.size, args := #[] } :: a.defers }
  have ra1 : ActR ρ1 (markA s b sz) a' := by
    refine ⟨ra.size, fun t => (ra.slot t).mono ext1.le, ?_, ?_⟩
    · simp [a', markA, ra.defers.1]
    · intro j D hj
      cases j with
      | zero =>
        simp only [markA, List.getElem?_cons_zero, Option.some.injEq] at hj
        subst hj
        exact ⟨mD, by simp [ρ1, Ren.put], rfl⟩
      | succ j =>
        simp only [markA, List.getElem?_cons_succ] at hj
        obtain ⟨m, h1, h2⟩ := ra.defers.2 j D hj
        exact ⟨m, ext1.le _ _ h1, h2⟩
  have hb12 : Below W1.heap.size W1 W2 := (Below.refl _ W1).alloc (Nat.le_refl _) _
  have g1' : Gam w0 ρ1 (markH b) W1 := g1
  obtain ⟨Fo, wt1⟩ := g1'.wit
  obtain ⟨g2, wt⟩ := g1'.same wt1 hb12.os hb12.tape hb12.output hb12.size (fun k hk _ => hb12.block k (Nat.lt_of_lt_of_le hk g1'.below.size)) (fun i m hm _ => hb12.block _ (g1'.own i m hm).1) (fun k hk => hb12.block k (wt1.bound g1' hk))
  have hFo : ∀ k, Fo k → k < lr := fun k hk => by have := wt1.bound g1' hk; rwa [hW1] at this
  have h0s : w0.w.heap.size ≤ w.heap.size := g.below.size
  obtain ⟨gd, wtd, big, small, win⟩ := dem_gam g2 wt dok
  have rad := act_S dok.toS ra1 hdef
  -- names
  let fv : Value := .func (.func gf) first captured
  let μd := demMu fv keep sz s b
  let ρd : Ren := μd.ren ρ1
  let Fd : Nat → Prop := fun k => (∃ own rest, (heapOf (gcB (markH b) μd μd)).get ynum = some (.yld own rest)) ∧ Fo k
  let F0 : Nat → Prop := fun k => k = lr ∨ Foot ρd Fd k
  have lt1 : ∀ i m, ρ1 i = some m → m.b < lr := fun i m hm => by have := (g1'.own i m hm).1; rwa [hW1] at this
  have lrd : ∀ i m, ρd i = some m → m.b ≠ lr := fun i m hm => by
    obtain ⟨i0, _, hr0⟩ := Mu.ren_some hm
    exact Nat.ne_of_lt (lt1 i0 m hr0)
  have offZ : ∀ i m, ρ1 i = some m → (markH b).live i → (i < mbase ∨ i ∈ (iterMu fv (heapOf b)).map (·.1)) → i ≠ ynum → ¬ F0 m.b := by
    intro i m hm hl hz hy hF
    rcases hF with e | ⟨j, mj, h1, h2, h3⟩ | hF
    · exact Nat.ne_of_lt (lt1 i m hm) e
    · obtain ⟨j0, _, hr0, hl0, hb0, hz0⟩ := big j mj h1 h2
      have := g2.inj j0 i mj m hb0 hl0 hl hr0 hm h3
      subst this
      rcases hz with hz | hz
      · omega
      · exact hz0 hz
    · have hF := hF.2
      by_cases hyl : ∃ own rest, (markH b).get ynum = some (.yld own rest)
      · obtain ⟨own, rest, hget⟩ := hyl
        obtain ⟨my, q1, q2, q3⟩ := wt.is own rest hget
        exact q3 i m hm hl hy hF
      · exact wt.no (fun own rest h => hyl ⟨own, rest, h⟩) _ hF
  have frd : ¬ Fd lr := fun h => Nat.lt_irrefl _ (hFo lr h.2)
  -- where the rounds stand
  let IT : Bool → Option (List (List D)) → (Nat → Prop) → Nat → World → Prop := fun own rest F l' w' => own = false ∧ l' = lr ∧ W2.heap.size ≤ w'.heap.size ∧ ∃ ρ' s' b' Fo' L, Stands w0 sz fn ps x y a.tmps a' w.heap.size lr W2.heap.size F0 J X rest F w' ρ' s' b' Fo' L
  let ml : Meta := ⟨lr, 0, 0, false, 0, 0, by omega⟩
  let μi := iterMu fv (heapOf b)
  let si : Start P := { w := W2, pin := iterRen μi ρ ml, free := F0, it := IT }
  have F0may : ∀ k, F0 k → k < w0.w.heap.size → w0.may k := fun k hk hlt => by
    rcases hk with e | hk
    · simp only [lr] at e; omega
    · exact foot_may gd wtd hk hlt
  have siown : ∀ k, si.own k → k = lr := by
    rintro k (⟨j, m, h1, h2, h3, h4⟩ | h)
    · simp only [si, iterRen] at h3
      split at h3
      · cases h3; exact h4.symm
      · obtain ⟨i, hi, _⟩ := Mu.ren_some h3
        have := (iok.cls _ _ hi).2.2.2; omega
    · exact h.elim
  have siok : ItOK si := by
    refine ⟨?_, ?_, ?_, ?_⟩
    · rintro own rest F l' w' ⟨_, rfl, _, ρ', s', b', Fo', L, S⟩ k hk
      rcases (S.foot k).1 hk with e | hk
      · rw [e]
        rcases Nat.lt_or_ge lr w'.heap.size with h | h
        · exact h
        · have := S.hL; rw [Array.getElem?_eq_none h] at this; cases this
      · exact foot_lt S.gam S.wit hk
    · rintro own rest F l' w' ⟨_, rfl, _, ρ', s', b', Fo', L, S⟩ k hk hlt
      exact S.sub k hk hlt
    · rintro own rest F l' w' w'' ⟨ho, rfl, hsz, ρ', s', b', Fo', L, S⟩ h1 h2 h3 hs hk
      have hF : ∀ k, F k → w''.heap[k]? = w'.heap[k]? := fun k hf => by
        rcases (S.foot k).1 hf with e | hf2
        · refine hk k ?_ (.inr hf)
          rw [e]
          rcases Nat.lt_or_ge lr w'.heap.size with h | h
          · exact h
          · have := S.hL; rw [Array.getElem?_eq_none h] at this; cases this
        · exact hk k (foot_lt S.gam S.wit hf2) (.inr hf)
      obtain ⟨g', wt'⟩ := S.gam.same S.wit h1 h2 h3 hs (fun k hlt hm => by
          refine hk k (by omega) (.inl ⟨by show k < W2.heap.size; omega, fun hmay => ?_⟩)
          rcases hmay with hmay | hmay
          · have := siown k hmay; simp only [lr] at this; omega
          · exact hm (F0may k hmay hlt)) (fun i m hm _ => by
          rcases Nat.lt_or_ge i mbase with hl | hl
          · obtain ⟨q1, q2⟩ := S.low i m hl hm
            refine hk _ (S.gam.own i m hm).1 (.inl ⟨q1, fun hmay => ?_⟩)
            rcases hmay with hmay | hmay
            · exact S.lrn i m hm (siown _ hmay)
            · exact q2 hmay
          · exact hF _ ((S.foot _).2 (.inr (.inl ⟨i, m, hl, hm, rfl⟩)))) (fun k hfo => hF k ((S.foot k).2 (.inr (.inr hfo))))
      exact ⟨ho, rfl, Nat.le_trans hsz hs, ρ', s', b', Fo', L, g', wt', S.act, (hF lr ((S.foot lr).2 (.inl rfl))).trans S.hL, S.lp, S.st, S.foot, S.sub, S.lrn, S.lrf, S.low, S.win⟩
    · rintro row rest F l' w' ⟨_, rfl, hsz, ρ', s', b', Fo', L, S⟩ args' hrd
      obtain ⟨l1, l2, l3, l4, l5, l6⟩ := S.lp
      obtain ⟨st1, st2, st3⟩ := S.st
      have hr := hround row rest s' b' st3
      have hR := fun rC n => round_run (P := P) (Fo := Fo') hh hmix hu hr S.gam S.wit S.act S.hL (by simp only [lr]; omega) (l2.trans rfl) l3 l4 l5 st1 S.lrn S.lrf S.win (F := F) ((S.foot lr).2 (.inl rfl)) (fun k hk => (S.foot k).2 (.inr hk)) hrd rC n
      refine ⟨L, S.hL, (hR none 0).1, fun rC n => (hR rC n).2.mono ?_⟩
      rintro e w3 ⟨jump, ex, ρ3, s3, b3, Fo3, L3, rfl, hleft, hj, g3, wt3, ra3, hL3, hLe, q1, q2, q3, q4, q5, q6, q7, q8, q9, q10⟩
      refine ⟨jump.isNone, fun k => k = lr ∨ Foot ρ3 Fo3 k, rfl, ⟨rfl, rfl, Nat.le_trans hsz q4, ρ3, s3, b3, Fo3, L3, g3, wt3, ra3, hL3, ?_, ?_, fun k => Iff.rfl, ?_, q7, q8, ?_, q10⟩, q1, q2, q3, q4, ?_, ?_⟩
      · rw [hLe]; exact ⟨l1, l2, l3, l4, l5, l6⟩
      · cases ex with
        | normal =>
          have hj' : jump = none := hj
          subst hj'
          rw [hLe]
          exact ⟨rfl, rfl, hleft⟩
        | ret =>
          have hj' : jump = some .ret := hj
          subst hj'
          rw [hLe]
          exact ⟨rfl, .ret, .ret, rfl, hleft, .inl ⟨rfl, rfl⟩⟩
        | exit i =>
          have hj' : jump = some (.exit i) := hj
          subst hj'
          rw [hLe]
          exact ⟨rfl, .exit i, .exit i, rfl, hleft, .inr ⟨i, rfl, rfl⟩⟩
        | _ => exact hleft.elim
      · rintro k (e | hk) hlt
        · exact .inl e
        · rcases q6 k hk with h | h
          · exact S.sub k ((S.foot k).2 (.inr h)) hlt
          · omega
      · intro i m hi hm
        exact S.low i m hi (q9 i m hi hm)
      · intro k hk hnf
        exact q5 k hk (fun e => hnf ((S.foot k).2 (.inl e))) (fun hf => hnf ((S.foot k).2 (.inr hf)))
      · rintro k (e | hk)
        · exact .inl ((S.foot k).2 (.inl e))
        · exact (q6 k hk).imp (fun h => (S.foot k).2 (.inr h)) id
  have hit0 : si.it false (some rows) F0 ml.b W2 := by
    refine ⟨rfl, rfl, Nat.le_refl _, ρd, _, _, Fd, L0, gd, wtd, rad, hL2, ⟨rfl, rfl, rfl, rfl, rfl, rfl⟩, ⟨rfl, rfl, h0⟩, fun k => Iff.rfl, fun k hk _ => hk, lrd, frd, ?_, win⟩
    intro i m hi hm
    obtain ⟨i0, hi0, hr0, hl0, hz0⟩ := small i m hi hm
    refine ⟨(g2.own i0 m hr0).1, offZ i0 m hr0 hl0 hz0 (fun e => ?_)⟩
    subst e
    rcases hz0 with h | h
    · exact absurd h (by decide)
    · obtain ⟨p, hp, e⟩ := List.mem_map.1 h
      obtain ⟨p1, p2⟩ := p
      simp only at e
      subst e
      rcases (iok.cls _ _ hp).2.1 with h | h
      · exact absurd h (by decide)
      · exact absurd h (by decide)
  -- the function that is ranged over
  have hbl : Below w.heap.size w W2 := ((Below.refl _ w).alloc (Nat.le_refl _) _).alloc (by simp) _
  have hgetm : ∀ i o, (heapOf b).get i = some o → (∃ m, ρ i = some m) → (markH b).get i = some o := fun i o ho ⟨m, hm⟩ => by
    have := g.lt hm
    show ((heapOf b).new .deferred).get i = _
    rw [Heap.get_new, if_neg (by omega)]; exact ho
  have hplaced : ∀ p ∈ μi, Placed ρ p.1 := by
    have hf := ra.eval f
    rw [hfv] at hf
    exact reachV_placed g _ _ _ _ (fun i hi => blocksV_placed 8 _ _ hf i hi) (fun p hp => by cases hp)
  have gi : Gam si (iterRen μi ρ ml) (heapOf ((ynum, .yld false (some rows)) :: gcB (heapOf b) μi μi)) W2 := by
    refine iter_gam g iok (ml := ml) (by simp only [ml, lr]; omega) (by simp only [ml, lr]; omega) hbl (by simp only [ml, lr]; omega) rfl rfl (fun k h => h) (fun q hq hF => ?_) siok hit0 (fun i j m hij hr => ?_)
    · obtain ⟨v1, v2⟩ := g.vars q hq
      have h6 := VarKind.ok_some v1
      have h7 : q.1 < w0.w.heap.size := by
        rcases Nat.lt_or_ge q.1 w0.w.heap.size with h | h
        · exact h
        · rw [Array.getElem?_eq_none h] at h6; cases h6
      exact v2 (F0may _ hF h7)
    · obtain ⟨o, _, ho, _, hal⟩ := iok.live i j hij
      refine offZ i m (ext1.le _ _ hr) ⟨o, hgetm i o ho ⟨m, hr⟩, hal⟩ (.inr (List.mem_map.2 ⟨_, hij, rfl⟩)) (fun e => ?_)
      subst e
      rcases (iok.cls _ _ hij).2.1 with h | h
      · exact absurd h (by decide)
      · exact absurd h (by decide)
  have hf := ra.eval f
  rw [hfv] at hf
  obtain ⟨fvC, hfvC⟩ : ∃ fvC, a.eval f = fvC := ⟨_, rfl⟩
  rw [hfvC] at hf
  cases hf with
  | func _ _ _ first' captured' ha hb rfa rfb =>
    have hres : (resolve a.eval (rangeCall f lr) 0).run P W2 = .ok { target := .fn (.func gf) captured', args := first' ++ #[.func (.yield lr) #[] #[]] } W2 := by
      have hmap : (#[Operand.const (Value.func (.yield lr) #[] #[])]).map a.eval = #[Value.func (.yield lr) #[] #[]] := by simp [Act.eval]
      simp only [resolve, hfvC, Deferred.ofValue, hmap]
      rfl
    have hinv : (invoke (.fn (.func gf) captured') (first' ++ #[.func (.yield lr) #[] #[]])).run P W2 = .ok (.enter gf (first' ++ #[.func (.yield lr) #[] #[]] ++ captured')) W2 := enterable_run hen _ W2
    refine ⟨lr, _, W2, _, W2, gf, _, W2, by rw [Fr_round]; exact hrun, hres, fun f' _ => Fr_fn _ _, hinv, by rw [Fr_depth]; simp, ?_⟩
    have hle : (μi.ren ρ).le (iterRen μi ρ ml) := by
      intro j m h
      obtain ⟨i, hi, _⟩ := Mu.ren_some h
      unfold iterRen
      rw [if_neg (fun e => by have := (iok.cls _ _ hi).2.2.2; subst e; exact absurd this (by decide))]; exact h
    have hargs : LR (iterRen μi ρ ml) (iterArgs fv (heapOf b)) (first' ++ #[Value.func (.yield lr) #[] #[]] ++ captured').toList := by
      simp only [Array.toList_append]
      refine LR.append (LR.append ?_ (.cons ?_ .nil)) ?_
      · exact (LR.map_S iok.toS (LR.of_arr ha rfa)).mono hle
      · exact .yield ynum ml (by simp [iterRen])
      · exact (LR.map_S iok.toS (LR.of_arr hb rfb)).mono hle
    refine (Fr_calls (hit si _ W2 _ (n - 1) gi hargs)).mono ?_
    rintro e2 w3 ⟨v, bs, ρ3, v', ⟨r, hget, hr⟩, rfl, hv, g3⟩
    obtain ⟨m, F, hm, ⟨_, hmb, hsz, ρ', s', b', Fo', L, S⟩, _⟩ := g3.yld false r hget
    have hb' : L.state ≠ .busy := by
      rcases hr with rfl | rfl
      · rw [S.st.1]; simp
      · rw [S.st.1]; simp
    refine ⟨_, _, run_endLoop (P := P) S.hL hb', ?_⟩
    obtain ⟨g4, _⟩ := S.gam.record S.wit (by simp only [lr]; omega) S.lrn S.lrf (.loop { L with state := .exhausted })
    rcases hr with rfl | rfl
    · obtain ⟨_, hp, hJ⟩ := S.st
      simp only [hp]
      exact ⟨_, _, ρ', hend _ _ hJ, rfl, S.act, by simpa only [hp] using g4, fun h => by cases h⟩
    · obtain ⟨_, e, c, hp, hXe, hec⟩ := S.st
      simp only [hp]
      rcases hec with ⟨rfl, rfl⟩ | ⟨i, rfl, rfl⟩
      · exact wpIn_ret ⟨_, _, ρ', hX _ _ _ hXe, rfl, S.act, by simpa only [hp] using g4, fun h => by cases h⟩
      · exact wpIn_exit ⟨_, _, ρ', hX _ _ _ hXe, rfl, S.act, by simpa only [hp] using g4, fun h => by cases h⟩
end Go.Abs

/- Functions with ranges over functions, loops, cuts, and ranges within loops. -/
namespace Go.Abs
open Go.RowKit
variable {P : Program} {ρ : Ren} {w0 : Start P} {w : World} {H : Heap} {h : Handler} {L : AtLoop} {J : List Nat}

/-- What must be shown of a range at one of its heads. -/
def RangeAt (P : Program) (head : (FuncId → List Value → Blocks → Slots → Blocks → Prop) → Prop) (round : Slots → Blocks → List D → Kx → (Exit → Kx) → Prop) (N : Kx) (X : Exit → Kx) : Prop :=
  head fun g args bl s' b' => ∃ (rows : List (List D)) (Jr : List (List D) → Kx), CallS P g args ((ynum, .yld false (some rows)) :: bl) EndY ∧ Jr rows s' b' ∧
    (∀ row rest s b, Jr (row :: rest) s b → round s b row (Jr rest) X) ∧ ∀ s b, Jr [] s b → N s b
/-- A range over a function, at the top of a function. -/
structure RangeJ (P : Program) (h : Handler) (J : List Nat) (f : FuncId) (id : Nat) (L : AtLoop) (F : Value → Heap → Prop) : Type 1 where
  at_ : ∀ s b, L id s b → RangeAt P (rHead P f id s b) (rRound P h f id) (fun s b => jNext P h L J f id .normal s b F) (fun e s b => jNext P h L J f id e s b F)
/-- A range over a function, within a loop. -/
structure RangeJ2 (P : Program) (h : Handler) (J : List Nat) (f : FuncId) (id id2 : Nat) (L : AtLoop) (B : Kx) (X : Xk) (F : Value → Heap → Prop) : Type 1 where
  at_ : ∀ s b, L id2 s b → RangeAt P (rHead2 P f id id2 s b) (rRound2 P h f id id2) (fun s b => jIn P h L J f id id2 .normal s b B X F) (fun e s b => jIn P h L J f id id2 e s b B X F)

theorem headOf_holds (hh : HandlerOK P h) (hmix : P.follows .mixedOrders = true) {sz : Nat} {body : Code} {l : Lv} {s : Slots} {b : Blocks} {N : Kx} {X : Exit → Kx} {K : Cont} (hN : ∀ s b, N s b → K .normal (actOf sz s) (heapOf b)) (hX : ∀ e s b, X e s b → K e (actOf sz s) (heapOf b))
    (hk : RangeAt P (headOf P sz (body, l) s b) (rowOfR P h sz (body, l)) N X) : Holds P false sz body (actOf sz s) (heapOf b) K := by
  unfold RangeAt headOf at hk
  cases body with
  | rangeFunc f ps x y =>
    simp only at hk
    split at hk
    · rename_i g first captured hfv
      obtain ⟨hgood, rows, Jr, hit, h0, hround, hend⟩ := bcase_out hk
      simp only [Bool.and_eq_true] at hgood
      exact range_rule hh hmix (u := 8) (by decide) hfv hgood.1 hgood.2 (rows := rows) hit Jr X h0 (fun row rest s b hJ => hround row rest s b hJ) (fun s b hJ => hN _ _ (hend s b hJ)) hX
    · exact hk.elim
  | _ => exact hk.elim

theorem rangeJ_holds (hh : HandlerOK P h) (hmix : P.follows .mixedOrders = true) {f : FuncId} {fn : Func} {c : Code} (hf : P.funcs[f]? = some fn) (hc : fn.body = some c) {id : Nat} {F : Value → Heap → Prop} {body : Code} {l' : Lv} (hfl : findLoop c (fnLv fn) id = some (body, l'))
    (g : RangeJ P h J f id L F) {s : Slots} {b : Blocks} (hs : L id s b) :
    Holds P false (fnSize fn) body (actOf (fnSize fn) s) (heapOf b) (fun e A H => aftJ P h L J c (fnLv fn) id e A H (fnK P fn F)) := by
  have := g.at_ s b hs
  unfold rHead rRound at this
  simp only [hf, hc, hfl] at this
  exact headOf_holds hh hmix (fun s b hN => by simpa only [jNext, hf, hc] using hN) (fun e s b hX => by simpa only [jNext, hf, hc] using hX) this
theorem rangeJ2_holds (hh : HandlerOK P h) (hmix : P.follows .mixedOrders = true) {f : FuncId} {fn : Func} {c : Code} (hf : P.funcs[f]? = some fn) (hc : fn.body = some c) {id id2 : Nat} {F : Value → Heap → Prop} {B : Kx} {X : Xk} {body : Code} {l' : Lv} (hfl : findLoop c (fnLv fn) id = some (body, l')) {body2 : Code} {l2 : Lv} (hf2 : findLoop body l' id2 = some (body2, l2))
    (g : RangeJ2 P h J f id id2 L B X F) {s : Slots} {b : Blocks} (hs : L id2 s b) :
    Holds P false (fnSize fn) body2 (actOf (fnSize fn) s) (heapOf b) (fun e A H => aftJ P h L J body l' id2 e A H (roundK body l' B X (fnK P fn F))) := by
  have := g.at_ s b hs
  unfold rHead2 rRound2 at this
  simp only [hf, hc, hfl, hf2] at this
  exact headOf_holds hh hmix (fun s b hN => by simpa only [jIn, hf, hc, hfl] using hN) (fun e s b hX => by simpa only [jIn, hf, hc, hfl] using hX) this
theorem isRange_stmt {id : Nat} {body : Code} (h : ¬ id < rbase) : stmtOf id body = body := by simp [stmtOf, h]

/-- A loop of a function, with loops and ranges within. -/
structure LoopJR (P : Program) (h : Handler) (J : List Nat) (f : FuncId) (c : Code) (lv : Lv) (id : Nat) (L : AtLoop) (F : Value → Heap → Prop) : Type 1 where
  Y : Type
  st : Y → Slots × Blocks
  inv : Y → Prop
  m : Y → Nat
  head : ∀ s b, L id s b → ∃ y, inv y ∧ st y = (s, b)
  pts : List Nat
  loops : List Nat
  is : ((findLoop c lv id).map fun r => (ptIds J r.1, loopIds r.1)) = some (pts, loops)
  nd : nodupB pts = true
  lt : id < rbase
  round : ∀ y, inv y → ∃ L2 : AtLoop,
    jRound P h L2 J f id (st y).1 (st y).2 (fun s b => ∃ z, inv z ∧ m z < m y ∧ st z = (s, b)) (fun i s b => if i = id then jNext P h L J f id .normal s b F else jNext P h L J f id (.exit i) s b F) F ∧
    (∀ id2 ∈ pts, id2 ∉ loops → ∀ s b, L2 id2 s b → jIn P h L2 J f id id2 .normal s b (fun s b => ∃ z, inv z ∧ m z < m y ∧ st z = (s, b)) (fun i s b => if i = id then jNext P h L J f id .normal s b F else jNext P h L J f id (.exit i) s b F) F) ∧
    (∀ id2 ∈ loops, id2 < rbase → Nonempty (LoopJ2 P h J f c lv id id2 L2 (fun s b => ∃ z, inv z ∧ m z < m y ∧ st z = (s, b)) (fun i s b => if i = id then jNext P h L J f id .normal s b F else jNext P h L J f id (.exit i) s b F) F)) ∧
    (∀ id2 ∈ loops, ¬ id2 < rbase → Nonempty (RangeJ2 P h J f id id2 L2 (fun s b => ∃ z, inv z ∧ m z < m y ∧ st z = (s, b)) (fun i s b => if i = id then jNext P h L J f id .normal s b F else jNext P h L J f id (.exit i) s b F) F))
theorem loopJR_holds (hh : HandlerOK P h) (hmix : P.follows .mixedOrders = true) {f : FuncId} {fn : Func} {c : Code} (hf : P.funcs[f]? = some fn) (hc : fn.body = some c) {id : Nat} {F : Value → Heap → Prop} {body : Code} {l' : Lv} (hfl : findLoop c (fnLv fn) id = some (body, l'))
    (g : LoopJR P h J f c (fnLv fn) id L F) {s : Slots} {b : Blocks} (hs : L id s b) :
    Holds P false (fnSize fn) (stmtOf id body) (actOf (fnSize fn) s) (heapOf b) (fun e A H => aftJ P h L J c (fnLv fn) id e A H (fnK P fn F)) := by
  obtain ⟨y, hy, he⟩ := g.head s b hs
  have e1 : (g.st y).1 = s := congrArg Prod.fst he
  have e2 : (g.st y).2 = b := congrArg Prod.snd he
  have his := g.is
  rw [hfl] at his
  simp only [Option.map_some, Option.some.injEq, Prod.mk.injEq] at his
  have hst : stmtOf id body = .block id (.loop body) := by simp [stmtOf, g.lt]
  rw [hst]
  have eqX : ∀ i s b, (if i = id then jNext P h L J f id .normal s b F else jNext P h L J f id (.exit i) s b F) = (if i = id then aftJ P h L J c (fnLv fn) id .normal (actOf (fnSize fn) s) (heapOf b) (fnK P fn F) else aftJ P h L J c (fnLv fn) id (.exit i) (actOf (fnSize fn) s) (heapOf b) (fnK P fn F)) := by
    intro i s b
    simp only [jNext, hf, hc]
  have := loop_ruleJ (P := P) (h := h) (J := J) (sz := fnSize fn) hh hmix g.st g.inv g.m (id := id) (body := body) (l' := l') (k := fun e A H => aftJ P h L J c (fnLv fn) id e A H (fnK P fn F)) (R := fnK P fn F)
    (fun y hy => by
      obtain ⟨L2, h1, h2, h3, h3r⟩ := g.round y hy
      refine ⟨L2, ?_, ptsOK_of body (by rw [his.1]; exact g.nd) (fun id2 b2 l2 hf2 hr2 s b hs2 => ?_) (fun id2 hi2 hf2 s b hs2 => ?_)⟩
      · unfold jRound at h1
        simp only [hf, hc, hfl, eqX] at h1
        exact h1
      · have hm : id2 ∈ g.loops := by rw [← his.2]; exact findLoop_ids _ _ _ hf2
        by_cases hlt : id2 < rbase
        · obtain ⟨g2⟩ := h3 id2 hm hlt
          have := loopJ2_holds hh hmix hf hc hfl hf2 g2 hr2 hs2
          simp only [eqX] at this
          exact this
        · obtain ⟨g2⟩ := h3r id2 hm hlt
          rw [isRange_stmt hlt]
          have := rangeJ2_holds hh hmix hf hc hfl hf2 g2 hs2
          simp only [eqX] at this
          exact this
      · have hnl : id2 ∉ g.loops := by
          intro hm
          rw [← his.2] at hm
          have := findLoop_some body l' id2 hm
          rw [hf2] at this
          cases this
        have h4 := h2 id2 (by rw [his.1] at hi2; exact hi2) hnl s b hs2
        unfold jIn at h4
        simp only [hf, hc, hfl, eqX] at h4
        exact h4)
    (fun e A H he hR => by subst he; exact aftJ_ret c (findLoop_pt c _ id hfl) hR)
    (fun e A H h1 h2 hR => by cases e <;> first | exact h1 rfl | exact h2 rfl | exact hR)
    y hy
  rw [e1, e2] at this
  exact this

theorem ptsOK_goodR (hh : HandlerOK P h) (hmix : P.follows .mixedOrders = true) {f : FuncId} {fn : Func} {c : Code} (hf : P.funcs[f]? = some fn) (hc : fn.body = some c) {F : Value → Heap → Prop} {pts loops : List Nat} (his : (ptIds J c, loopIds c) = (pts, loops)) (hn : nodupB pts = true)
    (hcut : ∀ id ∈ pts, id ∉ loops → ∀ s b, L id s b → jNext P h L J f id .normal s b F)
    (hl : ∀ id ∈ loops, id < rbase → Nonempty (LoopJR P h J f c (fnLv fn) id L F)) (hr : ∀ id ∈ loops, ¬ id < rbase → Nonempty (RangeJ P h J f id L F)) : ptsOK P h L J (fnSize fn) c (fnLv fn) (fnK P fn F) := by
  simp only [Prod.mk.injEq] at his
  refine ptsOK_of c (by rw [his.1]; exact hn) (fun id body l' hfl _ s b hs => ?_) (fun id hi hfl s b hs => ?_)
  · have hm : id ∈ loops := by rw [← his.2]; exact findLoop_ids _ _ _ hfl
    by_cases hlt : id < rbase
    · obtain ⟨g⟩ := hl id hm hlt
      exact loopJR_holds hh hmix hf hc hfl g hs
    · obtain ⟨g⟩ := hr id hm hlt
      rw [isRange_stmt hlt]
      exact rangeJ_holds hh hmix hf hc hfl g hs
  · have hnl : id ∉ loops := by
      intro hm
      rw [← his.2] at hm
      have := findLoop_some c (fnLv fn) id hm
      rw [hfl] at this
      cases this
    have h4 := hcut id (by rw [his.1] at hi; exact hi) hnl s b hs
    unfold jNext at h4
    simp only [hf, hc] at h4
    exact h4

/-- A FUNCTION IS PROVED, with ranges over functions: a contract in data. -/
theorem con_JR (hh : HandlerOK P h) (hmix : P.follows .mixedOrders = true) (J : List Nat) {L : AtLoop} {f : FuncId} {fn : Func} {c : Code} (hf : P.funcs[f]? = some fn) (hc : fn.body = some c) {ds rs : List D} (hcount : countV ds ≤ 400) (hsz : ds.length = fn.params.size) {pts loops : List Nat} (his : (ptIds J c, loopIds c) = (pts, loops)) (hn : nodupB pts = true)
    (hk : ∀ caps, capsL 40 (layVals caps 500 ds).1 → jFn P h L J f (layVals caps 500 ds).1.toArray (heapOf (layVals caps 500 ds).2) (dataK (· = rs)))
    (hcut : ∀ id ∈ pts, id ∉ loops → ∀ s b, L id s b → jNext P h L J f id .normal s b (dataK (· = rs)))
    (hl : ∀ id ∈ loops, id < rbase → Nonempty (LoopJR P h J f c (fnLv fn) id L (dataK (· = rs)))) (hr : ∀ id ∈ loops, ¬ id < rbase → Nonempty (RangeJ P h J f id L (dataK (· = rs)))) : Con P f ds rs := by
  intro w args hgood hrd
  obtain ⟨caps, ρ, hst, g, ha⟩ := lay_gam hgood hrd hcount
  have hsz2 : max (layVals caps 500 ds).1.toArray.size fn.ntmps = fnSize fn := by simp [fnSize, layVals_len, hsz]
  refine callsIn_wide.1 ((jFn_run hh hmix hf hc (hk caps (capsL_of 40 ha)) (by rw [hsz2]; exact ptsOK_goodR hh hmix hf hc his hn hcut hl hr) g 0 (by simpa using ha)).mono ?_)
  rintro e w' ⟨v, H', ρ', v', hkv, rfl, hv, g'⟩
  obtain ⟨vs, ds', u, rfl, h1, rfl⟩ := dataK_out g' hst hv hkv
  exact ⟨⟨vs, u, rfl, h1⟩, g'.below.below hst⟩
/-- A FUNCTION IS PROVED, with ranges over functions: by what it does to the blocks that it reaches. -/
theorem callS_JR (hh : HandlerOK P h) (hmix : P.follows .mixedOrders = true) (J : List Nat) {L : AtLoop} {f : FuncId} {fn : Func} {c : Code} (hf : P.funcs[f]? = some fn) (hc : fn.body = some c) {args : List Value} {bs : Blocks} {K : Value → Blocks → Prop} (hsz : args.toArray.size = fn.params.size ∨ max args.toArray.size fn.ntmps = fnSize fn) {pts loops : List Nat} (his : (ptIds J c, loopIds c) = (pts, loops)) (hn : nodupB pts = true)
    (hk : jFn P h L J f args.toArray (heapOf bs) (stateK K))
    (hcut : ∀ id ∈ pts, id ∉ loops → ∀ s b, L id s b → jNext P h L J f id .normal s b (stateK K))
    (hl : ∀ id ∈ loops, id < rbase → Nonempty (LoopJR P h J f c (fnLv fn) id L (stateK K))) (hr : ∀ id ∈ loops, ¬ id < rbase → Nonempty (RangeJ P h J f id L (stateK K))) : CallS P f args bs K := by
  intro w0 ρ w args' n g ha
  have hsz2 : max args.toArray.size fn.ntmps = fnSize fn := hsz.elim (fun e => by simp only [fnSize, e]) id
  refine (jFn_run hh hmix hf hc hk (by rw [hsz2]; exact ptsOK_goodR hh hmix hf hc his hn hcut hl hr) g n (by simpa using ha)).mono ?_
  rintro e w' ⟨v, H', ρ', v', hkv, rfl, hv, g'⟩
  obtain ⟨v2, bs', ρ2, h1, h2, h3⟩ := stateK_out g' hv hkv
  exact ⟨v2, bs', ρ2, v', h1, rfl, h2, h3⟩
#print axioms con_JR
end Go.Abs

/- A call that gives back a new slice and changes nothing. -/
namespace Go.Abs
variable {P : Program} {ρ : Ren} {w0 : Start P} {w : World} {H : Heap}
/-- the calls that end so -/
def freshS (P : Program) (g : FuncId) (es : Nat) (args : List Value) (bs : Blocks) (n : Nat) (out : List Value) : Prop := CallS P g args bs fun v b => v = .slice (some ⟨1000, 0, none⟩) n n ∧ b = [(1000, .sym out true es)]
structure GoodFresh (P : Program) (g : FuncId) (es : Nat) (args : List Value) (bs : Blocks) (n : Nat) (out : List Value) : Prop where
  call : freshS P g es args bs n out
def viewMu (args : List Value) (H : Heap) : Mu := reachV H 1000 (args.flatMap (blocksV 8)) [] hbase
def viewGood (μ : Mu) (H : Heap) : Bool := nodupB (μ.map (·.1)) && nodupB (μ.map (·.2)) && μ.all fun p => decide (abase ≤ p.1) && decide (hbase ≤ p.2) && decide (p.2 < mbase) && !(p.1 == ynum) && aliveIn μ H p.1
def freshH (P : Program) (g : FuncId) (es : Nat) : Handler := fun _ args _ H k =>
  bcase (viewGood (viewMu args.toList H) H) (∃ (n : Nat) (out : List Value), GoodFresh P g es (args.toList.map (mapV (viewMu args.toList H) 8)) (gcB H (viewMu args.toList H) (viewMu args.toList H)) n out ∧ k (.slice (some ⟨H.next, 0, none⟩) n n) (H.new (.sym out true es))) False
theorem viewGood_ok {μ : Mu} (h : viewGood μ H = true) : CallOK μ H ∧ ∀ i j, (i, j) ∈ μ → j < mbase := by
  simp only [viewGood, Bool.and_eq_true] at h
  have each : ∀ i j, (i, j) ∈ μ → abase ≤ i ∧ hbase ≤ j ∧ j < mbase ∧ i ≠ ynum ∧ aliveIn μ H i = true := fun i j hij => by
    have := List.all_eq_true.1 h.2 _ hij
    simp only [Bool.and_eq_true, decide_eq_true_eq, Bool.not_eq_true', beq_eq_false_iff_ne] at this
    obtain ⟨⟨⟨⟨a, b⟩, c⟩, d⟩, e⟩ := this
    exact ⟨a, b, c, d, e⟩
  refine ⟨⟨nodupB_spec h.1.1, nodupB_spec h.1.2, fun i j hij => ?_, fun i j hij => ?_, fun i j hij hj => ?_, fun i j hij => aliveIn_out (each i j hij).2.2.2.2⟩, fun i j hij => (each i j hij).2.2.1⟩
  · obtain ⟨a, b, c, _⟩ := each i j hij; exact ⟨a, b, by unfold mbase at c; unfold gbase; omega⟩
  · obtain ⟨_, _, c, d, _⟩ := each i j hij
    exact ⟨fun e => absurd e d, fun e => by subst e; exact absurd c (by decide)⟩
  · have := (each i j hij).2.2.1; omega
theorem mergeP_none {β : Mu} {bs : Blocks} : ∀ (l : Mu) (H : Heap), (∀ p ∈ l, p.2 < mbase) → mergeP β bs l H = H
  | [], _, _ => rfl
  | p :: r, H, h => by
    unfold mergeP
    rw [if_neg (by have := h p (List.mem_cons_self ..); omega)]
    exact mergeP_none r H (fun q hq => h q (List.mem_cons_of_mem _ hq))
theorem find_skip : ∀ (l : Mu) (r : Mu) (i : Nat), (∀ p ∈ l, p.1 ≠ i) → Mu.find (l ++ r) i = Mu.find r i
  | [], _, _, _ => rfl
  | (a, b) :: l, r, i, h => by
    have : a ≠ i := h (a, b) (List.mem_cons_self ..)
    simp only [List.cons_append, Mu.find]
    rw [if_neg this]
    exact find_skip l r i (fun p hp => h p (List.mem_cons_of_mem _ hp))
theorem objAt_one (β : Mu) (q : Nat) (out : List Value) (b : Bool) (es : Nat) : objAt β [(q, .sym out b es)] q = .sym out b es := by
  unfold objAt heapOf Heap.get
  simp only [List.foldl_cons, List.foldl_nil]
  rw [Tree.get_set _ _ _ _ _ (by omega), if_pos rfl]
  rfl
theorem news_one (q : Nat) (o : AObj) (h : gbase ≤ q) : (newsOf [(q, o)]).map (·.1) = [q] := by simp [newsOf, h]
theorem merged_one (μ : Mu) (q : Nat) (hq : gbase ≤ q) (out : List Value) (b : Bool) (es : Nat) (H : Heap) (hlt : ∀ p ∈ μ, p.2 < mbase) : merged μ [(q, .sym out b es)] H = H.new (.sym out b es) := by
  unfold merged
  rw [mergeP_none _ _ hlt, news_one q _ hq]
  unfold mergeN
  rw [objAt_one]
  rfl
theorem find_one (μ : Mu) (q : Nat) (hq : gbase ≤ q) (o : AObj) (n : Nat) (hlt : ∀ p ∈ μ, p.2 < mbase) : Mu.find (backMu μ n [(q, o)]) q = some n := by
  unfold backMu
  rw [news_one q o hq, find_skip _ _ _ (fun p hp => by
    obtain ⟨x, hx, rfl⟩ := List.mem_map.1 hp
    have := hlt _ hx
    intro e
    have e' : x.2 = q := e
    unfold mbase at this; unfold gbase at hq; omega)]
  simp [numFrom, Mu.find]
theorem mapV_one {β : Mu} {q i : Nat} (h : β.find q = some i) (n : Nat) : mapV β 8 (.slice (some ⟨q, 0, none⟩) n n) = .slice (some ⟨i, 0, none⟩) n n := by
  simp only [mapV, h]
theorem freshH_ok {g : FuncId} {es : Nat} {args : Array Value} {ats : Array TypeId} {k : Value → Heap → Prop} (hk : freshH P g es g args ats H k) : CallH P g args H k := by
  intro w0 ρ w args' m hg ha
  obtain ⟨hgood, n, out, ⟨hc⟩, hk⟩ := bcase_out hk
  obtain ⟨ok, hlt⟩ := viewGood_ok hgood
  have hp : ∀ p ∈ viewMu args.toList H, Placed ρ p.1 := reachV_placed hg _ _ _ _ (LR.placed (blocksV_placed 8) ha) (fun p hp => by cases hp)
  obtain ⟨s, hsC⟩ := startC hg ok
  have gC := callGam hg ok hp hsC
  refine (hc s _ w args' m gC (LR.map_S ok.toS ha)).mono ?_
  rintro e w' ⟨v, bs, ρ', v', ⟨rfl, rfl⟩, rfl, hv, g'⟩
  obtain ⟨ρm, gm, ext, hvr⟩ := mergeGam hg ok hp hsC g' (by rw [news_one _ _ (show gbase ≤ 1000 by decide)]; simp)
  have hlt' : ∀ p ∈ viewMu args.toList H, p.2 < mbase := fun p hp => hlt p.1 p.2 hp
  have hvv := hvr _ _ hv
  rw [mapV_one (find_one _ _ (show gbase ≤ 1000 by decide) _ _ hlt')] at hvv
  rw [merged_one _ _ (show gbase ≤ 1000 by decide) _ _ _ _ hlt'] at gm ext
  exact ⟨_, _, ρm, v', hk, rfl, hvv, gm, ext⟩
end Go.Abs

/- A call that gives back a new slice or nil and changes nothing. -/
namespace Go.Abs
variable {P : Program} {ρ : Ren} {w0 : Start P} {w : World} {H : Heap}
/-- the calls that end with nil -/
def nilS (P : Program) (g : FuncId) (args : List Value) (bs : Blocks) : Prop := CallS P g args bs fun v b => v = .slice none 0 0 ∧ b = []
structure GoodNil (P : Program) (g : FuncId) (args : List Value) (bs : Blocks) : Prop where
  call : nilS P g args bs
def freshNH (P : Program) (g : FuncId) (es : Nat) : Handler := fun _ args _ H k =>
  bcase (viewGood (viewMu args.toList H) H) ((GoodNil P g (args.toList.map (mapV (viewMu args.toList H) 8)) (gcB H (viewMu args.toList H) (viewMu args.toList H)) ∧ k (.slice none 0 0) H) ∨ ∃ (n : Nat) (out : List Value), GoodFresh P g es (args.toList.map (mapV (viewMu args.toList H) 8)) (gcB H (viewMu args.toList H) (viewMu args.toList H)) n out ∧ k (.slice (some ⟨H.next, 0, none⟩) n n) (H.new (.sym out true es))) False
theorem merged_none (μ : Mu) (H : Heap) (hlt : ∀ p ∈ μ, p.2 < mbase) : merged μ [] H = H := by
  unfold merged
  rw [mergeP_none _ _ hlt]
  rfl
theorem freshNH_ok {g : FuncId} {es : Nat} {args : Array Value} {ats : Array TypeId} {k : Value → Heap → Prop} (hk : freshNH P g es g args ats H k) : CallH P g args H k := by
  have hgood := (bcase_out hk).1
  rcases (bcase_out hk).2 with hk2 | hk2
  · intro w0 ρ w args' m hg ha
    obtain ⟨⟨hc⟩, hk⟩ := hk2
    obtain ⟨ok, hlt⟩ := viewGood_ok hgood
    have hp : ∀ p ∈ viewMu args.toList H, Placed ρ p.1 := reachV_placed hg _ _ _ _ (LR.placed (blocksV_placed 8) ha) (fun p hp => by cases hp)
    obtain ⟨s, hsC⟩ := startC hg ok
    have gC := callGam hg ok hp hsC
    refine (hc s _ w args' m gC (LR.map_S ok.toS ha)).mono ?_
    rintro e w' ⟨v, bs, ρ', v', ⟨rfl, rfl⟩, rfl, hv, g'⟩
    obtain ⟨ρm, gm, ext, hvr⟩ := mergeGam hg ok hp hsC g' (by simp [newsOf])
    have hlt' : ∀ p ∈ viewMu args.toList H, p.2 < mbase := fun p hp => hlt p.1 p.2 hp
    have hvv := hvr _ _ hv
    rw [show mapV _ 8 (Value.slice none 0 0) = .slice none 0 0 by rfl] at hvv
    rw [merged_none _ _ hlt'] at gm ext
    exact ⟨_, _, ρm, v', hk, rfl, hvv, gm, ext⟩
  · exact freshH_ok (ats := ats) (es := es) (by unfold freshH; rw [hgood]; exact hk2)
end Go.Abs

/- Short names for what stands often in printed texts. -/
namespace Go.Abs
abbrev Pt (b o : Nat) : Value := .pointer (some ⟨b, o, none⟩)
abbrev Sl (b n c : Nat) : Value := .slice (some ⟨b, 0, none⟩) n c
abbrev Qv {α : Type} (x : α) : Prop := x = x
end Go.Abs

/- The closure that limit(lo, hi) returns, handed a list of numbers of any length. -/
namespace Go.Abs
/-- numbers that are no temperatures far off -/
structure GoodNums (l : List Int) : Prop where
  all : ∀ z ∈ l, 0 ≤ z ∧ z ≤ 100000
def copySla : List D → Option (List D)
  | [.agg [.nil, b]] => some [.agg [.sl 0 1 [], b]]
  | [.agg [.sl n es cs, b]] => some [.agg [.sl n es cs, b]]
  | _ => none
def copyNum : List D → Option (List D)
  | [.nil] => some [.sl 0 1 []]
  | [.sl n es cs] => some [.sl n es cs]
  | _ => none
end Go.Abs

/- Short names for what stands often in printed texts of laws. -/
namespace Go.Abs
abbrev Qu : Prop := Value.tuple [].toArray = Value.tuple [].toArray
abbrev Qf : Prop := Value.bool false = Value.bool false
abbrev Qb : Prop := Value.bool true = Value.bool true
abbrev Qft : Prop := Value.bool false = Value.bool true
abbrev Qtf : Prop := Value.bool true = Value.bool false
end Go.Abs
