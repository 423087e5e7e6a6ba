/- Texts of the proof, put together: AbsFrame, AbsState, AbsJ3, Gf7T1, AbsSame, AbsX, AbsPairs, Gf7W. -/
import Derived.Test.YtpjfmeijfkbfaaaP3
import Derived.Test.YtpjfmeijfkbfaaaProg
/- A call that is met by what it does to the blocks that it reaches: it is sound. -/
namespace Go.Abs
open Go.RowKit
variable {P : Program} {ρ : Ren} {w0 : Start} {w : World} {H : Heap}

/-- A call, by the blocks that its arguments reach. -/
def CallS (P : Program) (f : FuncId) (args : List Value) (bs : Blocks) (K : Value → Blocks → Prop) : Prop :=
  ∀ (w0 : Start) (ρ : Ren) (w : World) (args' : Array Value) (n : Nat), Gam w0 ρ (heapOf bs) w → LR ρ args args'.toList →
    CallsIn Fence.wide n P f args' w fun e w' => ∃ v bs' ρ' v', K v bs' ∧ e = .returned v' ∧ VR ρ' v v' ∧ Gam w0 ρ' (heapOf bs') w'

/-! ### Renaming, once more (numbers change anyhow; the globals stay) -/
structure MuS (μ : Mu) : Prop where
  snd : (μ.map (·.2)).Nodup
  glb : ∀ i j, (i, j) ∈ μ → i < abase → j = i
variable {μ : Mu}
theorem mapV_S (ok : MuS μ) : ∀ (n : Nat) (v v' : Value), VR ρ v v' → VR (μ.ren ρ) (mapV μ n v) v'
  | 0, v, v', _ => .unknown _ _
  | n + 1, v, v', h => by
    have ih := mapV_S ok n
    cases h with
    | bool b => exact .bool b
    | int k n => exact .int k n
    | float k n => exact .float k n
    | complex k n m => exact .complex k n m
    | string s => exact .string s
    | nilFunc => exact .nilFunc
    | nilIface => exact .nilIface
    | nilPtr => exact .nilPtr
    | nilSlice l c => exact .nilSlice l c
    | nilMap => exact .nilMap
    | unknown r v => unfold mapV; exact .unknown _ _
    | glob g k hg =>
      simp only [mapV]
      cases hm : μ.find g with
      | none => exact .unknown _ _
      | some j =>
        have hj : j = g := ok.glb _ _ (Mu.find_mem hm) hg
        subst hj
        exact .glob _ k hg
    | ptr i k m hm =>
      simp only [mapV]
      cases hf : μ.find i with
      | none => exact .unknown _ _
      | some j => exact .ptr j k m (by rw [Mu.ren_of ok.snd (Mu.find_mem hf)]; exact hm)
    | map i m hm =>
      simp only [mapV]
      cases hf : μ.find i with
      | none => exact .unknown _ _
      | some j => exact .map j m (by rw [Mu.ren_of ok.snd (Mu.find_mem hf)]; exact hm)
    | slice i k len cap m hm ho hl =>
      simp only [mapV]
      cases hf : μ.find i with
      | none => exact .unknown _ _
      | some j => exact .slice j k len cap m (by rw [Mu.ren_of ok.snd (Mu.find_mem hf)]; exact hm) ho hl
    | opened i k len cap capC m hm ho hc hs hl =>
      simp only [mapV]
      cases hf : μ.find i with
      | none => exact .unknown _ _
      | some j => exact .opened j k len cap capC m (by rw [Mu.ren_of ok.snd (Mu.find_mem hf)]; exact hm) ho hc hs hl
    | empty i k off m hm ho hz =>
      simp only [mapV]
      cases hf : μ.find i with
      | none => exact .unknown _ _
      | some j => exact .empty j k off m (by rw [Mu.ren_of ok.snd (Mu.find_mem hf)]; exact hm) ho hz
    | func f a b a' b' ha hb ra rb =>
      simp only [mapV]
      refine VR.func' ?_ ?_
      · simpa using LR.map_left ih (LR.of_arr ha ra)
      · simpa using LR.map_left ih (LR.of_arr hb rb)
    | yield l m hm => unfold mapV; exact .unknown _ _
    | iface t v v' hv => exact .iface t _ _ (ih _ _ hv)
    | agg a a' ha ra =>
      simp only [mapV]
      refine VR.agg' ?_
      simpa using LR.map_left ih (LR.of_arr ha ra)
    | tuple a a' ha ra =>
      simp only [mapV]
      refine VR.tuple' ?_
      simpa using LR.map_left ih (LR.of_arr ha ra)
theorem mapO_S (ok : MuS μ) {m : Meta} {o o2 : AObj} (h : mapO μ o = some o2) (r : ObjR ρ w m o) : ObjR (μ.ren ρ) w m o2 ∧ o2.alive = o.alive := by
  cases o with
  | cells cs ty opn es =>
    simp only [mapO, Option.some.injEq] at h
    subst h
    obtain ⟨a, b, c, d, e, f, g, i⟩ := r
    exact ⟨⟨by simpa using a, b, c, d, e, f, g, by simpa using LR.map_left (mapV_S ok 8) i⟩, rfl⟩
  | sym cs opn es =>
    simp only [mapO, Option.some.injEq] at h
    subst h
    obtain ⟨⟨a, b, c, d, e, z, f, g, i⟩, j⟩ := r
    exact ⟨⟨⟨a, b, c, d, e, z, f, g, i.plain_any (fun v hv => cellP_plain (j v hv))⟩, j⟩, rfl⟩
  | map es c =>
    simp only [mapO] at h
    split at h
    · simp only [Option.some.injEq] at h
      subst h
      obtain ⟨es', h1, h2⟩ := r
      exact ⟨⟨es', h1, ER.map_val (mapV_S ok 8) h2⟩, rfl⟩
    · cases h
  | deferred => simp only [mapO, Option.some.injEq] at h; subst h; exact ⟨r, rfl⟩
  | taken => simp only [mapO, Option.some.injEq] at h; subst h; exact ⟨r, rfl⟩
  | dead _ _ _ => cases h
  | loop _ => cases h
  | siter _ _ => cases h
theorem LR.map_S (ok : MuS μ) {l l' : List Value} (h : LR ρ l l') : LR (μ.ren ρ) (l.map (mapV μ 8)) l' := LR.map_left (mapV_S ok 8) h

/-! ### What is reached has its place -/
def Placed (ρ : Ren) (i : Nat) : Prop := i < abase ∨ ∃ m, ρ i = some m
theorem LR.placed {f : Value → List Nat} (hf : ∀ v v', VR ρ v v' → ∀ i ∈ f v, Placed ρ i) : ∀ {l l' : List Value}, LR ρ l l' → ∀ i ∈ l.flatMap f, Placed ρ i
  | _, _, .nil, i, h => by cases h
  | _, _, .cons h t, i, hi => by
    rw [List.flatMap_cons] at hi
    rcases List.mem_append.1 hi with h1 | h1
    · exact hf _ _ h i h1
    · exact LR.placed hf t i h1
theorem blocksV_placed : ∀ (n : Nat) (v v' : Value), VR ρ v v' → ∀ i ∈ blocksV n v, Placed ρ i
  | 0, _, _, _, i, h => by simp [blocksV] at h
  | n + 1, v, v', hv, i, h => by
    have ih : ∀ (v v' : Value), VR ρ v v' → ∀ i ∈ blocksV n v, Placed ρ i := blocksV_placed n
    cases hv with
    | glob g k hg => simp only [blocksV, List.mem_singleton] at h; subst h; exact .inl hg
    | ptr j k m hm => simp only [blocksV, List.mem_singleton] at h; subst h; exact .inr ⟨m, hm⟩
    | map j m hm => simp only [blocksV, List.mem_singleton] at h; subst h; exact .inr ⟨m, hm⟩
    | slice j k len cap m hm ho => simp only [blocksV, List.mem_singleton] at h; subst h; exact .inr ⟨m, hm⟩
    | opened j k len cap capC m hm ho hc hs => simp only [blocksV, List.mem_singleton] at h; subst h; exact .inr ⟨m, hm⟩
    | empty j k off m hm ho hz => simp only [blocksV, List.mem_singleton] at h; subst h; exact .inr ⟨m, hm⟩
    | func f a b a' b' ha hb ra rb =>
      simp only [blocksV] at h
      rcases List.mem_append.1 h with h | h
      · exact LR.placed ih (LR.of_arr ha ra) i h
      · exact LR.placed ih (LR.of_arr hb rb) i h
    | iface t v v' hv => exact ih _ _ hv i (by simpa [blocksV] using h)
    | agg a a' ha ra => exact LR.placed ih (LR.of_arr ha ra) i (by simpa [blocksV] using h)
    | tuple a a' ha ra => exact LR.placed ih (LR.of_arr ha ra) i (by simpa [blocksV] using h)
    | _ => simp [blocksV] at h
theorem ER.placed : ∀ {l l' : List MapEntry}, ER ρ l l' → ∀ i ∈ l.flatMap (fun e => blocksV 8 e.val), Placed ρ i
  | _, _, .nil, i, h => by cases h
  | _, _, .cons k kk v b t, i, hi => by
    rw [List.flatMap_cons] at hi
    rcases List.mem_append.1 hi with h1 | h1
    · exact blocksV_placed 8 _ _ v i h1
    · exact ER.placed t i h1
theorem blocksO_placed {m : Meta} {o : AObj} (r : ObjR ρ w m o) : ∀ i ∈ blocksO o, Placed ρ i := by
  intro i h
  cases o with
  | cells cs ty opn es =>
    obtain ⟨_, _, _, _, _, _, _, hl⟩ := r
    exact LR.placed (blocksV_placed 8) hl i (by simpa [blocksO] using h)
  | map es c =>
    obtain ⟨es', _, h2⟩ := r
    exact ER.placed h2 i (by simpa [blocksO] using h)
  | _ => simp [blocksO] at h
theorem reachC_placed (g : Gam w0 ρ H w) : ∀ (f : Nat) (work : List Nat) (μ : Mu) (ro mu : Nat), (∀ i ∈ work, Placed ρ i) → (∀ p ∈ μ, Placed ρ p.1) → ∀ p ∈ reachC H f work μ ro mu, Placed ρ p.1
  | 0, _, μ, _, _, _, h => by simpa [reachC] using h
  | f + 1, [], μ, _, _, _, h => by simpa [reachC] using h
  | f + 1, i :: work, μ, ro, mu, hw, h => by
    have hw2 : ∀ j ∈ work, Placed ρ j := fun j hj => hw j (List.mem_cons_of_mem _ hj)
    have hi := hw i (List.mem_cons_self ..)
    unfold reachC
    split
    · exact reachC_placed g f work μ ro mu hw2 h
    · split
      · exact reachC_placed g f work μ ro mu hw2 h
      · rename_i o ho
        have hpl : ∀ j ∈ work ++ blocksO o, Placed ρ j := by
          intro j hj
          rcases List.mem_append.1 hj with hj | hj
          · exact hw2 j hj
          · have hm : ∃ m, ρ i = some m := by
              rcases hi with hlt | hm
              · exact g.gmap i (.inl hlt) (by rw [ho]; simp)
              · exact hm
            obtain ⟨m, hm⟩ := hm
            exact blocksO_placed (g.obj i m o hm ho) j hj
        have hadd : ∀ q, ∀ p ∈ μ ++ [(i, q)], Placed ρ p.1 := by
          intro q p hp
          rcases List.mem_append.1 hp with hp | hp
          · exact h p hp
          · rw [List.mem_singleton.1 hp]; exact hi
        split
        · exact reachC_placed g f _ _ _ _ hpl (hadd _)
        · exact reachC_placed g f _ _ _ _ hpl (hadd _)

/-! ### The call's own view -/
structure CallOK (μ : Mu) (H : Heap) : Prop where
  fst : (μ.map (·.1)).Nodup
  snd : (μ.map (·.2)).Nodup
  lo : ∀ i j, (i, j) ∈ μ → abase ≤ i ∧ abase ≤ j ∧ j < gbase
  mb : ∀ i j, (i, j) ∈ μ → (mbase ≤ i ↔ mbase ≤ j)
  live : ∀ i j, (i, j) ∈ μ → ∃ o o2, H.get i = some o ∧ mapO μ o = some o2 ∧ o.alive = true
theorem mapO_alive {o o2 : AObj} (h : mapO μ o = some o2) (ht : o2 ≠ .taken) : o.alive = true := by
  cases o with
  | taken => simp only [mapO, Option.some.injEq] at h; exact absurd h.symm ht
  | dead _ _ _ => cases h
  | _ => rfl
theorem callGood_ok (h : callGood μ H = true) : CallOK μ H := by
  simp only [callGood, Bool.and_eq_true] at h
  have hall := fun p hp => List.all_eq_true.1 h.2 p hp
  have each : ∀ i j, (i, j) ∈ μ → abase ≤ i ∧ (abase ≤ j ∧ j < gbase) ∧ (mbase ≤ i ↔ mbase ≤ j) ∧ ∃ o o2, H.get i = some o ∧ mapO μ o = some o2 ∧ o.alive = true := by
    intro i j hij
    have := hall _ hij
    simp only [Bool.and_eq_true, decide_eq_true_eq] at this
    obtain ⟨⟨h1, h2⟩, h3⟩ := this
    have h4 : (abase ≤ j ∧ j < gbase) ∧ (mbase ≤ i ↔ mbase ≤ j) := by
      split at h2
      · rename_i hlt
        simp only [Bool.and_eq_true, decide_eq_true_eq] at h2
        refine ⟨⟨h2.1, ?_⟩, by omega⟩
        have : mbase ≤ gbase := by decide
        omega
      · rename_i hge
        simp only [Bool.and_eq_true, decide_eq_true_eq] at h2
        refine ⟨⟨?_, h2.2⟩, by omega⟩
        have : abase ≤ mbase := by decide
        omega
    refine ⟨h1, h4.1, h4.2, ?_⟩
    cases hg : H.get i with
    | none => simp [hg] at h3
    | some o =>
      simp only [hg] at h3
      cases hm : mapO μ o with
      | none => simp [hm] at h3
      | some o2 =>
        refine ⟨o, o2, rfl, hm, mapO_alive hm (fun e => ?_)⟩
        subst e
        simp [hm] at h3
  exact ⟨nodupB_spec h.1.1, nodupB_spec h.1.2, fun i j hij => ⟨(each i j hij).1, (each i j hij).2.1⟩, fun i j hij => (each i j hij).2.2.1, fun i j hij => (each i j hij).2.2.2⟩
theorem CallOK.toS (ok : CallOK μ H) : MuS μ := ⟨ok.snd, fun i j hij hlt => by have := (ok.lo i j hij).1; omega⟩

theorem callGam (g : Gam w0 ρ H w) (ok : CallOK μ H) (hp : ∀ p ∈ μ, Placed ρ p.1) : Gam ⟨w, μ.ren ρ⟩ (μ.ren ρ) (heapOf (gcB H μ μ)) w := by
  have hsnd : ∀ {i i' j : Nat}, (i, j) ∈ μ → (i', j) ∈ μ → i = i' := fun h1 h2 => by have := nodup_inj ok.snd h1 h2 rfl; cases this; rfl
  have hfst : ∀ {i j j' : Nat}, (i, j) ∈ μ → (i, j') ∈ μ → j = j' := fun h1 h2 => by have := nodup_inj ok.fst h1 h2 rfl; cases this; rfl
  have hget : ∀ {j : Nat} {o : AObj}, (heapOf (gcB H μ μ)).get j = some o → ∃ i o', (i, j) ∈ μ ∧ H.get i = some o' ∧ mapO μ o' = some o := fun h => gcB_mem (heapOf_get h)
  have obj : ∀ i m o, μ.ren ρ i = some m → (heapOf (gcB H μ μ)).get i = some o → ObjR (μ.ren ρ) w m o ∧ ∃ i0 o0, (i0, i) ∈ μ ∧ ρ i0 = some m ∧ H.get i0 = some o0 ∧ o.alive = o0.alive := by
    intro i m o hm ho
    obtain ⟨i0, hi0, hr0⟩ := Mu.ren_some hm
    obtain ⟨i1, o1, hi1, hg1, hmo⟩ := hget ho
    obtain rfl := hsnd hi0 hi1
    obtain ⟨r1, r2⟩ := mapO_S ok.toS hmo (g.obj _ m _ hr0 hg1)
    exact ⟨r1, i0, o1, hi0, hr0, hg1, r2⟩
  refine ⟨Nat.le_add_right _ _, ?_, .refl _ _, ?_, ?_, ?_, fun i m o hm ho => (obj i m o hm ho).1, ?_, fun i m _ _ h => h⟩
  · intro i hi
    cases hr : μ.ren ρ i with
    | none => rfl
    | some m =>
      obtain ⟨i0, hi0, _⟩ := Mu.ren_some hr
      have := (ok.lo _ _ hi0).2.2
      have h5 : gbase ≤ i := Nat.le_trans (Nat.le_add_right _ _) hi
      omega
  · intro j m hm
    obtain ⟨i, hi, hr⟩ := Mu.ren_some hm
    have h1 := (g.own i m hr).1
    have := (ok.lo _ _ hi).2.2
    exact ⟨h1, fun h => by omega, fun _ => h1⟩
  · intro j m hm hj
    obtain ⟨i, hi, hr⟩ := Mu.ren_some hm
    have := (ok.lo _ _ hi).2.1
    omega
  · rintro i j mi mj hgi ⟨oi, gi, ai⟩ ⟨oj, gj, aj⟩ ei ej hb
    obtain ⟨_, i0, oi0, hi0, ri0, gi0, hai⟩ := obj i mi oi ei gi
    obtain ⟨_, j0, oj0, hj0, rj0, gj0, haj⟩ := obj j mj oj ej gj
    have := g.inj i0 j0 mi mj ((ok.mb _ _ hi0).2 hgi) ⟨oi0, gi0, by rw [← hai]; exact ai⟩ ⟨oj0, gj0, by rw [← haj]; exact aj⟩ ri0 rj0 hb
    subst this
    exact hfst hi0 hj0
  · intro j hj hn
    cases ho : (heapOf (gcB H μ μ)).get j with
    | none => exact absurd ho hn
    | some o =>
      obtain ⟨i, o', hi, hg, _⟩ := hget ho
      rcases hp _ hi with h | ⟨m, hm⟩
      · have := (ok.lo _ _ hi).1; simp only at h; omega
      · exact ⟨m, by rw [Mu.ren_of ok.snd hi]; exact hm⟩

/-! ### Back at the caller -/
theorem numFrom_mem : ∀ {l : List Nat} {n j q : Nat}, (j, q) ∈ numFrom l n → j ∈ l ∧ n ≤ q ∧ q < n + l.length
  | [], _, _, _, h => by cases h
  | i :: r, n, j, q, h => by
    unfold numFrom at h
    rcases List.mem_cons.1 h with h | h
    · cases h; exact ⟨List.mem_cons_self .., Nat.le_refl _, by simp⟩
    · obtain ⟨h1, h2, h3⟩ := numFrom_mem h
      exact ⟨List.mem_cons_of_mem _ h1, by omega, by simp only [List.length_cons]; omega⟩
theorem numFrom_snd : ∀ (l : List Nat) (n : Nat), ((numFrom l n).map (·.2)).Nodup
  | [], _ => List.nodup_nil
  | i :: r, n => by
    unfold numFrom
    simp only [List.map_cons, List.nodup_cons]
    refine ⟨fun h => ?_, numFrom_snd r (n + 1)⟩
    obtain ⟨p, hp, e⟩ := List.mem_map.1 h
    obtain ⟨j, q⟩ := p
    have := (numFrom_mem hp).2.1
    simp only at e
    omega
theorem numFrom_fst : ∀ (l : List Nat) (n : Nat), (numFrom l n).map (·.1) = l
  | [], _ => rfl
  | i :: r, n => by unfold numFrom; simp only [List.map_cons, numFrom_fst r]
variable {β : Mu} {bs : Blocks}
theorem mergeP_next : ∀ (l : Mu) (H : Heap), (mergeP β bs l H).next = H.next
  | [], _ => rfl
  | p :: r, H => by
    unfold mergeP
    rw [mergeP_next r]
    split <;> rfl
theorem mergeP_out {i : Nat} : ∀ (l : Mu) (H : Heap), (∀ j, (i, j) ∈ l → ¬ mbase ≤ j) → (mergeP β bs l H).get i = H.get i
  | [], _, _ => rfl
  | p :: r, H, h => by
    unfold mergeP
    rw [mergeP_out r _ (fun j hj => h j (List.mem_cons_of_mem _ hj))]
    split
    · rename_i hm
      rw [Heap.get_set, if_neg (fun e => h p.2 (by rw [e]; exact List.mem_cons_self ..) hm)]
    · rfl
theorem mergeP_in {i j : Nat} : ∀ (l : Mu) (H : Heap), (l.map (·.1)).Nodup → (i, j) ∈ l → mbase ≤ j → (mergeP β bs l H).get i = some (objAt β bs j)
  | [], _, _, h, _ => by cases h
  | p :: r, H, hn, h, hj => by
    simp only [List.map_cons, List.nodup_cons] at hn
    unfold mergeP
    rcases List.mem_cons.1 h with h | h
    · subst h
      rw [mergeP_out r _ (fun q hq => absurd (List.mem_map.2 ⟨_, hq, rfl⟩) hn.1), if_pos hj, Heap.get_set, if_pos rfl]
    · exact mergeP_in r _ hn.2 h hj
theorem mergeN_next : ∀ (l : List Nat) (H : Heap), (mergeN β bs l H).next = H.next + l.length
  | [], _ => rfl
  | j :: r, H => by unfold mergeN; rw [mergeN_next r]; simp only [Heap.next_new, List.length_cons]; omega
theorem mergeN_old {i : Nat} : ∀ (l : List Nat) (H : Heap), i < H.next → (mergeN β bs l H).get i = H.get i
  | [], _, _ => rfl
  | j :: r, H, h => by
    unfold mergeN
    rw [mergeN_old r _ (by simp only [Heap.next_new]; omega), Heap.get_new, if_neg (by omega)]
theorem mergeN_new {i j : Nat} : ∀ (l : List Nat) (H : Heap), (j, i) ∈ numFrom l H.next → (mergeN β bs l H).get i = some (objAt β bs j)
  | [], _, h => by cases h
  | q :: r, H, h => by
    unfold numFrom at h
    unfold mergeN
    rcases List.mem_cons.1 h with h | h
    · cases h
      rw [mergeN_old r _ (by simp only [Heap.next_new]; omega), Heap.get_new, if_pos rfl]
    · exact mergeN_new r (H.new (objAt β bs q)) (by simpa only [Heap.next_new] using h)

theorem mergeGam {ρ' : Ren} {w' : World} (g : Gam w0 ρ H w) (ok : CallOK μ H) (hp : ∀ p ∈ μ, Placed ρ p.1) (g' : Gam ⟨w, μ.ren ρ⟩ ρ' (heapOf bs) w') (hnd : ((newsOf bs).map (·.1)).Nodup) :
    ∃ ρm, Gam w0 ρm (merged μ bs H) w' ∧ Ext ρ ρm H (merged μ bs H) ∧ ∀ v v', VR ρ' v v' → VR ρm (mapV (backMu μ H.next bs) 8 v) v' := by
  let news := (newsOf bs).map (·.1)
  let β := backMu μ H.next bs
  have place : ∀ {i j : Nat}, (i, j) ∈ μ → ∃ m, ρ i = some m := by
    intro i j hij
    rcases hp _ hij with h | h
    · have := (ok.lo _ _ hij).1; simp only at h; omega
    · exact h
  have ilt : ∀ {i j : Nat}, (i, j) ∈ μ → i < H.next := fun hij => let ⟨m, hm⟩ := place hij; g.lt hm
  have newge : ∀ j ∈ news, gbase ≤ j := by
    intro j hj
    obtain ⟨p, hp, rfl⟩ := List.mem_map.1 hj
    simpa using (List.mem_filter.1 hp).2
  have βmem : ∀ {j i : Nat}, (j, i) ∈ β → ((i, j) ∈ μ) ∨ (j, i) ∈ numFrom news H.next := by
    intro j i h
    rcases List.mem_append.1 h with h | h
    · obtain ⟨p, hp, e⟩ := List.mem_map.1 h
      cases e; exact .inl hp
    · exact .inr h
  have βS : MuS β := by
    refine ⟨?_, fun j i h hj => ?_⟩
    · show ((μ.map (fun p => (p.2, p.1)) ++ numFrom news H.next).map (·.2)).Nodup
      rw [List.map_append, List.map_map]
      refine List.nodup_append.2 ⟨ok.fst, numFrom_snd _ _, ?_⟩
      intro a ha b hb e
      subst e
      obtain ⟨p, hp1, rfl⟩ := List.mem_map.1 ha
      obtain ⟨q, hq, e⟩ := List.mem_map.1 hb
      obtain ⟨j, i⟩ := q
      have h1 := (numFrom_mem hq).2.1
      have h2 : p.1 < H.next := ilt (j := p.2) hp1
      simp only [Function.comp] at e
      omega
    · rcases βmem h with h | h
      · have := (ok.lo _ _ h).2.1; omega
      · have := newge j (numFrom_mem h).1
        unfold gbase at this; unfold abase at hj; omega
  let ρm : Ren := fun i => if i < H.next then ρ i else β.ren ρ' i
  have ρlt : ∀ {i : Nat}, i < H.next → ρm i = ρ i := fun h => if_pos h
  have ρge : ∀ {i : Nat}, ¬ i < H.next → ρm i = β.ren ρ' i := fun h => if_neg h
  -- what was handed lies where it lay
  have pinned : ∀ {i j : Nat} {m : Meta}, (i, j) ∈ μ → ρ' j = some m → ρ i = some m := by
    intro i j m hij hj
    have h1 := ok.lo _ _ hij
    have := g'.pins j m h1.2.1 h1.2.2 hj
    simp only at this
    rwa [Mu.ren_of ok.snd hij] at this
  have hle : (β.ren ρ').le ρm := by
    intro i m hm
    obtain ⟨j, hj, hr⟩ := Mu.ren_some hm
    rcases βmem hj with h | h
    · rw [ρlt (ilt h)]; exact pinned h hr
    · rw [ρge (by have := (numFrom_mem h).2.1; omega)]; exact hm
  have objR : ∀ {j : Nat} {m : Meta}, ρ' j = some m → ObjR ρm w' m (objAt β bs j) := by
    intro j m hj
    unfold objAt
    cases hg : (heapOf bs).get j with
    | none => trivial
    | some o =>
      simp only [Option.bind_some]
      cases hm : mapO β o with
      | none => trivial
      | some o2 => exact (mapO_S βS hm (g'.obj j m o hj hg)).1.mono hle (fun _ => rfl)
  have objA : ∀ {j : Nat}, (objAt β bs j).alive = true → (heapOf bs).live j := by
    intro j h
    unfold objAt at h
    cases hg : (heapOf bs).get j with
    | none => rw [hg] at h; cases h
    | some o =>
      rw [hg] at h
      simp only [Option.bind_some] at h
      cases hm : mapO β o with
      | none => rw [hm] at h; cases h
      | some o2 =>
        rw [hm] at h
        refine ⟨o, hg, ?_⟩
        by_cases hj : ∃ m, ρ' j = some m
        · obtain ⟨m, hj⟩ := hj
          rw [← (mapO_S βS hm (g'.obj j m o hj hg)).2]; exact h
        · refine mapO_alive hm (fun e => ?_)
          subst e; cases h
  have hnx : (merged μ bs H).next = H.next + news.length := by
    show (mergeN β bs news (mergeP β bs μ H)).next = _
    rw [mergeN_next, mergeP_next]
  have getOut : ∀ {i : Nat}, i < H.next → (∀ j, (i, j) ∈ μ → ¬ mbase ≤ j) → (merged μ bs H).get i = H.get i := by
    intro i hi h
    show (mergeN β bs news (mergeP β bs μ H)).get i = _
    rw [mergeN_old _ _ (by rw [mergeP_next]; exact hi), mergeP_out _ _ h]
  have getIn : ∀ {i j : Nat}, (i, j) ∈ μ → mbase ≤ j → (merged μ bs H).get i = some (objAt β bs j) := by
    intro i j hij hj
    show (mergeN β bs news (mergeP β bs μ H)).get i = _
    rw [mergeN_old _ _ (by rw [mergeP_next]; exact ilt hij), mergeP_in _ _ ok.fst hij hj]
  have getNew : ∀ {i j : Nat}, (j, i) ∈ numFrom news H.next → (merged μ bs H).get i = some (objAt β bs j) := by
    intro i j h
    exact mergeN_new _ _ (by rw [mergeP_next]; exact h)
  have newOf : ∀ {i : Nat} {m : Meta}, ¬ i < H.next → ρm i = some m → ∃ j, (j, i) ∈ numFrom news H.next ∧ ρ' j = some m ∧ gbase ≤ j := by
    intro i m hi hm
    rw [ρge hi] at hm
    obtain ⟨j, hj, hr⟩ := Mu.ren_some hm
    rcases βmem hj with h | h
    · exact absurd (ilt h) hi
    · exact ⟨j, h, hr, newge j (numFrom_mem h).1⟩
  -- what may have been written
  have mayOf : ∀ {k : Nat}, (Start.mk w (μ.ren ρ)).may k → ∃ i j m, (i, j) ∈ μ ∧ mbase ≤ i ∧ mbase ≤ j ∧ ρ i = some m ∧ m.b = k ∧ H.live i := by
    rintro k ⟨j, m, h1, h2, h3, h4⟩
    obtain ⟨i, hij, hr⟩ := Mu.ren_some h3
    obtain ⟨o, _, ho, _, ha⟩ := ok.live _ _ hij
    exact ⟨i, j, m, hij, (ok.mb _ _ hij).2 h1, h1, hr, h4, o, ho, ha⟩
  have liveOld : ∀ {i : Nat}, i < H.next → (merged μ bs H).live i → H.live i ∧ ∀ j, (i, j) ∈ μ → mbase ≤ j → (heapOf bs).live j := by
    rintro i hi ⟨o, ho, ha⟩
    by_cases h : ∃ j, (i, j) ∈ μ ∧ mbase ≤ j
    · obtain ⟨j, hij, hj⟩ := h
      obtain ⟨o1, _, h1, _, h2⟩ := ok.live _ _ hij
      refine ⟨⟨o1, h1, h2⟩, fun j' hij' hj' => ?_⟩
      rw [getIn hij' hj'] at ho
      cases ho
      exact objA ha
    · rw [getOut hi (fun j hij hj => h ⟨j, hij, hj⟩)] at ho
      exact ⟨⟨o, ho, ha⟩, fun j hij hj => absurd ⟨j, hij, hj⟩ h⟩
  have hsz : w.heap.size ≤ w'.heap.size := g'.below.size
  refine ⟨ρm, ⟨by rw [hnx]; exact Nat.le_trans g.gb (Nat.le_add_right _ _), ?_, ?_, ?_, ?_, ?_, ?_, ?_, ?_⟩, ⟨?_, by rw [hnx]; exact Nat.le_add_right _ _, ?_⟩, fun v v' hv => (mapV_S βS 8 v v' hv).mono hle⟩
  · -- fresh
    intro i hi
    rw [hnx] at hi
    cases hr : ρm i with
    | none => rfl
    | some m =>
      obtain ⟨j, hj, _⟩ := newOf (by omega) hr
      have := (numFrom_mem hj).2.2
      omega
  · -- below
    refine ⟨g'.below.os.trans g.below.os, g'.below.tape.trans g.below.tape, g'.below.output.trans g.below.output, Nat.le_trans g.below.size hsz, fun k hk hm => ?_⟩
    refine (g'.below.block k (Nat.lt_of_lt_of_le hk g.below.size) (fun hmay => ?_)).trans (g.below.block k hk hm)
    obtain ⟨i, j, m, hij, hi, hj, hr, rfl, _⟩ := mayOf hmay
    rcases Nat.lt_or_ge i gbase with hl | hl
    · exact hm ⟨i, m, hi, hl, g.pins i m (ok.lo _ _ hij).1 hl hr, rfl⟩
    · have := (g.own i m hr).2.1 hl
      omega
  · -- own
    intro i m hm
    by_cases hi : i < H.next
    · rw [ρlt hi] at hm
      have := g.own i m hm
      exact ⟨by omega, this.2⟩
    · obtain ⟨j, hj, hr, hge⟩ := newOf hi hm
      have := g'.own j m hr
      have h1 := this.2.1 hge
      simp only at h1
      have h2 := g.below.size
      have h3 := g.gb
      exact ⟨this.1, fun _ => by omega, fun h => by omega⟩
  · -- glob
    intro i m hm hi
    rw [ρlt (by have := g.gb; unfold gbase at this; unfold abase at hi; omega)] at hm
    exact g.glob i m hm hi
  · -- inj
    intro i j mi mj hgi hi hj ei ej hb
    by_cases h1 : i < H.next
    · rw [ρlt h1] at ei
      by_cases h2 : j < H.next
      · rw [ρlt h2] at ej
        exact g.inj i j mi mj hgi (liveOld h1 hi).1 (liveOld h2 hj).1 ei ej hb
      · obtain ⟨q, hq, hr, hge⟩ := newOf h2 ej
        have a1 := (g.own i mi ei).1
        have a2 := (g'.own q mj hr).2.1 hge
        simp only at a2
        omega
    · obtain ⟨p, hp1, hr1, hge1⟩ := newOf h1 ei
      by_cases h2 : j < H.next
      · rw [ρlt h2] at ej
        have a1 := (g.own j mj ej).1
        have a2 := (g'.own p mi hr1).2.1 hge1
        simp only at a2
        omega
      · obtain ⟨q, hq, hr2, hge2⟩ := newOf h2 ej
        obtain ⟨oi, hoi, hai⟩ := hi
        obtain ⟨oj, hoj, haj⟩ := hj
        rw [getNew hp1] at hoi
        rw [getNew hq] at hoj
        cases hoi
        cases hoj
        have := g'.inj p q mi mj (mb_of hge1) (objA hai) (objA haj) hr1 hr2 hb
        subst this
        have hnf : ((numFrom news H.next).map (·.1)).Nodup := by rw [numFrom_fst]; exact hnd
        have := nodup_inj hnf hp1 hq rfl
        cases this
        rfl
  · -- objects
    intro i m o hm ho
    by_cases hi : i < H.next
    · rw [ρlt hi] at hm
      by_cases h : ∃ j, (i, j) ∈ μ ∧ mbase ≤ j
      · obtain ⟨j, hij, hj⟩ := h
        rw [getIn hij hj] at ho
        cases ho
        cases hg : (heapOf bs).get j with
        | none => unfold objAt; rw [hg]; trivial
        | some ob =>
          obtain ⟨m', hm'⟩ := g'.gmap j (.inr ⟨hj, (ok.lo _ _ hij).2.2⟩) (by rw [hg]; simp)
          have := pinned hij hm'
          rw [hm] at this
          cases this
          exact objR hm'
      · have hout : ∀ j, (i, j) ∈ μ → ¬ mbase ≤ j := fun j hij hj => h ⟨j, hij, hj⟩
        rw [getOut hi hout] at ho
        refine (g.obj i m o hm ho).mono (fun q n hq => by rw [ρlt (g.lt hq)]; exact hq) (fun hal => ?_)
        refine g'.below.block m.b (g.own i m hm).1 (fun hmay => ?_)
        obtain ⟨i2, j2, m2, hij2, hi2, hj2, hr2, hb2, hl2⟩ := mayOf hmay
        have := g.inj i2 i m2 m hi2 hl2 ⟨o, ho, hal⟩ hr2 hm hb2
        subst this
        exact hout _ hij2 hj2
    · obtain ⟨j, hj, hr, _⟩ := newOf hi hm
      rw [getNew hj] at ho
      cases ho
      exact objR hr
  · -- gmap
    intro i hi hn
    have hlt : i < H.next := by
      have := g.gb
      rcases hi with h | h
      · unfold gbase at this; unfold abase at h; omega
      · omega
    rw [ρlt hlt]
    by_cases h : ∃ j, (i, j) ∈ μ ∧ mbase ≤ j
    · obtain ⟨j, hij, _⟩ := h
      exact place hij
    · rw [getOut hlt (fun j hij hj => h ⟨j, hij, hj⟩)] at hn
      exact g.gmap i hi hn
  · -- pins
    intro i m ha hi hm
    rw [ρlt (by have := g.gb; omega)] at hm
    exact g.pins i m ha hi hm
  · -- le
    intro i m hm
    rw [ρlt (g.lt hm)]; exact hm
  · -- keep
    intro i hi hn
    refine ⟨by rw [ρlt hi]; exact hn, getOut hi (fun j hij _ => ?_)⟩
    obtain ⟨m, hm⟩ := place hij
    rw [hn] at hm; cases hm

theorem wpState_call {sp : SpecS} {f : FuncId} (hs : ∀ args bs K, sp args bs K → CallS P f args bs K) {args : Array Value} {k : Value → Heap → Prop} (hk : wpState sp args H k) : CallH P f args H k := by
  intro w0 ρ w args' n g ha
  unfold wpState at hk
  obtain ⟨hgood, hk⟩ := bcase_out hk
  have ok := callGood_ok hgood
  have hp : ∀ p ∈ callMu args.toList H, Placed ρ p.1 := reachC_placed g _ _ _ _ _ (LR.placed (blocksV_placed 8) ha) (fun p hp => by cases hp)
  have gC := callGam g ok hp
  refine (hs _ _ _ hk ⟨w, (callMu args.toList H).ren ρ⟩ _ w args' n gC (LR.map_S ok.toS ha)).mono ?_
  rintro e w' ⟨v, bs, ρ', v', hK, rfl, hv, g'⟩
  obtain ⟨hnd, hK⟩ := bcase_out hK
  obtain ⟨ρm, gm, ext, hvr⟩ := mergeGam g ok hp g' (nodupB_spec hnd)
  exact ⟨_, _, ρm, v', hK, rfl, hvr _ _ hv, gm, ext⟩
end Go.Abs

/- State contracts: a function whose body has been walked. -/
namespace Go.Abs
open Go.RowKit
variable {P : Program} {ρ : Ren} {w0 : Start} {w : World} {H : Heap} {h : Handler} {L : AtLoop}

theorem stateK_out (g : Gam w0 ρ H w) {v v' : Value} (hv : VR ρ v v') {K : Value → Blocks → Prop} (hk : stateK K v H) : ∃ v2 bs ρ2, K v2 bs ∧ VR ρ2 v2 v' ∧ Gam w0 ρ2 (heapOf bs) w := by
  unfold stateK at hk
  obtain ⟨hgood, hk⟩ := bcase_out hk
  let A : AAct := ⟨.leaf, 0, []⟩
  let a : Act := ⟨#[], []⟩
  have ra : ActR ρ A a := ⟨rfl, fun t => by
    have e1 : A.slot t = undef := rfl
    have e2 : a.tmps.getD t undef = undef := rfl
    rw [e1, e2]; exact VR.undef _, ⟨rfl, fun j D e => by simp [A] at e⟩⟩
  obtain ⟨g2, _⟩ := gc_sub g ra rfl (keep := []) hgood
  exact ⟨_, _, _, hk, mapV_VR (gcGood_ok hgood) 8 _ _ hv, g2⟩

/-- A loop of a function, whatever its end is. -/
structure LoopGoodF (P : Program) (h : Handler) (L : AtLoop) (f : FuncId) (c : Code) (lv : Lv) (id : Nat) (F : Value → Heap → Prop) (X : Type) (st : X → Slots × Blocks) (inv : X → Prop) (m : X → Nat) : Prop where
  head : ∀ s b, L id s b → ∃ x, inv x ∧ st x = (s, b)
  flat : ((findLoop c lv id).map fun r => loopIds r.1) = some []
  round : ∀ x, inv x → wpRound P h L f id (st x).1 (st x).2 (fun s b => ∃ y, inv y ∧ m y < m x ∧ st y = (s, b))
    (fun i s b => if i = id then wpNext P h L f id .normal s b F else wpNext P h L f id (.exit i) s b F) F

theorem loopsOK_good (hh : HandlerOK P h) (hmix : P.follows .mixedOrders = true) {f : FuncId} {fn : Func} {c : Code} (hf : P.funcs[f]? = some fn) (hc : fn.body = some c) {F : Value → Heap → Prop} {ids : List Nat} (hids : loopIds c = ids) (hn : nodupB ids = true)
    (hl : ∀ id ∈ ids, ∃ X st inv m, LoopGoodF P h L f c (fnLv fn) id F X st inv m) : loopsOK P h L (fnSize fn) c (fnLv fn) (fnK P fn F) := by
  subst hids
  refine loopsOK_of c hn ?_
  intro id body l' hfl s bl hs
  obtain ⟨X, st, inv, m, hg⟩ := hl id (findLoop_ids c _ id hfl)
  obtain ⟨x, hx, he⟩ := hg.head s bl hs
  have e1 : (st x).1 = s := congrArg Prod.fst he
  have e2 : (st x).2 = bl := congrArg Prod.snd he
  have hin : loopIds body = [] := by have := hg.flat; rw [hfl] at this; simpa using this
  have := loop_rule (P := P) (h := h) (L := L) (sz := fnSize fn) hh hmix st inv m (id := id) (body := body) (l' := l') (k := fun e A H => wpAfter P h L c (fnLv fn) id e A H (fnK P fn F)) (R := fnK P fn F) hin
    (fun x hx => by
      have := hg.round x hx
      unfold wpRound at this
      simp only [hf, hc, hfl] at this
      have e : ∀ i s b, (if i = id then wpNext P h L f id .normal s b F else wpNext P h L f id (.exit i) s b F) = (if i = id then wpAfter P h L c (fnLv fn) id .normal (actOf (fnSize fn) s) (heapOf b) (fnK P fn F) else wpAfter P h L c (fnLv fn) id (.exit i) (actOf (fnSize fn) s) (heapOf b) (fnK P fn F)) := by
        intro i s b
        simp only [wpNext, hf, hc]
      simpa only [e] using this)
    (fun e A H he hR => by subst he; exact wpAfter_ret c (by rw [hfl]; rfl) hR)
    (fun e A H h1 h2 hR => by cases e <;> first | exact h1 rfl | exact h2 rfl | exact hR)
    x hx
  rw [e1, e2] at this
  exact this

/-- A FUNCTION IS PROVED, by what it does to the blocks that it reaches. -/
theorem callS_ofG (hh : HandlerOK P h) (hmix : P.follows .mixedOrders = true) {f : FuncId} {fn : Func} {c : Code} (hf : P.funcs[f]? = some fn) (hc : fn.body = some c) {args : List Value} {bs : Blocks} {K : Value → Blocks → Prop} (hsz2 : max args.toArray.size fn.ntmps = fnSize fn) {ids : List Nat} (hids : loopIds c = ids) (hn : nodupB ids = true)
    (hk : wpFn P h L 0 f args.toArray (heapOf bs) (stateK K))
    (hl : ∀ id ∈ ids, ∃ X st inv m, LoopGoodF P h L f c (fnLv fn) id (stateK K) X st inv m) : CallS P f args bs K := by
  intro w0 ρ w args' n g ha
  refine (wpFn_run (u := 0) (b := false) hh hmix (fun _ => rfl) hf hc hk (fun _ => by rw [hsz2]; exact loopsOK_good hh hmix hf hc hids hn hl) g n (by simpa using ha)).mono ?_
  rintro e w' ⟨v, H', ρ', v', hkv, rfl, hv, g', _⟩
  obtain ⟨v2, bs', ρ2, h1, h2, h3⟩ := stateK_out g' hv hkv
  exact ⟨v2, bs', ρ2, v', h1, rfl, h2, h3⟩
end Go.Abs

/- Functions with cuts, and loops within loops: by what is left to show of each part. -/
namespace Go.Abs
open Go.RowKit
variable {P : Program} {ρ : Ren} {w0 : Start} {w : World} {H : Heap} {h : Handler} {L : AtLoop} {J : List Nat}

theorem jFn_run (hh : HandlerOK P h) (hmix : P.follows .mixedOrders = true) {f : FuncId} {fn : Func} {c : Code} (hf : P.funcs[f]? = some fn) (hc : fn.body = some c) {args : Array Value} {k : Value → Heap → Prop}
    (hk : jFn P h L J f args H k) (hl : ptsOK P h L J (max args.size fn.ntmps) c (fnLv fn) (fnK P fn k))
    (g : Gam w0 ρ H w) {args' : Array Value} (n : Nat) (ha : LR ρ args.toList args'.toList) :
    CallsIn Fence.wide n P f args' w fun e w' => ∃ v H' ρ' v', k v H' ∧ e = .returned v' ∧ VR ρ' v v' ∧ Gam w0 ρ' H' w' := by
  unfold jFn at hk
  simp only [hf, hc] at hk
  refine callsIn_of_wp_marks hf hc trivial ?_
  refine wpIn_mono (wpJ_sound hh hmix c hk hl w0 ρ w _ n g (initial_act ha fn.ntmps) rfl) ?_
  rintro e a1 w1 ⟨A1, H1, ρ1, k1, s1, ra1, g1, _⟩
  have fin : ∀ {v : Value}, A1.defers = [] → resultsA P H1 fn A1 = some v → k v H1 → LeavesInM Fence.wide n P fn a1.tmps (fun e w' => ∃ v H' ρ' v', k v H' ∧ e = .returned v' ∧ VR ρ' v v' ∧ Gam w0 ρ' H' w') a1.defers .returning w1 := by
    intro v hd hr hkv
    have hdd := ra1.defers
    rw [hd] at hdd
    refine leaves_R (P := P) (ρ := ρ1) (w0 := w0) [] a1.defers rfl g1 hdd (fun w2 g2 ext2 => ?_)
    obtain ⟨v', hv, hrun⟩ := resultsA_sound g2 ra1 hr
    exact ⟨v', hrun, v, H1, ρ1, v', hkv, rfl, hv, g2⟩
  cases e with
  | normal =>
    simp only [fnK] at k1
    split at k1
    · rename_i hd
      split at k1
      · rename_i v hr; exact fin hd hr k1
      · cases k1
    · cases k1
  | ret =>
    simp only [fnK] at k1
    split at k1
    · rename_i hd
      split at k1
      · rename_i v hr; exact fin hd hr k1
      · cases k1
    · cases k1
  | _ => exact k1.elim

abbrev Kx := Slots → Blocks → Prop
abbrev Xk := Nat → Slots → Blocks → Prop
/-- A loop within a round of a loop: its points are cuts. -/
structure LoopJ2 (P : Program) (h : Handler) (J : List Nat) (f : FuncId) (c : Code) (lv : Lv) (id id2 : Nat) (L : AtLoop) (B : Kx) (X : Xk) (F : Value → Heap → Prop) : Type 1 where
  Y : Type
  st : Y → Slots × Blocks
  inv : Y → Prop
  m : Y → Nat
  head : ∀ s b, L id2 s b → ∃ y, inv y ∧ st y = (s, b)
  pts : List Nat
  is : ((findLoop c lv id).bind fun r => (findLoop r.1 r.2 id2).map fun q => (ptIds J q.1, loopIds q.1)) = some (pts, [])
  nd : nodupB pts = true
  round : ∀ y, inv y → ∃ L2 : AtLoop,
    jRound2 P h L2 J f id id2 (st y).1 (st y).2 (fun s b => ∃ z, inv z ∧ m z < m y ∧ st z = (s, b)) (fun i s b => if i = id2 then jIn P h L J f id id2 .normal s b B X F else jIn P h L J f id id2 (.exit i) s b B X F) F ∧
    ∀ id3 ∈ pts, ∀ s b, L2 id3 s b → jIn2 P h L2 J f id id2 id3 .normal s b (fun s b => ∃ z, inv z ∧ m z < m y ∧ st z = (s, b)) (fun i s b => if i = id2 then jIn P h L J f id id2 .normal s b B X F else jIn P h L J f id id2 (.exit i) s b B X F) F
/-- A loop of a function. -/
structure LoopJ (P : Program) (h : Handler) (J : List Nat) (f : FuncId) (c : Code) (lv : Lv) (id : Nat) (L : AtLoop) (F : Value → Heap → Prop) : Type 1 where
  Y : Type
  st : Y → Slots × Blocks
  inv : Y → Prop
  m : Y → Nat
  head : ∀ s b, L id s b → ∃ y, inv y ∧ st y = (s, b)
  pts : List Nat
  loops : List Nat
  is : ((findLoop c lv id).map fun r => (ptIds J r.1, loopIds r.1)) = some (pts, loops)
  nd : nodupB pts = true
  round : ∀ y, inv y → ∃ L2 : AtLoop,
    jRound P h L2 J f id (st y).1 (st y).2 (fun s b => ∃ z, inv z ∧ m z < m y ∧ st z = (s, b)) (fun i s b => if i = id then jNext P h L J f id .normal s b F else jNext P h L J f id (.exit i) s b F) F ∧
    (∀ id2 ∈ pts, id2 ∉ loops → ∀ s b, L2 id2 s b → jIn P h L2 J f id id2 .normal s b (fun s b => ∃ z, inv z ∧ m z < m y ∧ st z = (s, b)) (fun i s b => if i = id then jNext P h L J f id .normal s b F else jNext P h L J f id (.exit i) s b F) F) ∧
    (∀ id2 ∈ loops, Nonempty (LoopJ2 P h J f c lv id id2 L2 (fun s b => ∃ z, inv z ∧ m z < m y ∧ st z = (s, b)) (fun i s b => if i = id then jNext P h L J f id .normal s b F else jNext P h L J f id (.exit i) s b F) F))

theorem loopJ2_holds (hh : HandlerOK P h) (hmix : P.follows .mixedOrders = true) {f : FuncId} {fn : Func} {c : Code} (hf : P.funcs[f]? = some fn) (hc : fn.body = some c) {id id2 : Nat} {F : Value → Heap → Prop} {B : Kx} {X : Xk} {body : Code} {l' : Lv} (hfl : findLoop c (fnLv fn) id = some (body, l')) {body2 : Code} {l2 : Lv} (hf2 : findLoop body l' id2 = some (body2, l2))
    (g : LoopJ2 P h J f c (fnLv fn) id id2 L B X F) {s : Slots} {b : Blocks} (hs : L id2 s b) :
    Holds P false (fnSize fn) (.block id2 (.loop body2)) (actOf (fnSize fn) s) (heapOf b) (fun e A H => aftJ P h L J body l' id2 e A H (roundK body l' B X (fnK P fn F))) := by
  obtain ⟨y, hy, he⟩ := g.head s b hs
  have e1 : (g.st y).1 = s := congrArg Prod.fst he
  have e2 : (g.st y).2 = b := congrArg Prod.snd he
  have his := g.is
  rw [hfl] at his
  simp only [Option.bind_some, hf2, Option.map_some, Option.some.injEq, Prod.mk.injEq] at his
  have eqX : ∀ (B : Kx) (X : Xk) i s b, (if i = id2 then jIn P h L J f id id2 .normal s b B X F else jIn P h L J f id id2 (.exit i) s b B X F) = (if i = id2 then aftJ P h L J body l' id2 .normal (actOf (fnSize fn) s) (heapOf b) (roundK body l' B X (fnK P fn F)) else aftJ P h L J body l' id2 (.exit i) (actOf (fnSize fn) s) (heapOf b) (roundK body l' B X (fnK P fn F))) := by
    intro B X i s b
    simp only [jIn, hf, hc, hfl]
  have := loop_ruleJ (P := P) (h := h) (J := J) (sz := fnSize fn) hh hmix g.st g.inv g.m (id := id2) (body := body2) (l' := l2) (k := fun e A H => aftJ P h L J body l' id2 e A H (roundK body l' B X (fnK P fn F))) (R := fnK P fn F)
    (fun y hy => by
      obtain ⟨L2, h1, h2⟩ := g.round y hy
      refine ⟨L2, ?_, ptsOK_of body2 (by rw [his.1]; exact g.nd) (fun id3 b3 l3 hf3 => ?_) (fun id3 hi3 hf3 s b hs3 => ?_)⟩
      · unfold jRound2 at h1
        simp only [hf, hc, hfl, hf2, eqX] at h1
        exact h1
      · have := findLoop_ids _ _ _ hf3
        rw [his.2] at this
        cases this
      · have h3 := h2 id3 (by rw [his.1] at hi3; exact hi3) s b hs3
        unfold jIn2 at h3
        simp only [hf, hc, hfl, hf2, eqX] at h3
        exact h3)
    (fun e A H he hR => by subst he; exact aftJ_ret body (findLoop_pt body l' id2 hf2) hR)
    (fun e A H h1 h2 hR => by cases e <;> first | exact h1 rfl | exact h2 rfl | exact hR)
    y hy
  rw [e1, e2] at this
  exact this

theorem loopJ_holds (hh : HandlerOK P h) (hmix : P.follows .mixedOrders = true) {f : FuncId} {fn : Func} {c : Code} (hf : P.funcs[f]? = some fn) (hc : fn.body = some c) {id : Nat} {F : Value → Heap → Prop} {body : Code} {l' : Lv} (hfl : findLoop c (fnLv fn) id = some (body, l'))
    (g : LoopJ P h J f c (fnLv fn) id L F) {s : Slots} {b : Blocks} (hs : L id s b) :
    Holds P false (fnSize fn) (.block id (.loop body)) (actOf (fnSize fn) s) (heapOf b) (fun e A H => aftJ P h L J c (fnLv fn) id e A H (fnK P fn F)) := by
  obtain ⟨y, hy, he⟩ := g.head s b hs
  have e1 : (g.st y).1 = s := congrArg Prod.fst he
  have e2 : (g.st y).2 = b := congrArg Prod.snd he
  have his := g.is
  rw [hfl] at his
  simp only [Option.map_some, Option.some.injEq, Prod.mk.injEq] at his
  have eqX : ∀ i s b, (if i = id then jNext P h L J f id .normal s b F else jNext P h L J f id (.exit i) s b F) = (if i = id then aftJ P h L J c (fnLv fn) id .normal (actOf (fnSize fn) s) (heapOf b) (fnK P fn F) else aftJ P h L J c (fnLv fn) id (.exit i) (actOf (fnSize fn) s) (heapOf b) (fnK P fn F)) := by
    intro i s b
    simp only [jNext, hf, hc]
  have := loop_ruleJ (P := P) (h := h) (J := J) (sz := fnSize fn) hh hmix g.st g.inv g.m (id := id) (body := body) (l' := l') (k := fun e A H => aftJ P h L J c (fnLv fn) id e A H (fnK P fn F)) (R := fnK P fn F)
    (fun y hy => by
      obtain ⟨L2, h1, h2, h3⟩ := g.round y hy
      refine ⟨L2, ?_, ptsOK_of body (by rw [his.1]; exact g.nd) (fun id2 b2 l2 hf2 s b hs2 => ?_) (fun id2 hi2 hf2 s b hs2 => ?_)⟩
      · unfold jRound at h1
        simp only [hf, hc, hfl, eqX] at h1
        exact h1
      · have hm : id2 ∈ g.loops := by rw [← his.2]; exact findLoop_ids _ _ _ hf2
        obtain ⟨g2⟩ := h3 id2 hm
        have := loopJ2_holds hh hmix hf hc hfl hf2 g2 hs2
        simp only [eqX] at this
        exact this
      · have hnl : id2 ∉ g.loops := by
          intro hm
          rw [← his.2] at hm
          have := findLoop_some body l' id2 hm
          rw [hf2] at this
          cases this
        have h4 := h2 id2 (by rw [his.1] at hi2; exact hi2) hnl s b hs2
        unfold jIn at h4
        simp only [hf, hc, hfl, eqX] at h4
        exact h4)
    (fun e A H he hR => by subst he; exact aftJ_ret c (findLoop_pt c _ id hfl) hR)
    (fun e A H h1 h2 hR => by cases e <;> first | exact h1 rfl | exact h2 rfl | exact hR)
    y hy
  rw [e1, e2] at this
  exact this

theorem ptsOK_good (hh : HandlerOK P h) (hmix : P.follows .mixedOrders = true) {f : FuncId} {fn : Func} {c : Code} (hf : P.funcs[f]? = some fn) (hc : fn.body = some c) {F : Value → Heap → Prop} {pts loops : List Nat} (his : (ptIds J c, loopIds c) = (pts, loops)) (hn : nodupB pts = true)
    (hcut : ∀ id ∈ pts, id ∉ loops → ∀ s b, L id s b → jNext P h L J f id .normal s b F)
    (hl : ∀ id ∈ loops, Nonempty (LoopJ P h J f c (fnLv fn) id L F)) : ptsOK P h L J (fnSize fn) c (fnLv fn) (fnK P fn F) := by
  simp only [Prod.mk.injEq] at his
  refine ptsOK_of c (by rw [his.1]; exact hn) (fun id body l' hfl s b hs => ?_) (fun id hi hfl s b hs => ?_)
  · obtain ⟨g⟩ := hl id (by rw [← his.2]; exact findLoop_ids _ _ _ hfl)
    exact loopJ_holds hh hmix hf hc hfl g hs
  · have hnl : id ∉ loops := by
      intro hm
      rw [← his.2] at hm
      have := findLoop_some c (fnLv fn) id hm
      rw [hfl] at this
      cases this
    have h4 := hcut id (by rw [his.1] at hi; exact hi) hnl s b hs
    unfold jNext at h4
    simp only [hf, hc] at h4
    exact h4

/-- A FUNCTION IS PROVED, with cuts and loops within loops: a contract in data. -/
theorem con_J (hh : HandlerOK P h) (hmix : P.follows .mixedOrders = true) (J : List Nat) {L : AtLoop} {f : FuncId} {fn : Func} {c : Code} (hf : P.funcs[f]? = some fn) (hc : fn.body = some c) {ds rs : List D} (hcount : countV ds ≤ 400) (hsz : ds.length = fn.params.size) {pts loops : List Nat} (his : (ptIds J c, loopIds c) = (pts, loops)) (hn : nodupB pts = true)
    (hk : ∀ caps, capsL 40 (layVals caps 500 ds).1 → jFn P h L J f (layVals caps 500 ds).1.toArray (heapOf (layVals caps 500 ds).2) (dataK (· = rs)))
    (hcut : ∀ id ∈ pts, id ∉ loops → ∀ s b, L id s b → jNext P h L J f id .normal s b (dataK (· = rs)))
    (hl : ∀ id ∈ loops, Nonempty (LoopJ P h J f c (fnLv fn) id L (dataK (· = rs)))) : Con P f ds rs := by
  intro w args hr
  obtain ⟨caps, ρ, hst, g, ha⟩ := lay_gam hr hcount
  have hsz2 : max (layVals caps 500 ds).1.toArray.size fn.ntmps = fnSize fn := by simp [fnSize, layVals_len, hsz]
  refine callsIn_wide.1 ((jFn_run hh hmix hf hc (hk caps (capsL_of 40 ha)) (by rw [hsz2]; exact ptsOK_good hh hmix hf hc his hn hcut hl) g 0 (by simpa using ha)).mono ?_)
  rintro e w' ⟨v, H', ρ', v', hkv, rfl, hv, g'⟩
  obtain ⟨vs, ds', u, rfl, h1, rfl⟩ := dataK_out g' hv hkv
  exact ⟨⟨vs, u, rfl, h1⟩, g'.below.below hst⟩
end Go.Abs

/- What is left to show of each function, written out; the kernel reckons it. -/
namespace Go.Proofs.G5f
open Go Go.Abs Go.Proofs
set_option maxRecDepth 100000
set_option linter.unusedVariables false
abbrev Ct := FuncId → List D → List D → Prop
abbrev Bx := Slots → Blocks → Prop
abbrev Xx := Nat → Slots → Blocks → Prop
abbrev vI (n : Int) : Value := .int .i64 n
abbrev P1 (b o : Nat) : Value := .pointer (some ⟨b, o, none⟩)
abbrev hF : Handler := fun _ _ _ _ _ => False
abbrev wl (lo hi e : Int) : Blocks := [(901, .cells [vI lo, vI hi] 56 false 1), (902, .cells [vI e] 27 false 1)]
abbrev wm (lo hi e : Int) : Blocks := [(900, .cells [vI lo, vI hi] 56 false 1), (901, .cells [vI e] 27 false 1)]
def wt1 (cap : Nat) (lo hi e x : Int) (K : Value → Blocks → Prop) : Prop := wpFn Try.prog hF (fun _ _ _ => False) 6 135 #[.slice (some ⟨900, 0, none⟩) 1 cap, P1 901 0, P1 902 0] (heapOf ((900, .cells [vI x] 3 false 1) :: wl lo hi e)) (stateK K)
theorem wt1_text (cap : Nat) (lo : Int) (hi : Int) (e : Int) (x : Int) (K : Go.Value → Blocks → Prop) : wt1 cap lo hi e x K =
 (bcase (decide (x < lo))
 (K (vI e) [(Prod.mk 900 (AObj.cells [(vI x)] 3 false 1)), (Prod.mk 901 (AObj.cells [(vI lo), (vI hi)] 56 false 1)), (Prod.mk 902 (AObj.cells [(vI e)] 27 false 1))])
 (bcase (decide (x > hi))
 (K (vI e) [(Prod.mk 900 (AObj.cells [(vI x)] 3 false 1)), (Prod.mk 901 (AObj.cells [(vI lo), (vI hi)] 56 false 1)), (Prod.mk 902 (AObj.cells [(vI e)] 27 false 1))])
 (K (vI (0 : Int)) [(Prod.mk 900 (AObj.cells [(vI x)] 3 false 1)), (Prod.mk 901 (AObj.cells [(vI lo), (vI hi)] 56 false 1)), (Prod.mk 902 (AObj.cells [(vI e)] 27 false 1))]))) := by kernel_rfl
def wt2 (cap : Nat) (lo hi e x y : Int) (K : Value → Blocks → Prop) : Prop := wpFn Try.prog hF (fun _ _ _ => False) 6 135 #[.slice (some ⟨900, 0, none⟩) 2 cap, P1 901 0, P1 902 0] (heapOf ((900, .cells [vI x, vI y] 3 false 1) :: wl lo hi e)) (stateK K)
theorem wt2_text (cap : Nat) (lo : Int) (hi : Int) (e : Int) (x : Int) (y : Int) (K : Go.Value → Blocks → Prop) : wt2 cap lo hi e x y K =
 (bcase (decide (x < lo))
 (K (vI e) [(Prod.mk 900 (AObj.cells [(vI x), (vI y)] 3 false 1)), (Prod.mk 901 (AObj.cells [(vI lo), (vI hi)] 56 false 1)), (Prod.mk 902 (AObj.cells [(vI e)] 27 false 1))])
 (bcase (decide (x > hi))
 (K (vI e) [(Prod.mk 900 (AObj.cells [(vI x), (vI y)] 3 false 1)), (Prod.mk 901 (AObj.cells [(vI lo), (vI hi)] 56 false 1)), (Prod.mk 902 (AObj.cells [(vI e)] 27 false 1))])
 (bcase (decide (y < lo))
 (K (vI e) [(Prod.mk 900 (AObj.cells [(vI x), (vI y)] 3 false 1)), (Prod.mk 901 (AObj.cells [(vI lo), (vI hi)] 56 false 1)), (Prod.mk 902 (AObj.cells [(vI e)] 27 false 1))])
 (bcase (decide (y > hi))
 (K (vI e) [(Prod.mk 900 (AObj.cells [(vI x), (vI y)] 3 false 1)), (Prod.mk 901 (AObj.cells [(vI lo), (vI hi)] 56 false 1)), (Prod.mk 902 (AObj.cells [(vI e)] 27 false 1))])
 (K (vI (0 : Int)) [(Prod.mk 900 (AObj.cells [(vI x), (vI y)] 3 false 1)), (Prod.mk 901 (AObj.cells [(vI lo), (vI hi)] 56 false 1)), (Prod.mk 902 (AObj.cells [(vI e)] 27 false 1))]))))) := by kernel_rfl
def wt3 (cap : Nat) (lo hi e x y z : Int) (K : Value → Blocks → Prop) : Prop := wpFn Try.prog hF (fun _ _ _ => False) 6 135 #[.slice (some ⟨900, 0, none⟩) 3 cap, P1 901 0, P1 902 0] (heapOf ((900, .cells [vI x, vI y, vI z] 3 false 1) :: wl lo hi e)) (stateK K)
theorem wt3_text (cap : Nat) (lo : Int) (hi : Int) (e : Int) (x : Int) (y : Int) (z : Int) (K : Go.Value → Blocks → Prop) : wt3 cap lo hi e x y z K =
 (bcase (decide (x < lo))
 (K (vI e) [(Prod.mk 900 (AObj.cells [(vI x), (vI y), (vI z)] 3 false 1)), (Prod.mk 901 (AObj.cells [(vI lo), (vI hi)] 56 false 1)), (Prod.mk 902 (AObj.cells [(vI e)] 27 false 1))])
 (bcase (decide (x > hi))
 (K (vI e) [(Prod.mk 900 (AObj.cells [(vI x), (vI y), (vI z)] 3 false 1)), (Prod.mk 901 (AObj.cells [(vI lo), (vI hi)] 56 false 1)), (Prod.mk 902 (AObj.cells [(vI e)] 27 false 1))])
 (bcase (decide (y < lo))
 (K (vI e) [(Prod.mk 900 (AObj.cells [(vI x), (vI y), (vI z)] 3 false 1)), (Prod.mk 901 (AObj.cells [(vI lo), (vI hi)] 56 false 1)), (Prod.mk 902 (AObj.cells [(vI e)] 27 false 1))])
 (bcase (decide (y > hi))
 (K (vI e) [(Prod.mk 900 (AObj.cells [(vI x), (vI y), (vI z)] 3 false 1)), (Prod.mk 901 (AObj.cells [(vI lo), (vI hi)] 56 false 1)), (Prod.mk 902 (AObj.cells [(vI e)] 27 false 1))])
 (bcase (decide (z < lo))
 (K (vI e) [(Prod.mk 900 (AObj.cells [(vI x), (vI y), (vI z)] 3 false 1)), (Prod.mk 901 (AObj.cells [(vI lo), (vI hi)] 56 false 1)), (Prod.mk 902 (AObj.cells [(vI e)] 27 false 1))])
 (bcase (decide (z > hi))
 (K (vI e) [(Prod.mk 900 (AObj.cells [(vI x), (vI y), (vI z)] 3 false 1)), (Prod.mk 901 (AObj.cells [(vI lo), (vI hi)] 56 false 1)), (Prod.mk 902 (AObj.cells [(vI e)] 27 false 1))])
 (K (vI (0 : Int)) [(Prod.mk 900 (AObj.cells [(vI x), (vI y), (vI z)] 3 false 1)), (Prod.mk 901 (AObj.cells [(vI lo), (vI hi)] 56 false 1)), (Prod.mk 902 (AObj.cells [(vI e)] 27 false 1))]))))))) := by kernel_rfl
def wt4 (cap : Nat) (lo hi e x y z u : Int) (K : Value → Blocks → Prop) : Prop := wpFn Try.prog hF (fun _ _ _ => False) 6 135 #[.slice (some ⟨900, 0, none⟩) 4 cap, P1 901 0, P1 902 0] (heapOf ((900, .cells [vI x, vI y, vI z, vI u] 3 false 1) :: wl lo hi e)) (stateK K)
theorem wt4_text (cap : Nat) (lo : Int) (hi : Int) (e : Int) (x : Int) (y : Int) (z : Int) (u : Int) (K : Go.Value → Blocks → Prop) : wt4 cap lo hi e x y z u K =
 (bcase (decide (x < lo))
 (K (vI e) [(Prod.mk 900 (AObj.cells [(vI x), (vI y), (vI z), (vI u)] 3 false 1)), (Prod.mk 901 (AObj.cells [(vI lo), (vI hi)] 56 false 1)), (Prod.mk 902 (AObj.cells [(vI e)] 27 false 1))])
 (bcase (decide (x > hi))
 (K (vI e) [(Prod.mk 900 (AObj.cells [(vI x), (vI y), (vI z), (vI u)] 3 false 1)), (Prod.mk 901 (AObj.cells [(vI lo), (vI hi)] 56 false 1)), (Prod.mk 902 (AObj.cells [(vI e)] 27 false 1))])
 (bcase (decide (y < lo))
 (K (vI e) [(Prod.mk 900 (AObj.cells [(vI x), (vI y), (vI z), (vI u)] 3 false 1)), (Prod.mk 901 (AObj.cells [(vI lo), (vI hi)] 56 false 1)), (Prod.mk 902 (AObj.cells [(vI e)] 27 false 1))])
 (bcase (decide (y > hi))
 (K (vI e) [(Prod.mk 900 (AObj.cells [(vI x), (vI y), (vI z), (vI u)] 3 false 1)), (Prod.mk 901 (AObj.cells [(vI lo), (vI hi)] 56 false 1)), (Prod.mk 902 (AObj.cells [(vI e)] 27 false 1))])
 (bcase (decide (z < lo))
 (K (vI e) [(Prod.mk 900 (AObj.cells [(vI x), (vI y), (vI z), (vI u)] 3 false 1)), (Prod.mk 901 (AObj.cells [(vI lo), (vI hi)] 56 false 1)), (Prod.mk 902 (AObj.cells [(vI e)] 27 false 1))])
 (bcase (decide (z > hi))
 (K (vI e) [(Prod.mk 900 (AObj.cells [(vI x), (vI y), (vI z), (vI u)] 3 false 1)), (Prod.mk 901 (AObj.cells [(vI lo), (vI hi)] 56 false 1)), (Prod.mk 902 (AObj.cells [(vI e)] 27 false 1))])
 (bcase (decide (u < lo))
 (K (vI e) [(Prod.mk 900 (AObj.cells [(vI x), (vI y), (vI z), (vI u)] 3 false 1)), (Prod.mk 901 (AObj.cells [(vI lo), (vI hi)] 56 false 1)), (Prod.mk 902 (AObj.cells [(vI e)] 27 false 1))])
 (bcase (decide (u > hi))
 (K (vI e) [(Prod.mk 900 (AObj.cells [(vI x), (vI y), (vI z), (vI u)] 3 false 1)), (Prod.mk 901 (AObj.cells [(vI lo), (vI hi)] 56 false 1)), (Prod.mk 902 (AObj.cells [(vI e)] 27 false 1))])
 (K (vI (0 : Int)) [(Prod.mk 900 (AObj.cells [(vI x), (vI y), (vI z), (vI u)] 3 false 1)), (Prod.mk 901 (AObj.cells [(vI lo), (vI hi)] 56 false 1)), (Prod.mk 902 (AObj.cells [(vI e)] 27 false 1))]))))))))) := by kernel_rfl
def wt5 (cap : Nat) (lo hi e x y z u v : Int) (K : Value → Blocks → Prop) : Prop := wpFn Try.prog hF (fun _ _ _ => False) 6 135 #[.slice (some ⟨900, 0, none⟩) 5 cap, P1 901 0, P1 902 0] (heapOf ((900, .cells [vI x, vI y, vI z, vI u, vI v] 3 false 1) :: wl lo hi e)) (stateK K)
theorem wt5_text (cap : Nat) (lo : Int) (hi : Int) (e : Int) (x : Int) (y : Int) (z : Int) (u : Int) (v : Int) (K : Go.Value → Blocks → Prop) : wt5 cap lo hi e x y z u v K =
 (bcase (decide (x < lo))
 (K (vI e) [(Prod.mk 900 (AObj.cells [(vI x), (vI y), (vI z), (vI u), (vI v)] 3 false 1)), (Prod.mk 901 (AObj.cells [(vI lo), (vI hi)] 56 false 1)), (Prod.mk 902 (AObj.cells [(vI e)] 27 false 1))])
 (bcase (decide (x > hi))
 (K (vI e) [(Prod.mk 900 (AObj.cells [(vI x), (vI y), (vI z), (vI u), (vI v)] 3 false 1)), (Prod.mk 901 (AObj.cells [(vI lo), (vI hi)] 56 false 1)), (Prod.mk 902 (AObj.cells [(vI e)] 27 false 1))])
 (bcase (decide (y < lo))
 (K (vI e) [(Prod.mk 900 (AObj.cells [(vI x), (vI y), (vI z), (vI u), (vI v)] 3 false 1)), (Prod.mk 901 (AObj.cells [(vI lo), (vI hi)] 56 false 1)), (Prod.mk 902 (AObj.cells [(vI e)] 27 false 1))])
 (bcase (decide (y > hi))
 (K (vI e) [(Prod.mk 900 (AObj.cells [(vI x), (vI y), (vI z), (vI u), (vI v)] 3 false 1)), (Prod.mk 901 (AObj.cells [(vI lo), (vI hi)] 56 false 1)), (Prod.mk 902 (AObj.cells [(vI e)] 27 false 1))])
 (bcase (decide (z < lo))
 (K (vI e) [(Prod.mk 900 (AObj.cells [(vI x), (vI y), (vI z), (vI u), (vI v)] 3 false 1)), (Prod.mk 901 (AObj.cells [(vI lo), (vI hi)] 56 false 1)), (Prod.mk 902 (AObj.cells [(vI e)] 27 false 1))])
 (bcase (decide (z > hi))
 (K (vI e) [(Prod.mk 900 (AObj.cells [(vI x), (vI y), (vI z), (vI u), (vI v)] 3 false 1)), (Prod.mk 901 (AObj.cells [(vI lo), (vI hi)] 56 false 1)), (Prod.mk 902 (AObj.cells [(vI e)] 27 false 1))])
 (bcase (decide (u < lo))
 (K (vI e) [(Prod.mk 900 (AObj.cells [(vI x), (vI y), (vI z), (vI u), (vI v)] 3 false 1)), (Prod.mk 901 (AObj.cells [(vI lo), (vI hi)] 56 false 1)), (Prod.mk 902 (AObj.cells [(vI e)] 27 false 1))])
 (bcase (decide (u > hi))
 (K (vI e) [(Prod.mk 900 (AObj.cells [(vI x), (vI y), (vI z), (vI u), (vI v)] 3 false 1)), (Prod.mk 901 (AObj.cells [(vI lo), (vI hi)] 56 false 1)), (Prod.mk 902 (AObj.cells [(vI e)] 27 false 1))])
 (bcase (decide (v < lo))
 (K (vI e) [(Prod.mk 900 (AObj.cells [(vI x), (vI y), (vI z), (vI u), (vI v)] 3 false 1)), (Prod.mk 901 (AObj.cells [(vI lo), (vI hi)] 56 false 1)), (Prod.mk 902 (AObj.cells [(vI e)] 27 false 1))])
 (bcase (decide (v > hi))
 (K (vI e) [(Prod.mk 900 (AObj.cells [(vI x), (vI y), (vI z), (vI u), (vI v)] 3 false 1)), (Prod.mk 901 (AObj.cells [(vI lo), (vI hi)] 56 false 1)), (Prod.mk 902 (AObj.cells [(vI e)] 27 false 1))])
 (K (vI (0 : Int)) [(Prod.mk 900 (AObj.cells [(vI x), (vI y), (vI z), (vI u), (vI v)] 3 false 1)), (Prod.mk 901 (AObj.cells [(vI lo), (vI hi)] 56 false 1)), (Prod.mk 902 (AObj.cells [(vI e)] 27 false 1))]))))))))))) := by kernel_rfl
def wt0 (lo hi e : Int) (K : Value → Blocks → Prop) : Prop := wpFn Try.prog hF (fun _ _ _ => False) 6 135 #[.slice none 0 0, P1 900 0, P1 901 0] (heapOf (wm lo hi e)) (stateK K)
theorem wt0_text (lo : Int) (hi : Int) (e : Int) (K : Go.Value → Blocks → Prop) : wt0 lo hi e K =
 (K (vI (0 : Int)) [(Prod.mk 900 (AObj.cells [(vI lo), (vI hi)] 56 false 1)), (Prod.mk 901 (AObj.cells [(vI e)] 27 false 1))]) := by kernel_rfl
def wtH (L : AtLoop) (lo hi e : Int) (n cap : Nat) (l : List Value) (K : Value → Blocks → Prop) : Prop := wpFn Try.prog hF L 0 135 #[.slice (some ⟨500, 0, none⟩) n cap, P1 900 0, P1 901 0] (heapOf ((500, .sym l false 1) :: wm lo hi e)) (stateK K)
theorem wtH_text (L : AtLoop) (lo : Int) (hi : Int) (e : Int) (n : Nat) (cap : Nat) (l : List Go.Value) (K : Go.Value → Blocks → Prop) : wtH L lo hi e n cap l K =
 (L 0 [(Prod.mk 1 (Go.Value.pointer (Option.some (Go.Addr.mk 900 0 Option.none)))), (Prod.mk 2 (Go.Value.pointer (Option.some (Go.Addr.mk 901 0 Option.none)))), (Prod.mk 7 (Go.Value.slice (Option.some (Go.Addr.mk 500 0 Option.none)) (n) (cap))), (Prod.mk 8 (vI ((↑n : Int)))), (Prod.mk 9 (vI (0 : Int)))] [(Prod.mk 900 (AObj.cells [(vI lo), (vI hi)] 56 false 1)), (Prod.mk 901 (AObj.cells [(vI e)] 27 false 1)), (Prod.mk 500 (AObj.sym (l) false 1))]) := by kernel_rfl
def wtO (L : AtLoop) (lo hi e : Int) (n cap : Nat) (l : List Value) (K : Value → Blocks → Prop) : Prop := wpFn Try.prog hF L 0 135 #[.slice (some ⟨900, 0, none⟩) n cap, P1 901 0, P1 902 0] (heapOf ((900, .sym l true 1) :: wl lo hi e)) (stateK K)
theorem wtO_text (L : AtLoop) (lo : Int) (hi : Int) (e : Int) (n : Nat) (cap : Nat) (l : List Go.Value) (K : Go.Value → Blocks → Prop) : wtO L lo hi e n cap l K =
 (L 0 [(Prod.mk 1 (Go.Value.pointer (Option.some (Go.Addr.mk 901 0 Option.none)))), (Prod.mk 2 (Go.Value.pointer (Option.some (Go.Addr.mk 902 0 Option.none)))), (Prod.mk 7 (Go.Value.slice (Option.some (Go.Addr.mk 900 0 Option.none)) (n) (cap))), (Prod.mk 8 (vI ((↑n : Int)))), (Prod.mk 9 (vI (0 : Int)))] [(Prod.mk 901 (AObj.cells [(vI lo), (vI hi)] 56 false 1)), (Prod.mk 902 (AObj.cells [(vI e)] 27 false 1)), (Prod.mk 900 (AObj.sym (l) true 1))]) := by kernel_rfl
def sWH (n cap : Nat) (i : Int) : Slots := [(1, P1 900 0), (2, P1 901 0), (7, .slice (some ⟨500, 0, none⟩) n cap), (8, .int .i64 n), (9, vI i)]
def bWH (lo hi e : Int) (l : List Value) : Blocks := [(900, .cells [vI lo, vI hi] 56 false 1), (901, .cells [vI e] 27 false 1), (500, .sym l false 1)]
def rWH (L : AtLoop) (lo hi e : Int) (n cap : Nat) (l : List Value) (i : Int) (B : Bx) (X : Xx) (K : Value → Blocks → Prop) : Prop := wpRound Try.prog hF L 135 0 (sWH n cap i) (bWH lo hi e l) B X (stateK K)
theorem rWH_text (L : AtLoop) (lo : Int) (hi : Int) (e : Int) (n : Nat) (cap : Nat) (l : List Go.Value) (i : Int) (B : Bx) (X : Xx) (K : Go.Value → Blocks → Prop) : rWH L lo hi e n cap l i B X K =
 (bcase (decide (i < (↑n : Int)))
 (bcase (decide (0 ≤ i))
 (bcase (decide (i < (↑n : Int)))
 (∃ n1 : Int,
 ((At (l) (0 + Int.toNat i * 1) 1 [(vI n1)]) ∧
 (bcase (decide (n1 < lo))
 (K (vI e) [(Prod.mk 900 (AObj.cells [(vI lo), (vI hi)] 56 false 1)), (Prod.mk 901 (AObj.cells [(vI e)] 27 false 1))])
 (bcase (decide (n1 > hi))
 (K (vI e) [(Prod.mk 900 (AObj.cells [(vI lo), (vI hi)] 56 false 1)), (Prod.mk 901 (AObj.cells [(vI e)] 27 false 1))])
 (B [(Prod.mk 1 (Go.Value.pointer (Option.some (Go.Addr.mk 900 0 Option.none)))), (Prod.mk 2 (Go.Value.pointer (Option.some (Go.Addr.mk 901 0 Option.none)))), (Prod.mk 7 (Go.Value.slice (Option.some (Go.Addr.mk 500 0 Option.none)) (n) (cap))), (Prod.mk 8 (vI ((↑n : Int)))), (Prod.mk 9 (vI (IntKind.wrap .i64 (i + 1))))] [(Prod.mk 900 (AObj.cells [(vI lo), (vI hi)] 56 false 1)), (Prod.mk 901 (AObj.cells [(vI e)] 27 false 1)), (Prod.mk 500 (AObj.sym (l) false 1))])))))
 False)
 False)
 (X 0 [] [(Prod.mk 900 (AObj.cells [(vI lo), (vI hi)] 56 false 1)), (Prod.mk 901 (AObj.cells [(vI e)] 27 false 1))])) := by kernel_rfl
def nWH (L : AtLoop) (lo hi e : Int) (K : Value → Blocks → Prop) : Prop := wpNext Try.prog hF L 135 0 .normal [] (wm lo hi e) (stateK K)
theorem nWH_text (L : AtLoop) (lo : Int) (hi : Int) (e : Int) (K : Go.Value → Blocks → Prop) : nWH L lo hi e K =
 (K (vI (0 : Int)) [(Prod.mk 900 (AObj.cells [(vI lo), (vI hi)] 56 false 1)), (Prod.mk 901 (AObj.cells [(vI e)] 27 false 1))]) := by kernel_rfl
def sWO (n cap : Nat) (i : Int) : Slots := [(1, P1 901 0), (2, P1 902 0), (7, .slice (some ⟨900, 0, none⟩) n cap), (8, .int .i64 n), (9, vI i)]
def bWO (lo hi e : Int) (l : List Value) : Blocks := [(901, .cells [vI lo, vI hi] 56 false 1), (902, .cells [vI e] 27 false 1), (900, .sym l true 1)]
def rWO (L : AtLoop) (lo hi e : Int) (n cap : Nat) (l : List Value) (i : Int) (B : Bx) (X : Xx) (K : Value → Blocks → Prop) : Prop := wpRound Try.prog hF L 135 0 (sWO n cap i) (bWO lo hi e l) B X (stateK K)
theorem rWO_text (L : AtLoop) (lo : Int) (hi : Int) (e : Int) (n : Nat) (cap : Nat) (l : List Go.Value) (i : Int) (B : Bx) (X : Xx) (K : Go.Value → Blocks → Prop) : rWO L lo hi e n cap l i B X K =
 (bcase (decide (i < (↑n : Int)))
 (bcase (decide (0 ≤ i))
 (bcase (decide (i < (↑n : Int)))
 (∃ n1 : Int,
 ((At (l) (0 + Int.toNat i * 1) 1 [(vI n1)]) ∧
 (bcase (decide (n1 < lo))
 (K (vI e) [(Prod.mk 900 (AObj.sym (l) true 1)), (Prod.mk 901 (AObj.cells [(vI lo), (vI hi)] 56 false 1)), (Prod.mk 902 (AObj.cells [(vI e)] 27 false 1))])
 (bcase (decide (n1 > hi))
 (K (vI e) [(Prod.mk 900 (AObj.sym (l) true 1)), (Prod.mk 901 (AObj.cells [(vI lo), (vI hi)] 56 false 1)), (Prod.mk 902 (AObj.cells [(vI e)] 27 false 1))])
 (B [(Prod.mk 1 (Go.Value.pointer (Option.some (Go.Addr.mk 901 0 Option.none)))), (Prod.mk 2 (Go.Value.pointer (Option.some (Go.Addr.mk 902 0 Option.none)))), (Prod.mk 7 (Go.Value.slice (Option.some (Go.Addr.mk 900 0 Option.none)) (n) (cap))), (Prod.mk 8 (vI ((↑n : Int)))), (Prod.mk 9 (vI (IntKind.wrap .i64 (i + 1))))] [(Prod.mk 901 (AObj.cells [(vI lo), (vI hi)] 56 false 1)), (Prod.mk 902 (AObj.cells [(vI e)] 27 false 1)), (Prod.mk 900 (AObj.sym (l) true 1))])))))
 False)
 False)
 (X 0 [] [(Prod.mk 900 (AObj.sym (l) true 1)), (Prod.mk 901 (AObj.cells [(vI lo), (vI hi)] 56 false 1)), (Prod.mk 902 (AObj.cells [(vI e)] 27 false 1))])) := by kernel_rfl
def nWO (L : AtLoop) (lo hi e : Int) (l : List Value) (K : Value → Blocks → Prop) : Prop := wpNext Try.prog hF L 135 0 .normal [] ((900, .sym l true 1) :: wl lo hi e) (stateK K)
theorem nWO_text (L : AtLoop) (lo : Int) (hi : Int) (e : Int) (l : List Go.Value) (K : Go.Value → Blocks → Prop) : nWO L lo hi e l K =
 (K (vI (0 : Int)) [(Prod.mk 900 (AObj.sym (l) true 1)), (Prod.mk 901 (AObj.cells [(vI lo), (vI hi)] 56 false 1)), (Prod.mk 902 (AObj.cells [(vI e)] 27 false 1))]) := by kernel_rfl
end Go.Proofs.G5f

/- A call that gives back what it was handed: it holds. -/
namespace Go.Abs
open Go.RowKit
variable {P : Program} {H : Heap}
theorem layC_out : ∀ (ds : List D) {H : Heap} {k : List Value → Heap → Prop}, layC ds H k → ∃ vs H', LaidC H ds vs H' ∧ k vs H'
  | [], H, k, h => ⟨_, _, .nil H, h⟩
  | .nil :: r, H, k, h => by
    obtain ⟨vs, H', h1, h2⟩ := layC_out r h
    exact ⟨_, _, .nilS h1, h2⟩
  | .sl n es cs :: r, H, k, h => by
    obtain ⟨vs, H', h1, h2⟩ := layC_out r h
    exact ⟨_, _, .sl n es cs h1, h2⟩
  | .val v :: r, H, k, h => by
    unfold layC at h
    split at h
    · cases h
    · rename_i hv
      obtain ⟨vs, H', h1, h2⟩ := layC_out r h
      exact ⟨_, _, .val _ (fun cs e => hv cs e) h1, h2⟩
  | .agg _ :: _, H, k, h => by cases h
theorem layV_out : ∀ (ds : List D) {H : Heap} {k : List Value → Heap → Prop}, layV ds H k → ∃ vs H', LaidV H ds vs H' ∧ k vs H'
  | [], H, k, h => ⟨_, _, .nil H, h⟩
  | d :: r, H, k, h => by
    unfold layV at h
    split at h
    · rename_i e; cases e
    · rename_i e; cases e
      obtain ⟨vs, H1, h1, h⟩ := layC_out _ h
      obtain ⟨us, H2, h2, h3⟩ := layV_out _ h
      exact ⟨_, _, .agg h1 h2, h3⟩
    · rename_i e; cases e
      obtain ⟨vs, H1, h1, h⟩ := layC_out _ h
      split at h
      · obtain ⟨us, H2, h2, h3⟩ := layV_out _ h
        exact ⟨_, _, .one h1 h2, h3⟩
      · cases h
theorem wpFix_call {C : FuncId → List D → List D → Prop} (hC : ∀ f ds rs, C f ds rs → Con P f ds rs) {f : FuncId} {fix : List D → Option (List D)} {args : Array Value} {k : Value → Heap → Prop} (hk : wpFix C f fix args H k) : CallH P f args H k := by
  intro w0 ρ w args' n g ha
  obtain ⟨ds, hr, hk⟩ := readVals_out g _ ha hk
  split at hk
  · rename_i rs _
    obtain ⟨hs, hk⟩ := hk
    obtain ⟨vs, H', hl, hk⟩ := layV_out rs hk
    refine callsIn_wide.2 ((hC f ds rs hs.out w args' hr).mono ?_)
    rintro e w' ⟨⟨vs', u, rfl, hg⟩, hb⟩
    obtain ⟨ρ', g', l', e', _⟩ := laidV_sound hl (g.grow hb) g.below.size (fun i m hm => .inl (g.own i m hm).1) hg
    exact ⟨_, H', ρ', _, hk, rfl, tupleOf_R l', g', e'⟩
  · exact hk.elim
end Go.Abs

/- Handlers by a table hold if each entry does. -/
namespace Go.Abs
open Go.RowKit
variable {P : Program}
theorem saidH_ok {C : FuncId → List D → List D → Prop} (hC : ∀ f ds rs, C f ds rs → Con P f ds rs) : HandlerOK P (saidH P C) := by
  intro g args ats H k hk
  unfold saidH at hk
  split at hk
  · exact wpSaid_call hC hk
  · exact hk.elim
theorem fixH_ok {C : FuncId → List D → List D → Prop} (hC : ∀ f ds rs, C f ds rs → Con P f ds rs) {fix : List D → Option (List D)} : HandlerOK P (fixH C fix) := fun _ _ _ _ _ hk => wpFix_call hC hk
/-- (a state contract speaks of one function) -/
def PreOK (P : Program) (pre : FuncId → Option Handler) : Prop := ∀ g h, pre g = some h → ∀ args ats H k, h g args ats H k → CallH P g args H k
theorem handlerX_ok (hmix : P.follows .mixedOrders = true) {pre : FuncId → Option Handler} (hp : PreOK P pre) {u : Nat} (hu : u ≠ 0) : ∀ n, HandlerOK P (handlerX P pre u n)
  | 0 => fun _ _ _ _ _ h => h.elim
  | n + 1 => fun g args ats H k hk => by
    simp only [handlerX] at hk
    split at hk
    · rename_i h he
      exact hp g h he args ats H k hk
    · exact wpFn_call (handlerX_ok hmix hp hu n) hmix hu hk
theorem falseH_ok : HandlerOK P (fun _ _ _ _ _ => False) := fun _ _ _ _ _ h => h.elim
/-- A function whose loops are walked round by round. -/
theorem callS_walk {h : Handler} (hh : HandlerOK P h) (hmix : P.follows .mixedOrders = true) {u : Nat} (hu : u ≠ 0) {f : FuncId} {fn : Func} {c : Code} (hf : P.funcs[f]? = some fn) (hc : fn.body = some c) {args : List Value} {bs : Blocks} {K : Value → Blocks → Prop}
    (hk : wpFn P h (fun _ _ _ => False) u f args.toArray (heapOf bs) (stateK K)) : CallS P f args bs K := by
  intro w0 ρ w args' n g ha
  refine (wpFn_run (u := u) (b := false) hh hmix (fun h0 => absurd h0 hu) hf hc hk (fun h0 => absurd h0 hu) g n (by simpa using ha)).mono ?_
  rintro e w' ⟨v, H', ρ', v', hkv, rfl, hv, g', _⟩
  obtain ⟨v2, bs', ρ2, h1, h2, h3⟩ := stateK_out g' hv hkv
  exact ⟨v2, bs', ρ2, v', h1, rfl, h2, h3⟩
theorem callS_mono {f : FuncId} {args : List Value} {bs : Blocks} {K K' : Value → Blocks → Prop} (h : CallS P f args bs K) (hk : ∀ v b, K v b → K' v b) : CallS P f args bs K' := by
  intro w0 ρ w args' n g ha
  refine (h w0 ρ w args' n g ha).mono ?_
  rintro e w' ⟨v2, bs', ρ2, v', h1, h2, h3, h4⟩
  exact ⟨v2, bs', ρ2, v', hk _ _ h1, h2, h3, h4⟩
abbrev limBs (ti : TypeId) (cs : List Value) (lo hi : Int) : Blocks := [(900, .cells cs ti false 1), (901, .cells [.int .i64 lo] ti false 1), (902, .cells [.int .i64 hi] ti false 1)]
abbrev limArgs (n cap : Nat) : List Value := [.slice (some ⟨900, 0, none⟩) n cap, .pointer (some ⟨901, 0, none⟩), .pointer (some ⟨902, 0, none⟩)]
/-- What is left to show of the function that limit returns. -/
def limGoal (P : Program) (f : FuncId) (ti : TypeId) (n : Nat) (cs : List Value) (cap : Nat) (lo hi : Int) (K : Value → Blocks → Prop) : Prop :=
  wpFn P (fun _ _ _ _ _ => False) (fun _ _ _ => False) 6 f (limArgs n cap).toArray (heapOf (limBs ti cs lo hi)) (stateK K)
structure LimGood (P : Program) (f : FuncId) (ti : TypeId) : Prop where
  mix : P.follows .mixedOrders = true
  fn : ∃ fn c, P.funcs[f]? = some fn ∧ fn.body = some c
  one : ∀ cap lo hi x, limGoal P f ti 1 [.int .i64 x] cap lo hi (fun v b => v = .int .i64 (limE lo hi [.int .i64 x]) ∧ b = limBs ti [.int .i64 x] lo hi)
  two : ∀ cap lo hi x y, limGoal P f ti 2 [.int .i64 x, .int .i64 y] cap lo hi (fun v b => v = .int .i64 (limE lo hi [.int .i64 x, .int .i64 y]) ∧ b = limBs ti [.int .i64 x, .int .i64 y] lo hi)
  three : ∀ cap lo hi x y z, limGoal P f ti 3 [.int .i64 x, .int .i64 y, .int .i64 z] cap lo hi (fun v b => v = .int .i64 (limE lo hi [.int .i64 x, .int .i64 y, .int .i64 z]) ∧ b = limBs ti [.int .i64 x, .int .i64 y, .int .i64 z] lo hi)
  four : ∀ cap lo hi x y z u, limGoal P f ti 4 [.int .i64 x, .int .i64 y, .int .i64 z, .int .i64 u] cap lo hi (fun v b => v = .int .i64 (limE lo hi [.int .i64 x, .int .i64 y, .int .i64 z, .int .i64 u]) ∧ b = limBs ti [.int .i64 x, .int .i64 y, .int .i64 z, .int .i64 u] lo hi)
end Go.Abs

/- Pairs of whole numbers as cells. -/
namespace Go.Abs
theorem bc_t {p : Prop} [Decidable p] {x y : Prop} (h : p) : bcase (decide p) x y = x := by rw [decide_eq_true h]; rfl
theorem bc_f {p : Prop} [Decidable p] {x y : Prop} (h : ¬ p) : bcase (decide p) x y = y := by rw [decide_eq_false h]; rfl
/-- pairs of whole numbers as cells -/
def vp : List (Int × Int) → List Value
  | [] => []
  | p :: r => .int .i64 p.1 :: .int .i64 p.2 :: vp r
@[simp] theorem vp_length : ∀ l : List (Int × Int), (vp l).length = l.length * 2
  | [] => rfl
  | p :: r => by simp only [vp, List.length_cons, vp_length r]; omega
theorem bc_n {a b : Int} {x y : Prop} (h : a ≠ b) : bcase (a != b) x y = x := by rw [show (a != b) = true by simpa using h]; rfl
/-- what is loaded is what is there -/
theorem at1 {l : List Value} {k : Nat} {a : Int} (h : At l k 1 [.int .i64 a]) {Q : Int → Prop} : (∃ n : Int, At l k 1 [.int .i64 n] ∧ Q n) = Q a := by
  apply propext
  constructor
  · rintro ⟨n, hn, hq⟩
    have e := hn.eq.symm.trans h.eq
    simp only [List.cons.injEq, Value.int.injEq, true_and, and_true] at e
    rw [← e]; exact hq
  · intro hq; exact ⟨a, h, hq⟩
abbrev dI (n : Int) : D := .val (.int .i64 n)
/-- the first number that is not naught -/
def fst0 : List Int → Int
  | [] => 0
  | p :: r => if p = 0 then fst0 r else p
theorem fst0_two (a b : Int) : fst0 [a, b] = if a = 0 then b else a := by
  simp only [fst0]
  split
  · split
    · omega
    · rfl
  · rfl
end Go.Abs

/- The closure of within: whatever it is handed. -/
namespace Go.Proofs.G5f
open Go Go.Abs Go.Proofs
set_option maxRecDepth 100000
theorem mixed : Try.prog.follows .mixedOrders = true := by kernel_rfl
theorem witC_out {g : FuncId} {lo hi e r : Int} {n es : Nat} {cs : List Value} (h : Says witC g [.val (.int .i64 lo), .val (.int .i64 hi), .val (.int .i64 e), .sl n es cs] [.val (.int .i64 r)]) : r = witE lo hi e cs := h.out
abbrev WK (lo hi e : Int) (cs : List Value) (bs : Blocks) : Value → Blocks → Prop := fun v b => v = .int .i64 (witE lo hi e cs) ∧ b = bs
theorem wit1 (cap : Nat) (lo hi e x : Int) : wt1 cap lo hi e x (WK lo hi e [vI x] ((900, .cells [vI x] 3 false 1) :: wl lo hi e)) := by
  rw [wt1_text]; unfold WK
  repeat' refine bc_dec (fun _ => ?_) (fun _ => ?_)
  all_goals refine ⟨congrArg (Value.int .i64) ?_, rfl⟩
  all_goals (simp only [witE]; repeat' split)
  all_goals first | rfl | omega
theorem wit2 (cap : Nat) (lo hi e x y : Int) : wt2 cap lo hi e x y (WK lo hi e [vI x, vI y] ((900, .cells [vI x, vI y] 3 false 1) :: wl lo hi e)) := by
  rw [wt2_text]; unfold WK
  repeat' refine bc_dec (fun _ => ?_) (fun _ => ?_)
  all_goals refine ⟨congrArg (Value.int .i64) ?_, rfl⟩
  all_goals (simp only [witE]; repeat' split)
  all_goals first | rfl | omega
theorem wit3 (cap : Nat) (lo hi e x y z : Int) : wt3 cap lo hi e x y z (WK lo hi e [vI x, vI y, vI z] ((900, .cells [vI x, vI y, vI z] 3 false 1) :: wl lo hi e)) := by
  rw [wt3_text]; unfold WK
  repeat' refine bc_dec (fun _ => ?_) (fun _ => ?_)
  all_goals refine ⟨congrArg (Value.int .i64) ?_, rfl⟩
  all_goals (simp only [witE]; repeat' split)
  all_goals first | rfl | omega
theorem wit4 (cap : Nat) (lo hi e x y z u : Int) : wt4 cap lo hi e x y z u (WK lo hi e [vI x, vI y, vI z, vI u] ((900, .cells [vI x, vI y, vI z, vI u] 3 false 1) :: wl lo hi e)) := by
  rw [wt4_text]; unfold WK
  repeat' refine bc_dec (fun _ => ?_) (fun _ => ?_)
  all_goals refine ⟨congrArg (Value.int .i64) ?_, rfl⟩
  all_goals (simp only [witE]; repeat' split)
  all_goals first | rfl | omega
theorem wit5 (cap : Nat) (lo hi e x y z u v : Int) : wt5 cap lo hi e x y z u v (WK lo hi e [vI x, vI y, vI z, vI u, vI v] ((900, .cells [vI x, vI y, vI z, vI u, vI v] 3 false 1) :: wl lo hi e)) := by
  rw [wt5_text]; unfold WK
  repeat' refine bc_dec (fun _ => ?_) (fun _ => ?_)
  all_goals refine ⟨congrArg (Value.int .i64) ?_, rfl⟩
  all_goals (simp only [witE]; repeat' split)
  all_goals first | rfl | omega
theorem wit0 (lo hi e : Int) : wt0 lo hi e (fun v b => v = .int .i64 0 ∧ b = wm lo hi e) := by
  rw [wt0_text]; exact ⟨rfl, rfl⟩
theorem witE_drop {lo hi e : Int} (l : List Int) (i : Nat) (h : i < l.length) : witE lo hi e (vi (l.drop i)) = if l[i] < lo ∨ l[i] > hi then e else witE lo hi e (vi (l.drop (i + 1))) := by
  rw [List.drop_eq_getElem_cons h]; rfl
theorem witH (cap : Nat) (lo hi e : Int) (l : List Int) (hlen : l.length < 1000000000) : CallS Try.prog 135 [.slice (some ⟨500, 0, none⟩) l.length cap, P1 900 0, P1 901 0] ((500, .sym (vi l) false 1) :: wm lo hi e) (WK lo hi e (vi l) (wm lo hi e)) := by
  let inv : Nat → Prop := fun i => i ≤ l.length ∧ witE lo hi e (vi l) = witE lo hi e (vi (l.drop i))
  let st : Nat → Slots × Blocks := fun i => (sWH l.length cap i, bWH lo hi e (vi l))
  refine callS_ofG (L := fun _ s b => ∃ x, inv x ∧ st x = (s, b)) falseH_ok mixed Try.func135 rfl rfl (ids := [0]) (by kernel_rfl) rfl ?_ (fun id hid => ?_)
  · show wtH _ lo hi e l.length cap (vi l) _
    rw [wtH_text]
    exact ⟨0, ⟨Nat.zero_le _, rfl⟩, rfl⟩
  · obtain rfl := List.mem_singleton.1 hid
    refine ⟨_, st, inv, fun i => l.length - i, ⟨fun s b h => h, by kernel_rfl, ?_⟩⟩
    rintro i ⟨hi', hm⟩
    show rWH _ lo hi e l.length cap (vi l) (i : Int) _ _ _
    rw [rWH_text]
    refine bc_dec (fun h => ?_) (fun h => ?_)
    · have hi2 : i < l.length := by omega
      rw [witE_drop l i hi2] at hm
      simp only [bc_t h, bc_t (show (0 : Int) ≤ (i : Int) by omega), Int.toNat_natCast, at1 (vi_at l i hi2)]
      refine bc_dec (fun h1 => ?_) (fun h1 => bc_dec (fun h2 => ?_) (fun h2 => ?_))
      · rw [if_pos (.inl h1)] at hm; exact ⟨by rw [hm], rfl⟩
      · rw [if_pos (.inr h2)] at hm; exact ⟨by rw [hm], rfl⟩
      · rw [if_neg (by omega)] at hm
        refine ⟨i + 1, ⟨hi2, hm⟩, by omega, ?_⟩
        rw [w64 (by omega) (by omega)]; rfl
    · show (if 0 = 0 then _ else _)
      rw [if_pos rfl]
      show nWH _ lo hi e _
      rw [nWH_text]
      have : i = l.length := by omega
      rw [this, List.drop_length] at hm
      exact ⟨by rw [hm]; rfl, rfl⟩
theorem witO (cap : Nat) (lo hi e : Int) (l : List Int) (hlen : l.length < 1000000000) : CallS Try.prog 135 [.slice (some ⟨900, 0, none⟩) l.length cap, P1 901 0, P1 902 0] ((900, .sym (vi l) true 1) :: wl lo hi e) (WK lo hi e (vi l) ((900, .sym (vi l) true 1) :: wl lo hi e)) := by
  let inv : Nat → Prop := fun i => i ≤ l.length ∧ witE lo hi e (vi l) = witE lo hi e (vi (l.drop i))
  let st : Nat → Slots × Blocks := fun i => (sWO l.length cap i, bWO lo hi e (vi l))
  refine callS_ofG (L := fun _ s b => ∃ x, inv x ∧ st x = (s, b)) falseH_ok mixed Try.func135 rfl rfl (ids := [0]) (by kernel_rfl) rfl ?_ (fun id hid => ?_)
  · show wtO _ lo hi e l.length cap (vi l) _
    rw [wtO_text]
    exact ⟨0, ⟨Nat.zero_le _, rfl⟩, rfl⟩
  · obtain rfl := List.mem_singleton.1 hid
    refine ⟨_, st, inv, fun i => l.length - i, ⟨fun s b h => h, by kernel_rfl, ?_⟩⟩
    rintro i ⟨hi', hm⟩
    show rWO _ lo hi e l.length cap (vi l) (i : Int) _ _ _
    rw [rWO_text]
    refine bc_dec (fun h => ?_) (fun h => ?_)
    · have hi2 : i < l.length := by omega
      rw [witE_drop l i hi2] at hm
      simp only [bc_t h, bc_t (show (0 : Int) ≤ (i : Int) by omega), Int.toNat_natCast, at1 (vi_at l i hi2)]
      refine bc_dec (fun h1 => ?_) (fun h1 => bc_dec (fun h2 => ?_) (fun h2 => ?_))
      · rw [if_pos (.inl h1)] at hm; exact ⟨by rw [hm], rfl⟩
      · rw [if_pos (.inr h2)] at hm; exact ⟨by rw [hm], rfl⟩
      · rw [if_neg (by omega)] at hm
        refine ⟨i + 1, ⟨hi2, hm⟩, by omega, ?_⟩
        rw [w64 (by omega) (by omega)]; rfl
    · show (if 0 = 0 then _ else _)
      rw [if_pos rfl]
      show nWO _ lo hi e (vi l) _
      rw [nWO_text]
      have : i = l.length := by omega
      rw [this, List.drop_length] at hm
      exact ⟨by rw [hm]; rfl, rfl⟩
theorem wit_run {args : List Value} {bs : Blocks} {lo hi e : Int} {n : Nat} {cs : List Value} {bs' : Blocks} {K : Value → Blocks → Prop} (h1 : CallS Try.prog 135 args bs (WK lo hi e cs bs')) (h2 : witOut lo hi e n cs bs' K) : CallS Try.prog 135 args bs K := by
  refine callS_mono h1 ?_
  rintro v b ⟨rfl, rfl⟩
  obtain ⟨r, hr, hK⟩ := h2
  rw [← witC_out hr]; exact hK
theorem wit_ok {args : List Value} {bs : Blocks} {K : Value → Blocks → Prop} (hk : witAll 3 56 27 args bs K) : CallS Try.prog 135 args bs K := by
  have wk : ∀ {args : List Value} {bs : Blocks} {K : Value → Blocks → Prop}, wpFn Try.prog hF (fun _ _ _ => False) 6 135 args.toArray (heapOf bs) (stateK K) → CallS Try.prog 135 args bs K := fun h => callS_walk falseH_ok mixed (by decide) Try.func135 rfl h
  unfold witAll at hk
  split at hk
  · split at hk
    · rename_i hc
      simp only [Bool.and_eq_true, beq_iff_eq] at hc
      obtain ⟨⟨⟨⟨⟨⟨⟨⟨rfl, rfl⟩, rfl⟩, rfl⟩, rfl⟩, rfl⟩, rfl⟩, rfl⟩, rfl⟩ := hc
      split at hk
      · split at hk
        · rename_i hd
          simp only [Bool.and_eq_true, beq_iff_eq] at hd
          obtain ⟨⟨⟨⟨⟨⟨rfl, rfl⟩, rfl⟩, rfl⟩, rfl⟩, rfl⟩, hm⟩ := hd
          split at hk
          · subst hm; exact wit_run (wk (wit1 _ _ _ _ _)) hk
          · subst hm; exact wit_run (wk (wit2 _ _ _ _ _ _)) hk
          · subst hm; exact wit_run (wk (wit3 _ _ _ _ _ _ _)) hk
          · subst hm; exact wit_run (wk (wit4 _ _ _ _ _ _ _ _)) hk
          · subst hm; exact wit_run (wk (wit5 _ _ _ _ _ _ _ _ _)) hk
          · exact hk.elim
        · exact hk.elim
      · split at hk
        · rename_i hd
          simp only [Bool.and_eq_true, beq_iff_eq] at hd
          obtain ⟨⟨⟨⟨rfl, rfl⟩, rfl⟩, rfl⟩, rfl⟩ := hd
          obtain ⟨l, rfl, rfl, hl, hk⟩ := hk
          exact wit_run (witH _ _ _ _ l hl) hk
        · split at hk
          · rename_i hd
            simp only [Bool.and_eq_true, beq_iff_eq] at hd
            obtain ⟨⟨⟨⟨rfl, rfl⟩, rfl⟩, rfl⟩, rfl⟩ := hd
            obtain ⟨l, rfl, rfl, hl, hk⟩ := hk
            exact wit_run (witO _ _ _ _ l hl) hk
          · exact hk.elim
      · exact hk.elim
    · exact hk.elim
  · split at hk
    · rename_i hc
      simp only [Bool.and_eq_true, beq_iff_eq] at hc
      obtain ⟨⟨⟨⟨⟨⟨⟨⟨⟨rfl, rfl⟩, rfl⟩, rfl⟩, rfl⟩, rfl⟩, rfl⟩, rfl⟩, rfl⟩, rfl⟩ := hc
      refine callS_mono (wk (wit0 _ _ _)) ?_
      rintro v b ⟨rfl, rfl⟩
      exact hk
    · exact hk.elim
  · exact hk.elim
end Go.Proofs.G5f
