/- Texts of the proof, put together: AbsFrame, AbsState, AbsX, AbsPairs, AbsLimD, AbsModD, AbsShort. -/
import Derived.Test.YtbdnaobaiidblaaP3
/- A call that is met by what it does to the blocks that it reaches: it is sound. -/
namespace Go.Abs
open Go.RowKit
variable {P : Program} {ρ : Ren} {w0 : Start P} {w : World} {H : Heap}

/-- A call, by the blocks that its arguments reach. -/
def CallS (P : Program) (f : FuncId) (args : List Value) (bs : Blocks) (K : Value → Blocks → Prop) : Prop :=
  ∀ (w0 : Start P) (ρ : Ren) (w : World) (args' : Array Value) (n : Nat), Gam w0 ρ (heapOf bs) w → LR ρ args args'.toList →
    CallsIn Fence.wide n P f args' w fun e w' => ∃ v bs' ρ' v', K v bs' ∧ e = .returned v' ∧ VR ρ' v v' ∧ Gam w0 ρ' (heapOf bs') w'

/-! ### Renaming, once more (numbers change anyhow; the globals stay) -/
structure MuS (μ : Mu) : Prop where
  snd : (μ.map (·.2)).Nodup
  glb : ∀ i j, (i, j) ∈ μ → i < abase → j = i
variable {μ : Mu}
theorem mapV_S (ok : MuS μ) : ∀ (n : Nat) (v v' : Value), VR ρ v v' → VR (μ.ren ρ) (mapV μ n v) v'
  | 0, v, v', _ => .unknown _ _
  | n + 1, v, v', h => by
    have ih := mapV_S ok n
    cases h with
    | bool b => exact .bool b
    | int k n => exact .int k n
    | float k n => exact .float k n
    | complex k n m => exact .complex k n m
    | string s => exact .string s
    | nilFunc => exact .nilFunc
    | nilIface => exact .nilIface
    | nilPtr => exact .nilPtr
    | nilSlice l c => exact .nilSlice l c
    | nilMap => exact .nilMap
    | unknown r v => unfold mapV; exact .unknown _ _
    | glob g k hg =>
      simp only [mapV]
      cases hm : μ.find g with
      | none => exact .unknown _ _
      | some j =>
        have hj : j = g := ok.glb _ _ (Mu.find_mem hm) hg
        subst hj
        exact .glob _ k hg
    | ptr i k m hm =>
      simp only [mapV]
      cases hf : μ.find i with
      | none => exact .unknown _ _
      | some j => exact .ptr j k m (by rw [Mu.ren_of ok.snd (Mu.find_mem hf)]; exact hm)
    | map i m hm =>
      simp only [mapV]
      cases hf : μ.find i with
      | none => exact .unknown _ _
      | some j => exact .map j m (by rw [Mu.ren_of ok.snd (Mu.find_mem hf)]; exact hm)
    | slice i k len cap m hm ho hl =>
      simp only [mapV]
      cases hf : μ.find i with
      | none => exact .unknown _ _
      | some j => exact .slice j k len cap m (by rw [Mu.ren_of ok.snd (Mu.find_mem hf)]; exact hm) ho hl
    | opened i k len cap capC m hm ho hc hs hl =>
      simp only [mapV]
      cases hf : μ.find i with
      | none => exact .unknown _ _
      | some j => exact .opened j k len cap capC m (by rw [Mu.ren_of ok.snd (Mu.find_mem hf)]; exact hm) ho hc hs hl
    | empty i k off m hm ho hz =>
      simp only [mapV]
      cases hf : μ.find i with
      | none => exact .unknown _ _
      | some j => exact .empty j k off m (by rw [Mu.ren_of ok.snd (Mu.find_mem hf)]; exact hm) ho hz
    | func f a b a' b' ha hb ra rb =>
      simp only [mapV]
      refine VR.func' ?_ ?_
      · simpa using LR.map_left ih (LR.of_arr ha ra)
      · simpa using LR.map_left ih (LR.of_arr hb rb)
    | yield l m hm => unfold mapV; exact .unknown _ _
    | iface t v v' hv => exact .iface t _ _ (ih _ _ hv)
    | agg a a' ha ra =>
      simp only [mapV]
      refine VR.agg' ?_
      simpa using LR.map_left ih (LR.of_arr ha ra)
    | tuple a a' ha ra =>
      simp only [mapV]
      refine VR.tuple' ?_
      simpa using LR.map_left ih (LR.of_arr ha ra)
theorem mapO_S (ok : MuS μ) {m : Meta} {o o2 : AObj} (h : mapO μ o = some o2) (r : ObjR ρ w m o) : ObjR (μ.ren ρ) w m o2 ∧ o2.alive = o.alive := by
  cases o with
  | cells cs ty opn es =>
    simp only [mapO, Option.some.injEq] at h
    subst h
    obtain ⟨a, b, c, d, e, f, g, i⟩ := r
    exact ⟨⟨by simpa using a, b, c, d, e, f, g, by simpa using LR.map_left (mapV_S ok 8) i⟩, rfl⟩
  | sym cs opn es =>
    simp only [mapO, Option.some.injEq] at h
    subst h
    obtain ⟨⟨a, b, c, d, e, z, f, g, i⟩, j⟩ := r
    exact ⟨⟨⟨a, b, c, d, e, z, f, g, i.plain_any (fun v hv => cellP_plain (j v hv))⟩, j⟩, rfl⟩
  | map es c =>
    simp only [mapO] at h
    split at h
    · simp only [Option.some.injEq] at h
      subst h
      obtain ⟨es', h1, h2⟩ := r
      exact ⟨⟨es', h1, ER.map_val (mapV_S ok 8) h2⟩, rfl⟩
    · cases h
  | deferred => simp only [mapO, Option.some.injEq] at h; subst h; exact ⟨r, rfl⟩
  | taken => simp only [mapO, Option.some.injEq] at h; subst h; exact ⟨r, rfl⟩
  | dead _ _ _ => cases h
  | loop _ => cases h
  | siter _ _ => cases h
theorem LR.map_S (ok : MuS μ) {l l' : List Value} (h : LR ρ l l') : LR (μ.ren ρ) (l.map (mapV μ 8)) l' := LR.map_left (mapV_S ok 8) h

/-! ### What is reached has its place -/
def Placed (ρ : Ren) (i : Nat) : Prop := i < abase ∨ ∃ m, ρ i = some m
theorem LR.placed {f : Value → List Nat} (hf : ∀ v v', VR ρ v v' → ∀ i ∈ f v, Placed ρ i) : ∀ {l l' : List Value}, LR ρ l l' → ∀ i ∈ l.flatMap f, Placed ρ i
  | _, _, .nil, i, h => by cases h
  | _, _, .cons h t, i, hi => by
    rw [List.flatMap_cons] at hi
    rcases List.mem_append.1 hi with h1 | h1
    · exact hf _ _ h i h1
    · exact LR.placed hf t i h1
theorem blocksV_placed : ∀ (n : Nat) (v v' : Value), VR ρ v v' → ∀ i ∈ blocksV n v, Placed ρ i
  | 0, _, _, _, i, h => by simp [blocksV] at h
  | n + 1, v, v', hv, i, h => by
    have ih : ∀ (v v' : Value), VR ρ v v' → ∀ i ∈ blocksV n v, Placed ρ i := blocksV_placed n
    cases hv with
    | glob g k hg => simp only [blocksV, List.mem_singleton] at h; subst h; exact .inl hg
    | ptr j k m hm => simp only [blocksV, List.mem_singleton] at h; subst h; exact .inr ⟨m, hm⟩
    | map j m hm => simp only [blocksV, List.mem_singleton] at h; subst h; exact .inr ⟨m, hm⟩
    | slice j k len cap m hm ho => simp only [blocksV, List.mem_singleton] at h; subst h; exact .inr ⟨m, hm⟩
    | opened j k len cap capC m hm ho hc hs => simp only [blocksV, List.mem_singleton] at h; subst h; exact .inr ⟨m, hm⟩
    | empty j k off m hm ho hz => simp only [blocksV, List.mem_singleton] at h; subst h; exact .inr ⟨m, hm⟩
    | func f a b a' b' ha hb ra rb =>
      simp only [blocksV] at h
      rcases List.mem_append.1 h with h | h
      · exact LR.placed ih (LR.of_arr ha ra) i h
      · exact LR.placed ih (LR.of_arr hb rb) i h
    | iface t v v' hv => exact ih _ _ hv i (by simpa [blocksV] using h)
    | agg a a' ha ra => exact LR.placed ih (LR.of_arr ha ra) i (by simpa [blocksV] using h)
    | tuple a a' ha ra => exact LR.placed ih (LR.of_arr ha ra) i (by simpa [blocksV] using h)
    | _ => simp [blocksV] at h
theorem ER.placed : ∀ {l l' : List MapEntry}, ER ρ l l' → ∀ i ∈ l.flatMap (fun e => blocksV 8 e.val), Placed ρ i
  | _, _, .nil, i, h => by cases h
  | _, _, .cons k kk v b t, i, hi => by
    rw [List.flatMap_cons] at hi
    rcases List.mem_append.1 hi with h1 | h1
    · exact blocksV_placed 8 _ _ v i h1
    · exact ER.placed t i h1
theorem blocksO_placed {m : Meta} {o : AObj} (r : ObjR ρ w m o) : ∀ i ∈ blocksO o, Placed ρ i := by
  intro i h
  cases o with
  | cells cs ty opn es =>
    obtain ⟨_, _, _, _, _, _, _, hl⟩ := r
    exact LR.placed (blocksV_placed 8) hl i (by simpa [blocksO] using h)
  | map es c =>
    obtain ⟨es', _, h2⟩ := r
    exact ER.placed h2 i (by simpa [blocksO] using h)
  | _ => simp [blocksO] at h
theorem reachC_placed (g : Gam w0 ρ H w) : ∀ (f : Nat) (work : List Nat) (μ : Mu) (ro mu : Nat), (∀ i ∈ work, Placed ρ i) → (∀ p ∈ μ, Placed ρ p.1) → ∀ p ∈ reachC H f work μ ro mu, Placed ρ p.1
  | 0, _, μ, _, _, _, h => by simpa [reachC] using h
  | f + 1, [], μ, _, _, _, h => by simpa [reachC] using h
  | f + 1, i :: work, μ, ro, mu, hw, h => by
    have hw2 : ∀ j ∈ work, Placed ρ j := fun j hj => hw j (List.mem_cons_of_mem _ hj)
    have hi := hw i (List.mem_cons_self ..)
    unfold reachC
    split
    · exact reachC_placed g f work μ ro mu hw2 h
    · split
      · exact reachC_placed g f work μ ro mu hw2 h
      · rename_i o ho
        have hpl : ∀ j ∈ work ++ blocksO o, Placed ρ j := by
          intro j hj
          rcases List.mem_append.1 hj with hj | hj
          · exact hw2 j hj
          · have hm : ∃ m, ρ i = some m := by
              rcases hi with hlt | hm
              · exact g.gmap i (.inl hlt) (by rw [ho]; simp)
              · exact hm
            obtain ⟨m, hm⟩ := hm
            exact blocksO_placed (g.obj i m o hm ho) j hj
        have hadd : ∀ q, ∀ p ∈ μ ++ [(i, q)], Placed ρ p.1 := by
          intro q p hp
          rcases List.mem_append.1 hp with hp | hp
          · exact h p hp
          · rw [List.mem_singleton.1 hp]; exact hi
        split
        · exact reachC_placed g f _ _ _ _ hpl (hadd _)
        · exact reachC_placed g f _ _ _ _ hpl (hadd _)

/-! ### The call's own view -/
structure CallOK (μ : Mu) (H : Heap) : Prop where
  fst : (μ.map (·.1)).Nodup
  snd : (μ.map (·.2)).Nodup
  lo : ∀ i j, (i, j) ∈ μ → abase ≤ i ∧ abase ≤ j ∧ j < gbase
  mb : ∀ i j, (i, j) ∈ μ → (mbase ≤ i ↔ mbase ≤ j)
  live : ∀ i j, (i, j) ∈ μ → ∃ o o2, H.get i = some o ∧ mapO μ o = some o2 ∧ o.alive = true
theorem mapO_alive {o o2 : AObj} (h : mapO μ o = some o2) (ht : o2 ≠ .taken) : o.alive = true := by
  cases o with
  | taken => simp only [mapO, Option.some.injEq] at h; exact absurd h.symm ht
  | dead _ _ _ => cases h
  | _ => rfl
theorem callGood_ok (h : callGood μ H = true) : CallOK μ H := by
  simp only [callGood, Bool.and_eq_true] at h
  have hall := fun p hp => List.all_eq_true.1 h.2 p hp
  have each : ∀ i j, (i, j) ∈ μ → abase ≤ i ∧ (abase ≤ j ∧ j < gbase) ∧ (mbase ≤ i ↔ mbase ≤ j) ∧ ∃ o o2, H.get i = some o ∧ mapO μ o = some o2 ∧ o.alive = true := by
    intro i j hij
    have := hall _ hij
    simp only [Bool.and_eq_true, decide_eq_true_eq] at this
    obtain ⟨⟨h1, h2⟩, h3⟩ := this
    have h4 : (abase ≤ j ∧ j < gbase) ∧ (mbase ≤ i ↔ mbase ≤ j) := by
      split at h2
      · rename_i hlt
        simp only [Bool.and_eq_true, decide_eq_true_eq] at h2
        refine ⟨⟨h2.1, ?_⟩, by omega⟩
        have : mbase ≤ gbase := by decide
        omega
      · rename_i hge
        simp only [Bool.and_eq_true, decide_eq_true_eq] at h2
        refine ⟨⟨?_, h2.2⟩, by omega⟩
        have : abase ≤ mbase := by decide
        omega
    refine ⟨h1, h4.1, h4.2, ?_⟩
    cases hg : H.get i with
    | none => simp [hg] at h3
    | some o =>
      simp only [hg] at h3
      cases hm : mapO μ o with
      | none => simp [hm] at h3
      | some o2 =>
        refine ⟨o, o2, rfl, hm, mapO_alive hm (fun e => ?_)⟩
        subst e
        simp [hm] at h3
  exact ⟨nodupB_spec h.1.1, nodupB_spec h.1.2, fun i j hij => ⟨(each i j hij).1, (each i j hij).2.1⟩, fun i j hij => (each i j hij).2.2.1, fun i j hij => (each i j hij).2.2.2⟩
theorem CallOK.toS (ok : CallOK μ H) : MuS μ := ⟨ok.snd, fun i j hij hlt => by have := (ok.lo i j hij).1; omega⟩

theorem callGam (g : Gam w0 ρ H w) (ok : CallOK μ H) (hp : ∀ p ∈ μ, Placed ρ p.1) : Gam (P := P) ⟨w, μ.ren ρ⟩ (μ.ren ρ) (heapOf (gcB H μ μ)) w := by
  have hsnd : ∀ {i i' j : Nat}, (i, j) ∈ μ → (i', j) ∈ μ → i = i' := fun h1 h2 => by have := nodup_inj ok.snd h1 h2 rfl; cases this; rfl
  have hfst : ∀ {i j j' : Nat}, (i, j) ∈ μ → (i, j') ∈ μ → j = j' := fun h1 h2 => by have := nodup_inj ok.fst h1 h2 rfl; cases this; rfl
  have hget : ∀ {j : Nat} {o : AObj}, (heapOf (gcB H μ μ)).get j = some o → ∃ i o', (i, j) ∈ μ ∧ H.get i = some o' ∧ mapO μ o' = some o := fun h => gcB_mem (heapOf_get h)
  have obj : ∀ i m o, μ.ren ρ i = some m → (heapOf (gcB H μ μ)).get i = some o → ObjR (μ.ren ρ) w m o ∧ ∃ i0 o0, (i0, i) ∈ μ ∧ ρ i0 = some m ∧ H.get i0 = some o0 ∧ o.alive = o0.alive := by
    intro i m o hm ho
    obtain ⟨i0, hi0, hr0⟩ := Mu.ren_some hm
    obtain ⟨i1, o1, hi1, hg1, hmo⟩ := hget ho
    obtain rfl := hsnd hi0 hi1
    obtain ⟨r1, r2⟩ := mapO_S ok.toS hmo (g.obj _ m _ hr0 hg1)
    exact ⟨r1, i0, o1, hi0, hr0, hg1, r2⟩
  refine ⟨Nat.le_add_right _ _, ?_, .refl _ _, ?_, ?_, ?_, fun i m o hm ho => (obj i m o hm ho).1, ?_, fun i m _ _ h => h, ?_⟩
  · intro i hi
    cases hr : μ.ren ρ i with
    | none => rfl
    | some m =>
      obtain ⟨i0, hi0, _⟩ := Mu.ren_some hr
      have := (ok.lo _ _ hi0).2.2
      have h5 : gbase ≤ i := Nat.le_trans (Nat.le_add_right _ _) hi
      omega
  · intro j m hm
    obtain ⟨i, hi, hr⟩ := Mu.ren_some hm
    have h1 := (g.own i m hr).1
    have := (ok.lo _ _ hi).2.2
    exact ⟨h1, fun h => by omega, fun _ => h1⟩
  · intro j m hm hj
    obtain ⟨i, hi, hr⟩ := Mu.ren_some hm
    have := (ok.lo _ _ hi).2.1
    omega
  · rintro i j mi mj hgi ⟨oi, gi, ai⟩ ⟨oj, gj, aj⟩ ei ej hb
    obtain ⟨_, i0, oi0, hi0, ri0, gi0, hai⟩ := obj i mi oi ei gi
    obtain ⟨_, j0, oj0, hj0, rj0, gj0, haj⟩ := obj j mj oj ej gj
    have := g.inj i0 j0 mi mj ((ok.mb _ _ hi0).2 hgi) ⟨oi0, gi0, by rw [← hai]; exact ai⟩ ⟨oj0, gj0, by rw [← haj]; exact aj⟩ ri0 rj0 hb
    subst this
    exact hfst hi0 hj0
  · intro j hj hn
    cases ho : (heapOf (gcB H μ μ)).get j with
    | none => exact absurd ho hn
    | some o =>
      obtain ⟨i, o', hi, hg, _⟩ := hget ho
      rcases hp _ hi with h | ⟨m, hm⟩
      · have := (ok.lo _ _ hi).1; simp only at h; omega
      · exact ⟨m, by rw [Mu.ren_of ok.snd hi]; exact hm⟩
  · intro q hq
    refine ⟨g.good q hq, ?_⟩
    rintro ⟨j, m, h1, h2, h3, h4⟩
    obtain ⟨i, hij, hr⟩ := Mu.ren_some h3
    have hmi : mbase ≤ i := (ok.mb _ _ hij).2 h1
    obtain ⟨v1, v2⟩ := g.vars q hq
    rcases Nat.lt_or_ge i gbase with hl | hl
    · exact v2 ⟨i, m, hmi, hl, g.pins i m (ok.lo _ _ hij).1 hl hr, h4⟩
    · have h5 := (g.own i m hr).2.1 hl
      have h6 := VarKind.ok_some v1
      have h7 : q.1 < w0.w.heap.size := by
        rcases Nat.lt_or_ge q.1 w0.w.heap.size with h | h
        · exact h
        · rw [Array.getElem?_eq_none h] at h6; cases h6
      omega

/-! ### Back at the caller -/
theorem numFrom_mem : ∀ {l : List Nat} {n j q : Nat}, (j, q) ∈ numFrom l n → j ∈ l ∧ n ≤ q ∧ q < n + l.length
  | [], _, _, _, h => by cases h
  | i :: r, n, j, q, h => by
    unfold numFrom at h
    rcases List.mem_cons.1 h with h | h
    · cases h; exact ⟨List.mem_cons_self .., Nat.le_refl _, by simp⟩
    · obtain ⟨h1, h2, h3⟩ := numFrom_mem h
      exact ⟨List.mem_cons_of_mem _ h1, by omega, by simp only [List.length_cons]; omega⟩
theorem numFrom_snd : ∀ (l : List Nat) (n : Nat), ((numFrom l n).map (·.2)).Nodup
  | [], _ => List.nodup_nil
  | i :: r, n => by
    unfold numFrom
    simp only [List.map_cons, List.nodup_cons]
    refine ⟨fun h => ?_, numFrom_snd r (n + 1)⟩
    obtain ⟨p, hp, e⟩ := List.mem_map.1 h
    obtain ⟨j, q⟩ := p
    have := (numFrom_mem hp).2.1
    simp only at e
    omega
theorem numFrom_fst : ∀ (l : List Nat) (n : Nat), (numFrom l n).map (·.1) = l
  | [], _ => rfl
  | i :: r, n => by unfold numFrom; simp only [List.map_cons, numFrom_fst r]
variable {β : Mu} {bs : Blocks}
theorem mergeP_next : ∀ (l : Mu) (H : Heap), (mergeP β bs l H).next = H.next
  | [], _ => rfl
  | p :: r, H => by
    unfold mergeP
    rw [mergeP_next r]
    split <;> rfl
theorem mergeP_out {i : Nat} : ∀ (l : Mu) (H : Heap), (∀ j, (i, j) ∈ l → ¬ mbase ≤ j) → (mergeP β bs l H).get i = H.get i
  | [], _, _ => rfl
  | p :: r, H, h => by
    unfold mergeP
    rw [mergeP_out r _ (fun j hj => h j (List.mem_cons_of_mem _ hj))]
    split
    · rename_i hm
      rw [Heap.get_set, if_neg (fun e => h p.2 (by rw [e]; exact List.mem_cons_self ..) hm)]
    · rfl
theorem mergeP_in {i j : Nat} : ∀ (l : Mu) (H : Heap), (l.map (·.1)).Nodup → (i, j) ∈ l → mbase ≤ j → (mergeP β bs l H).get i = some (objAt β bs j)
  | [], _, _, h, _ => by cases h
  | p :: r, H, hn, h, hj => by
    simp only [List.map_cons, List.nodup_cons] at hn
    unfold mergeP
    rcases List.mem_cons.1 h with h | h
    · subst h
      rw [mergeP_out r _ (fun q hq => absurd (List.mem_map.2 ⟨_, hq, rfl⟩) hn.1), if_pos hj, Heap.get_set, if_pos rfl]
    · exact mergeP_in r _ hn.2 h hj
theorem mergeN_next : ∀ (l : List Nat) (H : Heap), (mergeN β bs l H).next = H.next + l.length
  | [], _ => rfl
  | j :: r, H => by unfold mergeN; rw [mergeN_next r]; simp only [Heap.next_new, List.length_cons]; omega
theorem mergeN_old {i : Nat} : ∀ (l : List Nat) (H : Heap), i < H.next → (mergeN β bs l H).get i = H.get i
  | [], _, _ => rfl
  | j :: r, H, h => by
    unfold mergeN
    rw [mergeN_old r _ (by simp only [Heap.next_new]; omega), Heap.get_new, if_neg (by omega)]
theorem mergeN_new {i j : Nat} : ∀ (l : List Nat) (H : Heap), (j, i) ∈ numFrom l H.next → (mergeN β bs l H).get i = some (objAt β bs j)
  | [], _, h => by cases h
  | q :: r, H, h => by
    unfold numFrom at h
    unfold mergeN
    rcases List.mem_cons.1 h with h | h
    · cases h
      rw [mergeN_old r _ (by simp only [Heap.next_new]; omega), Heap.get_new, if_pos rfl]
    · exact mergeN_new r (H.new (objAt β bs q)) (by simpa only [Heap.next_new] using h)

theorem mergeGam {ρ' : Ren} {w' : World} (g : Gam w0 ρ H w) (ok : CallOK μ H) (hp : ∀ p ∈ μ, Placed ρ p.1) (g' : Gam (P := P) ⟨w, μ.ren ρ⟩ ρ' (heapOf bs) w') (hnd : ((newsOf bs).map (·.1)).Nodup) :
    ∃ ρm, Gam w0 ρm (merged μ bs H) w' ∧ Ext ρ ρm H (merged μ bs H) ∧ ∀ v v', VR ρ' v v' → VR ρm (mapV (backMu μ H.next bs) 8 v) v' := by
  let news := (newsOf bs).map (·.1)
  let β := backMu μ H.next bs
  have place : ∀ {i j : Nat}, (i, j) ∈ μ → ∃ m, ρ i = some m := by
    intro i j hij
    rcases hp _ hij with h | h
    · have := (ok.lo _ _ hij).1; simp only at h; omega
    · exact h
  have ilt : ∀ {i j : Nat}, (i, j) ∈ μ → i < H.next := fun hij => let ⟨m, hm⟩ := place hij; g.lt hm
  have newge : ∀ j ∈ news, gbase ≤ j := by
    intro j hj
    obtain ⟨p, hp, rfl⟩ := List.mem_map.1 hj
    simpa using (List.mem_filter.1 hp).2
  have βmem : ∀ {j i : Nat}, (j, i) ∈ β → ((i, j) ∈ μ) ∨ (j, i) ∈ numFrom news H.next := by
    intro j i h
    rcases List.mem_append.1 h with h | h
    · obtain ⟨p, hp, e⟩ := List.mem_map.1 h
      cases e; exact .inl hp
    · exact .inr h
  have βS : MuS β := by
    refine ⟨?_, fun j i h hj => ?_⟩
    · show ((μ.map (fun p => (p.2, p.1)) ++ numFrom news H.next).map (·.2)).Nodup
      rw [List.map_append, List.map_map]
      refine List.nodup_append.2 ⟨ok.fst, numFrom_snd _ _, ?_⟩
      intro a ha b hb e
      subst e
      obtain ⟨p, hp1, rfl⟩ := List.mem_map.1 ha
      obtain ⟨q, hq, e⟩ := List.mem_map.1 hb
      obtain ⟨j, i⟩ := q
      have h1 := (numFrom_mem hq).2.1
      have h2 : p.1 < H.next := ilt (j := p.2) hp1
      simp only [Function.comp] at e
      omega
    · rcases βmem h with h | h
      · have := (ok.lo _ _ h).2.1; omega
      · have := newge j (numFrom_mem h).1
        unfold gbase at this; unfold abase at hj; omega
  let ρm : Ren := fun i => if i < H.next then ρ i else β.ren ρ' i
  have ρlt : ∀ {i : Nat}, i < H.next → ρm i = ρ i := fun h => if_pos h
  have ρge : ∀ {i : Nat}, ¬ i < H.next → ρm i = β.ren ρ' i := fun h => if_neg h
  -- what was handed lies where it lay
  have pinned : ∀ {i j : Nat} {m : Meta}, (i, j) ∈ μ → ρ' j = some m → ρ i = some m := by
    intro i j m hij hj
    have h1 := ok.lo _ _ hij
    have := g'.pins j m h1.2.1 h1.2.2 hj
    simp only at this
    rwa [Mu.ren_of ok.snd hij] at this
  have hle : (β.ren ρ').le ρm := by
    intro i m hm
    obtain ⟨j, hj, hr⟩ := Mu.ren_some hm
    rcases βmem hj with h | h
    · rw [ρlt (ilt h)]; exact pinned h hr
    · rw [ρge (by have := (numFrom_mem h).2.1; omega)]; exact hm
  have objR : ∀ {j : Nat} {m : Meta}, ρ' j = some m → ObjR ρm w' m (objAt β bs j) := by
    intro j m hj
    unfold objAt
    cases hg : (heapOf bs).get j with
    | none => trivial
    | some o =>
      simp only [Option.bind_some]
      cases hm : mapO β o with
      | none => trivial
      | some o2 => exact (mapO_S βS hm (g'.obj j m o hj hg)).1.mono hle (fun _ => rfl)
  have objA : ∀ {j : Nat}, (objAt β bs j).alive = true → (heapOf bs).live j := by
    intro j h
    unfold objAt at h
    cases hg : (heapOf bs).get j with
    | none => rw [hg] at h; cases h
    | some o =>
      rw [hg] at h
      simp only [Option.bind_some] at h
      cases hm : mapO β o with
      | none => rw [hm] at h; cases h
      | some o2 =>
        rw [hm] at h
        refine ⟨o, hg, ?_⟩
        by_cases hj : ∃ m, ρ' j = some m
        · obtain ⟨m, hj⟩ := hj
          rw [← (mapO_S βS hm (g'.obj j m o hj hg)).2]; exact h
        · refine mapO_alive hm (fun e => ?_)
          subst e; cases h
  have hnx : (merged μ bs H).next = H.next + news.length := by
    show (mergeN β bs news (mergeP β bs μ H)).next = _
    rw [mergeN_next, mergeP_next]
  have getOut : ∀ {i : Nat}, i < H.next → (∀ j, (i, j) ∈ μ → ¬ mbase ≤ j) → (merged μ bs H).get i = H.get i := by
    intro i hi h
    show (mergeN β bs news (mergeP β bs μ H)).get i = _
    rw [mergeN_old _ _ (by rw [mergeP_next]; exact hi), mergeP_out _ _ h]
  have getIn : ∀ {i j : Nat}, (i, j) ∈ μ → mbase ≤ j → (merged μ bs H).get i = some (objAt β bs j) := by
    intro i j hij hj
    show (mergeN β bs news (mergeP β bs μ H)).get i = _
    rw [mergeN_old _ _ (by rw [mergeP_next]; exact ilt hij), mergeP_in _ _ ok.fst hij hj]
  have getNew : ∀ {i j : Nat}, (j, i) ∈ numFrom news H.next → (merged μ bs H).get i = some (objAt β bs j) := by
    intro i j h
    exact mergeN_new _ _ (by rw [mergeP_next]; exact h)
  have newOf : ∀ {i : Nat} {m : Meta}, ¬ i < H.next → ρm i = some m → ∃ j, (j, i) ∈ numFrom news H.next ∧ ρ' j = some m ∧ gbase ≤ j := by
    intro i m hi hm
    rw [ρge hi] at hm
    obtain ⟨j, hj, hr⟩ := Mu.ren_some hm
    rcases βmem hj with h | h
    · exact absurd (ilt h) hi
    · exact ⟨j, h, hr, newge j (numFrom_mem h).1⟩
  -- what may have been written
  have mayOf : ∀ {k : Nat}, (Start.mk (P := P) w (μ.ren ρ)).may k → ∃ i j m, (i, j) ∈ μ ∧ mbase ≤ i ∧ mbase ≤ j ∧ ρ i = some m ∧ m.b = k ∧ H.live i := by
    rintro k ⟨j, m, h1, h2, h3, h4⟩
    obtain ⟨i, hij, hr⟩ := Mu.ren_some h3
    obtain ⟨o, _, ho, _, ha⟩ := ok.live _ _ hij
    exact ⟨i, j, m, hij, (ok.mb _ _ hij).2 h1, h1, hr, h4, o, ho, ha⟩
  have liveOld : ∀ {i : Nat}, i < H.next → (merged μ bs H).live i → H.live i ∧ ∀ j, (i, j) ∈ μ → mbase ≤ j → (heapOf bs).live j := by
    rintro i hi ⟨o, ho, ha⟩
    by_cases h : ∃ j, (i, j) ∈ μ ∧ mbase ≤ j
    · obtain ⟨j, hij, hj⟩ := h
      obtain ⟨o1, _, h1, _, h2⟩ := ok.live _ _ hij
      refine ⟨⟨o1, h1, h2⟩, fun j' hij' hj' => ?_⟩
      rw [getIn hij' hj'] at ho
      cases ho
      exact objA ha
    · rw [getOut hi (fun j hij hj => h ⟨j, hij, hj⟩)] at ho
      exact ⟨⟨o, ho, ha⟩, fun j hij hj => absurd ⟨j, hij, hj⟩ h⟩
  have hsz : w.heap.size ≤ w'.heap.size := g'.below.size
  refine ⟨ρm, ⟨by rw [hnx]; exact Nat.le_trans g.gb (Nat.le_add_right _ _), ?_, ?_, ?_, ?_, ?_, ?_, ?_, ?_, g.vars⟩, ⟨?_, by rw [hnx]; exact Nat.le_add_right _ _, ?_⟩, fun v v' hv => (mapV_S βS 8 v v' hv).mono hle⟩
  · -- fresh
    intro i hi
    rw [hnx] at hi
    cases hr : ρm i with
    | none => rfl
    | some m =>
      obtain ⟨j, hj, _⟩ := newOf (by omega) hr
      have := (numFrom_mem hj).2.2
      omega
  · -- below
    refine ⟨g'.below.os.trans g.below.os, g'.below.tape.trans g.below.tape, g'.below.output.trans g.below.output, Nat.le_trans g.below.size hsz, fun k hk hm => ?_⟩
    refine (g'.below.block k (Nat.lt_of_lt_of_le hk g.below.size) (fun hmay => ?_)).trans (g.below.block k hk hm)
    obtain ⟨i, j, m, hij, hi, hj, hr, rfl, _⟩ := mayOf hmay
    rcases Nat.lt_or_ge i gbase with hl | hl
    · exact hm ⟨i, m, hi, hl, g.pins i m (ok.lo _ _ hij).1 hl hr, rfl⟩
    · have := (g.own i m hr).2.1 hl
      omega
  · -- own
    intro i m hm
    by_cases hi : i < H.next
    · rw [ρlt hi] at hm
      have := g.own i m hm
      exact ⟨by omega, this.2⟩
    · obtain ⟨j, hj, hr, hge⟩ := newOf hi hm
      have := g'.own j m hr
      have h1 := this.2.1 hge
      simp only at h1
      have h2 := g.below.size
      have h3 := g.gb
      exact ⟨this.1, fun _ => by omega, fun h => by omega⟩
  · -- glob
    intro i m hm hi
    rw [ρlt (by have := g.gb; unfold gbase at this; unfold abase at hi; omega)] at hm
    exact g.glob i m hm hi
  · -- inj
    intro i j mi mj hgi hi hj ei ej hb
    by_cases h1 : i < H.next
    · rw [ρlt h1] at ei
      by_cases h2 : j < H.next
      · rw [ρlt h2] at ej
        exact g.inj i j mi mj hgi (liveOld h1 hi).1 (liveOld h2 hj).1 ei ej hb
      · obtain ⟨q, hq, hr, hge⟩ := newOf h2 ej
        have a1 := (g.own i mi ei).1
        have a2 := (g'.own q mj hr).2.1 hge
        simp only at a2
        omega
    · obtain ⟨p, hp1, hr1, hge1⟩ := newOf h1 ei
      by_cases h2 : j < H.next
      · rw [ρlt h2] at ej
        have a1 := (g.own j mj ej).1
        have a2 := (g'.own p mi hr1).2.1 hge1
        simp only at a2
        omega
      · obtain ⟨q, hq, hr2, hge2⟩ := newOf h2 ej
        obtain ⟨oi, hoi, hai⟩ := hi
        obtain ⟨oj, hoj, haj⟩ := hj
        rw [getNew hp1] at hoi
        rw [getNew hq] at hoj
        cases hoi
        cases hoj
        have := g'.inj p q mi mj (mb_of hge1) (objA hai) (objA haj) hr1 hr2 hb
        subst this
        have hnf : ((numFrom news H.next).map (·.1)).Nodup := by rw [numFrom_fst]; exact hnd
        have := nodup_inj hnf hp1 hq rfl
        cases this
        rfl
  · -- objects
    intro i m o hm ho
    by_cases hi : i < H.next
    · rw [ρlt hi] at hm
      by_cases h : ∃ j, (i, j) ∈ μ ∧ mbase ≤ j
      · obtain ⟨j, hij, hj⟩ := h
        rw [getIn hij hj] at ho
        cases ho
        cases hg : (heapOf bs).get j with
        | none => unfold objAt; rw [hg]; trivial
        | some ob =>
          obtain ⟨m', hm'⟩ := g'.gmap j (.inr ⟨hj, (ok.lo _ _ hij).2.2⟩) (by rw [hg]; simp)
          have := pinned hij hm'
          rw [hm] at this
          cases this
          exact objR hm'
      · have hout : ∀ j, (i, j) ∈ μ → ¬ mbase ≤ j := fun j hij hj => h ⟨j, hij, hj⟩
        rw [getOut hi hout] at ho
        refine (g.obj i m o hm ho).mono (fun q n hq => by rw [ρlt (g.lt hq)]; exact hq) (fun hal => ?_)
        refine g'.below.block m.b (g.own i m hm).1 (fun hmay => ?_)
        obtain ⟨i2, j2, m2, hij2, hi2, hj2, hr2, hb2, hl2⟩ := mayOf hmay
        have := g.inj i2 i m2 m hi2 hl2 ⟨o, ho, hal⟩ hr2 hm hb2
        subst this
        exact hout _ hij2 hj2
    · obtain ⟨j, hj, hr, _⟩ := newOf hi hm
      rw [getNew hj] at ho
      cases ho
      exact objR hr
  · -- gmap
    intro i hi hn
    have hlt : i < H.next := by
      have := g.gb
      rcases hi with h | h
      · unfold gbase at this; unfold abase at h; omega
      · omega
    rw [ρlt hlt]
    by_cases h : ∃ j, (i, j) ∈ μ ∧ mbase ≤ j
    · obtain ⟨j, hij, _⟩ := h
      exact place hij
    · rw [getOut hlt (fun j hij hj => h ⟨j, hij, hj⟩)] at hn
      exact g.gmap i hi hn
  · -- pins
    intro i m ha hi hm
    rw [ρlt (by have := g.gb; omega)] at hm
    exact g.pins i m ha hi hm
  · -- le
    intro i m hm
    rw [ρlt (g.lt hm)]; exact hm
  · -- keep
    intro i hi hn
    refine ⟨by rw [ρlt hi]; exact hn, getOut hi (fun j hij _ => ?_)⟩
    obtain ⟨m, hm⟩ := place hij
    rw [hn] at hm; cases hm

theorem wpState_call {sp : SpecS} {f : FuncId} (hs : ∀ args bs K, sp args bs K → CallS P f args bs K) {args : Array Value} {k : Value → Heap → Prop} (hk : wpState sp args H k) : CallH P f args H k := by
  intro w0 ρ w args' n g ha
  unfold wpState at hk
  obtain ⟨hgood, hk⟩ := bcase_out hk
  have ok := callGood_ok hgood
  have hp : ∀ p ∈ callMu args.toList H, Placed ρ p.1 := reachC_placed g _ _ _ _ _ (LR.placed (blocksV_placed 8) ha) (fun p hp => by cases hp)
  have gC := callGam g ok hp
  refine (hs _ _ _ hk ⟨w, (callMu args.toList H).ren ρ⟩ _ w args' n gC (LR.map_S ok.toS ha)).mono ?_
  rintro e w' ⟨v, bs, ρ', v', hK, rfl, hv, g'⟩
  obtain ⟨hnd, hK⟩ := bcase_out hK
  obtain ⟨ρm, gm, ext, hvr⟩ := mergeGam g ok hp g' (nodupB_spec hnd)
  exact ⟨_, _, ρm, v', hK, rfl, hvr _ _ hv, gm, ext⟩
end Go.Abs

/- State contracts: a function whose body has been walked. -/
namespace Go.Abs
open Go.RowKit
variable {P : Program} {ρ : Ren} {w0 : Start P} {w : World} {H : Heap} {h : Handler} {L : AtLoop}

theorem stateK_out (g : Gam w0 ρ H w) {v v' : Value} (hv : VR ρ v v') {K : Value → Blocks → Prop} (hk : stateK K v H) : ∃ v2 bs ρ2, K v2 bs ∧ VR ρ2 v2 v' ∧ Gam w0 ρ2 (heapOf bs) w := by
  unfold stateK at hk
  obtain ⟨hgood, hk⟩ := bcase_out hk
  let A : AAct := ⟨.leaf, 0, []⟩
  let a : Act := ⟨#[], []⟩
  have ra : ActR ρ A a := ⟨rfl, fun t => by
    have e1 : A.slot t = undef := rfl
    have e2 : a.tmps.getD t undef = undef := rfl
    rw [e1, e2]; exact VR.undef _, ⟨rfl, fun j D e => by simp [A] at e⟩⟩
  obtain ⟨g2, _⟩ := gc_sub g ra rfl (keep := []) hgood
  exact ⟨_, _, _, hk, mapV_VR (gcGood_ok hgood) 8 _ _ hv, g2⟩

/-- A loop of a function, whatever its end is. -/
structure LoopGoodF (P : Program) (h : Handler) (L : AtLoop) (f : FuncId) (c : Code) (lv : Lv) (id : Nat) (F : Value → Heap → Prop) (X : Type) (st : X → Slots × Blocks) (inv : X → Prop) (m : X → Nat) : Prop where
  head : ∀ s b, L id s b → ∃ x, inv x ∧ st x = (s, b)
  flat : ((findLoop c lv id).map fun r => loopIds r.1) = some []
  round : ∀ x, inv x → wpRound P h L f id (st x).1 (st x).2 (fun s b => ∃ y, inv y ∧ m y < m x ∧ st y = (s, b))
    (fun i s b => if i = id then wpNext P h L f id .normal s b F else wpNext P h L f id (.exit i) s b F) F

theorem loopsOK_good (hh : HandlerOK P h) (hmix : P.follows .mixedOrders = true) {f : FuncId} {fn : Func} {c : Code} (hf : P.funcs[f]? = some fn) (hc : fn.body = some c) {F : Value → Heap → Prop} {ids : List Nat} (hids : loopIds c = ids) (hn : nodupB ids = true)
    (hl : ∀ id ∈ ids, ∃ X st inv m, LoopGoodF P h L f c (fnLv fn) id F X st inv m) : loopsOK P h L (fnSize fn) c (fnLv fn) (fnK P fn F) := by
  subst hids
  refine loopsOK_of c hn ?_
  intro id body l' hfl s bl hs
  obtain ⟨X, st, inv, m, hg⟩ := hl id (findLoop_ids c _ id hfl)
  obtain ⟨x, hx, he⟩ := hg.head s bl hs
  have e1 : (st x).1 = s := congrArg Prod.fst he
  have e2 : (st x).2 = bl := congrArg Prod.snd he
  have hin : loopIds body = [] := by have := hg.flat; rw [hfl] at this; simpa using this
  have := loop_rule (P := P) (h := h) (L := L) (sz := fnSize fn) hh hmix st inv m (id := id) (body := body) (l' := l') (k := fun e A H => wpAfter P h L c (fnLv fn) id e A H (fnK P fn F)) (R := fnK P fn F) hin
    (fun x hx => by
      have := hg.round x hx
      unfold wpRound at this
      simp only [hf, hc, hfl] at this
      have e : ∀ i s b, (if i = id then wpNext P h L f id .normal s b F else wpNext P h L f id (.exit i) s b F) = (if i = id then wpAfter P h L c (fnLv fn) id .normal (actOf (fnSize fn) s) (heapOf b) (fnK P fn F) else wpAfter P h L c (fnLv fn) id (.exit i) (actOf (fnSize fn) s) (heapOf b) (fnK P fn F)) := by
        intro i s b
        simp only [wpNext, hf, hc]
      simpa only [e] using this)
    (fun e A H he hR => by subst he; exact wpAfter_ret c (by rw [hfl]; rfl) hR)
    (fun e A H h1 h2 hR => by cases e <;> first | exact h1 rfl | exact h2 rfl | exact hR)
    x hx
  rw [e1, e2] at this
  exact this

/-- A FUNCTION IS PROVED, by what it does to the blocks that it reaches. -/
theorem callS_ofG (hh : HandlerOK P h) (hmix : P.follows .mixedOrders = true) {f : FuncId} {fn : Func} {c : Code} (hf : P.funcs[f]? = some fn) (hc : fn.body = some c) {args : List Value} {bs : Blocks} {K : Value → Blocks → Prop} (hsz2 : max args.toArray.size fn.ntmps = fnSize fn) {ids : List Nat} (hids : loopIds c = ids) (hn : nodupB ids = true)
    (hk : wpFn P h L 0 f args.toArray (heapOf bs) (stateK K))
    (hl : ∀ id ∈ ids, ∃ X st inv m, LoopGoodF P h L f c (fnLv fn) id (stateK K) X st inv m) : CallS P f args bs K := by
  intro w0 ρ w args' n g ha
  refine (wpFn_run (u := 0) (b := false) hh hmix (fun _ => rfl) hf hc hk (fun _ => by rw [hsz2]; exact loopsOK_good hh hmix hf hc hids hn hl) g n (by simpa using ha)).mono ?_
  rintro e w' ⟨v, H', ρ', v', hkv, rfl, hv, g', _⟩
  obtain ⟨v2, bs', ρ2, h1, h2, h3⟩ := stateK_out g' hv hkv
  exact ⟨v2, bs', ρ2, v', h1, rfl, h2, h3⟩
end Go.Abs

/- Handlers by a table hold if each entry does. -/
namespace Go.Abs
open Go.RowKit
variable {P : Program}
theorem saidH_ok {C : FuncId → List D → List D → Prop} (hC : ∀ f ds rs, C f ds rs → Con P f ds rs) : HandlerOK P (saidH P C) := by
  intro g args ats H k hk
  unfold saidH at hk
  split at hk
  · exact wpSaid_call hC hk
  · exact hk.elim
theorem fixH_ok {C : FuncId → List D → List D → Prop} (hC : ∀ f ds rs, C f ds rs → Con P f ds rs) {fix : List D → Option (List D)} : HandlerOK P (fixH C fix) := fun _ _ _ _ _ hk => wpFix_call hC hk
/-- (a state contract speaks of one function) -/
def PreOK (P : Program) (pre : FuncId → Option Handler) : Prop := ∀ g h, pre g = some h → ∀ args ats H k, h g args ats H k → CallH P g args H k
theorem handlerX_ok (hmix : P.follows .mixedOrders = true) {pre : FuncId → Option Handler} (hp : PreOK P pre) {u : Nat} (hu : u ≠ 0) : ∀ n, HandlerOK P (handlerX P pre u n)
  | 0 => fun _ _ _ _ _ h => h.elim
  | n + 1 => fun g args ats H k hk => by
    simp only [handlerX] at hk
    split at hk
    · rename_i h he
      exact hp g h he args ats H k hk
    · exact wpFn_call (handlerX_ok hmix hp hu n) hmix hu hk
theorem limC_of {g : FuncId} {lo hi e : Int} {n es : Nat} {cs : List Value} (h : e = limE lo hi cs) : limC g [.val (.int .i64 lo), .val (.int .i64 hi), .sl n es cs] [.val (.int .i64 e)] := h
theorem limC_out {g : FuncId} {lo hi e : Int} {n es : Nat} {cs : List Value} (h : Says limC g [.val (.int .i64 lo), .val (.int .i64 hi), .sl n es cs] [.val (.int .i64 e)]) : e = limE lo hi cs := h.out
theorem falseH_ok : HandlerOK P (fun _ _ _ _ _ => False) := fun _ _ _ _ _ h => h.elim
/-- A function whose loops are walked round by round. -/
theorem callS_walk {h : Handler} (hh : HandlerOK P h) (hmix : P.follows .mixedOrders = true) {u : Nat} (hu : u ≠ 0) {f : FuncId} {fn : Func} {c : Code} (hf : P.funcs[f]? = some fn) (hc : fn.body = some c) {args : List Value} {bs : Blocks} {K : Value → Blocks → Prop}
    (hk : wpFn P h (fun _ _ _ => False) u f args.toArray (heapOf bs) (stateK K)) : CallS P f args bs K := by
  intro w0 ρ w args' n g ha
  refine (wpFn_run (u := u) (b := false) hh hmix (fun h0 => absurd h0 hu) hf hc hk (fun h0 => absurd h0 hu) g n (by simpa using ha)).mono ?_
  rintro e w' ⟨v, H', ρ', v', hkv, rfl, hv, g', _⟩
  obtain ⟨v2, bs', ρ2, h1, h2, h3⟩ := stateK_out g' hv hkv
  exact ⟨v2, bs', ρ2, v', h1, rfl, h2, h3⟩
/-- The same, with data. -/
theorem con_walk {h : Handler} (hh : HandlerOK P h) (hmix : P.follows .mixedOrders = true) {u : Nat} (hu : u ≠ 0) {f : FuncId} {fn : Func} {c : Code} (hf : P.funcs[f]? = some fn) (hc : fn.body = some c) {ds rs : List D} (hcount : countV ds ≤ 400)
    (hk : ∀ caps, wpFn P h (fun _ _ _ => False) u f (layVals caps 500 ds).1.toArray (heapOf (layVals caps 500 ds).2) (dataK (· = rs))) : Con P f ds rs := by
  intro w args hgood hr
  obtain ⟨caps, ρ, hst, g, ha⟩ := lay_gam hgood hr hcount
  refine callsIn_wide.1 ((wpFn_run (u := u) (b := false) hh hmix (fun h0 => absurd h0 hu) hf hc (hk caps) (fun h0 => absurd h0 hu) g 0 (by simpa using ha)).mono ?_)
  rintro e w' ⟨v, H', ρ', v', hkv, rfl, hv, g', _⟩
  obtain ⟨vs, ds', u, rfl, h1, rfl⟩ := dataK_out g' hv hkv
  exact ⟨⟨vs, u, rfl, h1⟩, g'.below.below hst⟩
theorem callS_mono {f : FuncId} {args : List Value} {bs : Blocks} {K K' : Value → Blocks → Prop} (h : CallS P f args bs K) (hk : ∀ v b, K v b → K' v b) : CallS P f args bs K' := by
  intro w0 ρ w args' n g ha
  refine (h w0 ρ w args' n g ha).mono ?_
  rintro e w' ⟨v2, bs', ρ2, v', h1, h2, h3, h4⟩
  exact ⟨v2, bs', ρ2, v', hk _ _ h1, h2, h3, h4⟩
abbrev limBs (ti : TypeId) (cs : List Value) (lo hi : Int) : Blocks := [(900, .cells cs ti false 1), (901, .cells [.int .i64 lo] ti false 1), (902, .cells [.int .i64 hi] ti false 1)]
abbrev limArgs (n cap : Nat) : List Value := [.slice (some ⟨900, 0, none⟩) n cap, .pointer (some ⟨901, 0, none⟩), .pointer (some ⟨902, 0, none⟩)]
/-- What is left to show of the function that limit returns. -/
def limGoal (P : Program) (f : FuncId) (ti : TypeId) (n : Nat) (cs : List Value) (cap : Nat) (lo hi : Int) (K : Value → Blocks → Prop) : Prop :=
  wpFn P (fun _ _ _ _ _ => False) (fun _ _ _ => False) 6 f (limArgs n cap).toArray (heapOf (limBs ti cs lo hi)) (stateK K)
structure LimGood (P : Program) (f : FuncId) (ti : TypeId) : Prop where
  mix : P.follows .mixedOrders = true
  fn : ∃ fn c, P.funcs[f]? = some fn ∧ fn.body = some c
  one : ∀ cap lo hi x, limGoal P f ti 1 [.int .i64 x] cap lo hi (fun v b => v = .int .i64 (limE lo hi [.int .i64 x]) ∧ b = limBs ti [.int .i64 x] lo hi)
  two : ∀ cap lo hi x y, limGoal P f ti 2 [.int .i64 x, .int .i64 y] cap lo hi (fun v b => v = .int .i64 (limE lo hi [.int .i64 x, .int .i64 y]) ∧ b = limBs ti [.int .i64 x, .int .i64 y] lo hi)
  three : ∀ cap lo hi x y z, limGoal P f ti 3 [.int .i64 x, .int .i64 y, .int .i64 z] cap lo hi (fun v b => v = .int .i64 (limE lo hi [.int .i64 x, .int .i64 y, .int .i64 z]) ∧ b = limBs ti [.int .i64 x, .int .i64 y, .int .i64 z] lo hi)
  four : ∀ cap lo hi x y z u, limGoal P f ti 4 [.int .i64 x, .int .i64 y, .int .i64 z, .int .i64 u] cap lo hi (fun v b => v = .int .i64 (limE lo hi [.int .i64 x, .int .i64 y, .int .i64 z, .int .i64 u]) ∧ b = limBs ti [.int .i64 x, .int .i64 y, .int .i64 z, .int .i64 u] lo hi)
theorem lim_ok {f : FuncId} {ti : TypeId} (g : LimGood P f ti) {args : List Value} {bs : Blocks} {K : Value → Blocks → Prop} (hk : limAll ti args bs K) : CallS P f args bs K := by
  obtain ⟨fn, c, hf, hc⟩ := g.fn
  have run : ∀ {n : Nat} {cs : List Value} {cap : Nat} {lo hi : Int}, limGoal P f ti n cs cap lo hi (fun v b => v = .int .i64 (limE lo hi cs) ∧ b = limBs ti cs lo hi) → limOut lo hi cs (limBs ti cs lo hi) K → CallS P f (limArgs n cap) (limBs ti cs lo hi) K := by
    intro n cs cap lo hi h1 h2
    refine callS_mono (callS_walk falseH_ok g.mix (by decide) hf hc h1) ?_
    rintro v b ⟨rfl, rfl⟩
    obtain ⟨e, he, hK⟩ := h2
    rw [← limC_out he]; exact hK
  unfold limAll at hk
  split at hk
  · unfold limSpec at hk
    split at hk
    · rename_i e2
      split at hk
      · rename_i hc
        simp only [Bool.and_eq_true, beq_iff_eq] at hc
        obtain ⟨⟨⟨⟨⟨⟨⟨⟨⟨⟨⟨⟨⟨⟨⟨⟨rfl, rfl⟩, rfl⟩, rfl⟩, rfl⟩, rfl⟩, rfl⟩, rfl⟩, rfl⟩, rfl⟩, rfl⟩, rfl⟩, rfl⟩, rfl⟩, rfl⟩, hm⟩, hl⟩ := hc
        rw [e2]
        split at hk
        · subst hm; exact run (g.one _ _ _ _) hk
        · subst hm; exact run (g.two _ _ _ _ _) hk
        · subst hm; exact run (g.three _ _ _ _ _ _) hk
        · subst hm; exact run (g.four _ _ _ _ _ _ _) hk
        · exact hk.elim
      · exact hk.elim
    · exact hk.elim
  · exact hk.elim
end Go.Abs

/- Pairs of whole numbers as cells. -/
namespace Go.Abs
theorem bc_t {p : Prop} [Decidable p] {x y : Prop} (h : p) : bcase (decide p) x y = x := by rw [decide_eq_true h]; rfl
theorem bc_f {p : Prop} [Decidable p] {x y : Prop} (h : ¬ p) : bcase (decide p) x y = y := by rw [decide_eq_false h]; rfl
/-- pairs of whole numbers as cells -/
def vp : List (Int × Int) → List Value
  | [] => []
  | p :: r => .int .i64 p.1 :: .int .i64 p.2 :: vp r
@[simp] theorem vp_length : ∀ l : List (Int × Int), (vp l).length = l.length * 2
  | [] => rfl
  | p :: r => by simp only [vp, List.length_cons, vp_length r]; omega
theorem vp_drop : ∀ (l : List (Int × Int)) (i : Nat), (vp l).drop (i * 2) = vp (l.drop i)
  | l, 0 => by simp
  | [], i + 1 => by simp [vp]
  | p :: r, i + 1 => by
    rw [Nat.add_mul]
    simp only [vp, Nat.one_mul, List.drop_succ_cons]
    exact vp_drop r i
theorem vp_two (l : List (Int × Int)) (i : Nat) (h : i < l.length) : At (vp l) (0 + i * 2) 2 [.int .i64 l[i].1, .int .i64 l[i].2] := by
  refine ⟨by rw [vp_length]; omega, ?_⟩
  rw [Nat.zero_add, vp_drop, List.drop_eq_getElem_cons h]
  rfl
theorem vp_one (l : List (Int × Int)) (i : Nat) (h : i < l.length) : At (vp l) (0 + i * 2) 1 [.int .i64 l[i].1] := by
  refine ⟨by rw [vp_length]; omega, ?_⟩
  rw [Nat.zero_add, vp_drop, List.drop_eq_getElem_cons h]
  rfl
theorem vp_snd (l : List (Int × Int)) (i : Nat) (h : i < l.length) : At (vp l) (0 + i * 2 + 1) 1 [.int .i64 l[i].2] := by
  refine ⟨by rw [vp_length]; omega, ?_⟩
  rw [Nat.zero_add, ← List.drop_drop, vp_drop, List.drop_eq_getElem_cons h]
  rfl
theorem vp_whole (l : List (Int × Int)) : List.take (l.length * 2) (List.drop 0 (vp l)) = vp l := by simp [List.take_of_length_le]
theorem load2 {ps : List Value} {k : Nat} {a b : Int} (h : At ps k 2 [.int .i64 a, .int .i64 b]) : (∃ n5 : Int, ∃ n6 : Int, At ps k 2 [.int .i64 n5, .int .i64 n6] ∧ (Value.agg [.int .i64 n5, .int .i64 n6].toArray = Value.agg [.int .i64 a, .int .i64 b].toArray)) = True :=
  eq_true ⟨a, b, h, rfl⟩
theorem bc_n {a b : Int} {x y : Prop} (h : a ≠ b) : bcase (a != b) x y = x := by rw [show (a != b) = true by simpa using h]; rfl
/-- what is loaded is what is there -/
theorem at1 {l : List Value} {k : Nat} {a : Int} (h : At l k 1 [.int .i64 a]) {Q : Int → Prop} : (∃ n : Int, At l k 1 [.int .i64 n] ∧ Q n) = Q a := by
  apply propext
  constructor
  · rintro ⟨n, hn, hq⟩
    have e := hn.eq.symm.trans h.eq
    simp only [List.cons.injEq, Value.int.injEq, true_and, and_true] at e
    rw [← e]; exact hq
  · intro hq; exact ⟨a, h, hq⟩
theorem at2 {l : List Value} {k : Nat} {a b : Int} (h : At l k 2 [.int .i64 a, .int .i64 b]) {Q : Int → Int → Prop} : (∃ n : Int, ∃ m : Int, At l k 2 [.int .i64 n, .int .i64 m] ∧ Q n m) = Q a b := by
  apply propext
  constructor
  · rintro ⟨n, m, hn, hq⟩
    have e := hn.eq.symm.trans h.eq
    simp only [List.cons.injEq, Value.int.injEq, true_and, and_true] at e
    obtain ⟨rfl, rfl⟩ := e; exact hq
  · intro hq; exact ⟨a, b, h, hq⟩
theorem vp_sndA (l : List (Int × Int)) (i : Nat) (h : i < l.length) (b : Nat) : At (vp l) (Addr.off ⟨b, 0 + i * 2, none⟩ + 1) 1 [.int .i64 l[i].2] := vp_snd l i h
abbrev dI (n : Int) : D := .val (.int .i64 n)
/-- the first number that is not naught -/
def fst0 : List Int → Int
  | [] => 0
  | p :: r => if p = 0 then fst0 r else p
theorem fst0_two (a b : Int) : fst0 [a, b] = if a = 0 then b else a := by
  simp only [fst0]
  split
  · split
    · omega
    · rfl
  · rfl
end Go.Abs

/- The closure that limit(lo, hi) returns, handed a list of numbers of any length. -/
namespace Go.Abs
def limL (ti : TypeId) : SpecS := fun args bs K =>
  match args, bs with
  | [.slice (some ⟨i, 0, none⟩) m _, .pointer (some ⟨a, 0, none⟩), .pointer (some ⟨b, 0, none⟩)], [(i', .sym cs opn es), (a', .cells [.int .i64 lo] t2 o2 es2), (b', .cells [.int .i64 hi] t3 o3 es3)] =>
    if (i == 500 && i' == 500 && a == 900 && a' == 900 && b == 901 && b' == 901 && t2 == ti && t3 == ti && opn == false && o2 == false && o3 == false && es == 1 && es2 == 1 && es3 == 1) = true then
      ∃ l : List Int, cs = l.map (Value.int .i64) ∧ m = l.length ∧ l.length < 1000000000 ∧ ∃ e : Int, Says limC 0 [.val (.int .i64 lo), .val (.int .i64 hi), .sl m 1 cs] [.val (.int .i64 e)] ∧ K (.int .i64 e) [(900, .cells [.int .i64 lo] t2 o2 es2), (901, .cells [.int .i64 hi] t3 o3 es3)]
    else False
  | _, _ => limAll ti args bs K
/-- numbers that are no temperatures far off -/
structure GoodNums (l : List Int) : Prop where
  all : ∀ z ∈ l, 0 ≤ z ∧ z ≤ 100000
end Go.Abs

/- Chapter 4: what a rule, a table and a coil mean, in numbers; how slices.MinFunc is met with the losses of a coil. -/
namespace Go.Abs.MD
/-- the error of a temperature, of a value -/
def xErr (a : Int) : Int := if 0 ≤ a ∧ a ≤ 20000 then 0 else 2
def vErr (a : Int) : Int := if 1 ≤ a ∧ a ≤ 100000 then 0 else 2
/-- a table's check: what is left of it, the knot before, the index -/
def tchk : List (Int × Int) → Option (Int × Int) → Int → Int × Int
  | [], _, _ => (0, 0)
  | p :: r, q, i => if xErr p.1 = 0 ∧ vErr p.2 = 0 then (match q with
    | none => tchk r (some p) (i + 1)
    | some q => if p.1 ≤ q.1 then (i, 9) else tchk r (some p) (i + 1)) else (i, 2)
def prev (ps : List (Int × Int)) : Nat → Option (Int × Int)
  | 0 => none
  | j + 1 => ps[j]?
/-- the index and the error of a table -/
def tab (ps : List (Int × Int)) : Int × Int := if ps.length = 0 then (0, 10) else if 12 < ps.length then (0, 8) else tchk ps none 0
/-- between two knots -/
def line (p q : Int × Int) (x : Int) : Int := (p.2 * (q.1 - x) + q.2 * (x - p.1)) / (q.1 - p.1)
def valGo (x : Int) : Int × Int → List (Int × Int) → Int
  | p, [] => p.2
  | p, q :: r => if x ≤ q.1 then line p q x else valGo x q r
/-- the value of a table -/
def valV (x : Int) : List (Int × Int) → Int
  | [] => 0
  | p :: r => if x ≤ p.1 then p.2 else valGo x p r
/-- the gain at a step: its Num; its Den -/
def gN (a b c d : Int) (s : Int) : Int := a * d + s * c * b
def gD (b d : Int) : Int := b * d
def ab (x : Int) : Int := if x < 0 then -x else x
/-- the loss at a step, over the Den of all gains -/
def loss (T : List (Int × Int)) (a b c d : Int) : List (Int × Int) → Int → Int
  | [], _ => 0
  | p :: r, s => ab (valV p.1 T * gN a b c d s - p.2 * gD b d) + loss T a b c d r s
/-- the first one with the minimum -/
def bestF (f : Int → Int) : Int → List Int → Int
  | m, [] => m
  | m, y :: r => bestF f (if f y < f m then y else m) r
def best (f : Int → Int) : List Int → Int
  | [] => 0
  | x :: r => bestF f x r
def prs : List (Int × Int) → List Value
  | [] => []
  | p :: r => .int .i64 p.1 :: .int .i64 p.2 :: prs r
/-- rules without an error -/
structure RulOK (T : List (Int × Int)) (a b c d e : Int) : Prop where
  tabz : (tab T).2 = 0
  az : 1 ≤ a ∧ a ≤ 900
  bz : 1 ≤ b ∧ b ≤ 900
  cz : 1 ≤ c ∧ c ≤ 900
  dz : 1 ≤ d ∧ d ≤ 900
  ez : 0 ≤ e ∧ e ≤ 900
/-- readings without an error -/
structure ReadOK (R : List (Int × Int)) : Prop where
  len : R.length ≤ 12
  all : ∀ p ∈ R, (0 ≤ p.1 ∧ p.1 ≤ 20000) ∧ 0 ≤ p.2 ∧ p.2 ≤ 100000
end Go.Abs.MD
namespace Go.Abs
open Go.Abs.MD
structure GoodIn (T R : List (Int × Int)) (a b c d e : Int) (l : List Int) : Prop where
  rul : RulOK T a b c d e
  rd : ReadOK R
  pos : 0 < l.length
  few : l.length ≤ 1000
  all : ∀ s ∈ l, 0 ≤ s ∧ s ≤ e
structure GoodMin (T R : List (Int × Int)) (a b c d : Int) (l : List Int) (r : Int) : Prop where
  eq : r = best (loss T a b c d R) l
/-- slices.MinFunc over steps, by the losses of a coil -/
def minP (bf : FuncId) (tg tc : TypeId) : SpecS := fun args bs K =>
  match args, bs with
  | [.slice (some ⟨i, 0, none⟩) m _, .func (.func f) g h], [(i', .sym cs o1 e1), (j', .cells gs t2 o2 e2), (k', .cells ks t3 o3 e3), (p', .sym ts o4 e4), (q', .sym rs o5 e5)] =>
    match h.toList, gs, ks with
    | [.pointer (some ⟨j, 0, none⟩), .pointer (some ⟨k, 0, none⟩)], [.slice (some ⟨p, 0, none⟩) n0 _, .int .i64 a, .int .i64 b, .int .i64 c, .int .i64 d, .int .i64 e], [.string _, .slice (some ⟨q, 0, none⟩) n1 _] =>
      if (f == bf && g.size == 0 && i == 900 && i' == 900 && j == 901 && j' == 901 && k == 902 && k' == 902 && p == 500 && p' == 500 && q == 501 && q' == 501 && o1 == true && e1 == 1 && t2 == tg && o2 == false && e2 == 1 && t3 == tc && o3 == false && e3 == 1 && o4 == false && e4 == 2 && o5 == false && e5 == 2) = true then
        ∃ (T R : List (Int × Int)) (l : List Int) (r : Int), ts = prs T ∧ n0 = T.length ∧ rs = prs R ∧ n1 = R.length ∧ cs = l.map (Value.int .i64) ∧ m = l.length ∧ GoodIn T R a b c d e l ∧ GoodMin T R a b c d l r ∧ K (.int .i64 r) [(900, .sym cs true 1), (901, .cells gs t2 o2 e2), (902, .cells ks t3 o3 e3), (500, .sym ts false 2), (501, .sym rs false 2)]
      else False
    | _, _, _ => False
  | _, _ => False
def copyMR : List D → Option (List D)
  | [.agg [.nil, a, b, c, d, e]] => some [.agg [.sl 0 2 [], a, b, c, d, e]]
  | [.agg [.sl n es cs, a, b, c, d, e]] => some [.agg [.sl n es cs, a, b, c, d, e]]
  | _ => none
def copyMC : List D → Option (List D)
  | [.agg [a, .nil]] => some [.agg [a, .sl 0 2 []]]
  | [.agg [a, .sl n es cs]] => some [.agg [a, .sl n es cs]]
  | _ => none
end Go.Abs

/- Short names for what stands often in printed texts. -/
namespace Go.Abs
abbrev Pt (b o : Nat) : Value := .pointer (some ⟨b, o, none⟩)
abbrev Sl (b n c : Nat) : Value := .slice (some ⟨b, 0, none⟩) n c
abbrev Qv {α : Type} (x : α) : Prop := x = x
end Go.Abs
