/- Texts of the proof, put together: AbsFrame, AbsState, AbsJ3, Gf7T1, AbsSame, AbsX, AbsPairs, Gf7W, Gf7T2, AbsTab, AbsNum, AbsLow, G7H, Gf7C, Gf7K0, Gf7H, Gf7I, Gf7J. -/
import Derived.Test.YtpjfmeijfkbfaaaP3
import Derived.Test.YtpjfmeijfkbfaaaProg
import Derived.Test.YtpjfmeijfkbfaaaRows
import Derived.Handed
import Derived.JoinedCond
/- A call that is met by what it does to the blocks that it reaches: it is sound. -/
namespace Go.Abs
open Go.RowKit
variable {P : Program} {ρ : Ren} {w0 : Start} {w : World} {H : Heap}

/-- A call, by the blocks that its arguments reach. -/
def CallS (P : Program) (f : FuncId) (args : List Value) (bs : Blocks) (K : Value → Blocks → Prop) : Prop :=
  ∀ (w0 : Start) (ρ : Ren) (w : World) (args' : Array Value) (n : Nat), Gam w0 ρ (heapOf bs) w → LR ρ args args'.toList →
    CallsIn Fence.wide n P f args' w fun e w' => ∃ v bs' ρ' v', K v bs' ∧ e = .returned v' ∧ VR ρ' v v' ∧ Gam w0 ρ' (heapOf bs') w'

/-! ### Renaming, once more (numbers change anyhow; the globals stay) -/
structure MuS (μ : Mu) : Prop where
  snd : (μ.map (·.2)).Nodup
  glb : ∀ i j, (i, j) ∈ μ → i < abase → j = i
variable {μ : Mu}
theorem mapV_S (ok : MuS μ) : ∀ (n : Nat) (v v' : Value), VR ρ v v' → VR (μ.ren ρ) (mapV μ n v) v'
  | 0, v, v', _ => .unknown _ _
  | n + 1, v, v', h => by
    have ih := mapV_S ok n
    cases h with
    | bool b => exact .bool b
    | int k n => exact .int k n
    | float k n => exact .float k n
    | complex k n m => exact .complex k n m
    | string s => exact .string s
    | nilFunc => exact .nilFunc
    | nilIface => exact .nilIface
    | nilPtr => exact .nilPtr
    | nilSlice l c => exact .nilSlice l c
    | nilMap => exact .nilMap
    | unknown r v => unfold mapV; exact .unknown _ _
    | glob g k hg =>
      simp only [mapV]
      cases hm : μ.find g with
      | none => exact .unknown _ _
      | some j =>
        have hj : j = g := ok.glb _ _ (Mu.find_mem hm) hg
        subst hj
        exact .glob _ k hg
    | ptr i k m hm =>
      simp only [mapV]
      cases hf : μ.find i with
      | none => exact .unknown _ _
      | some j => exact .ptr j k m (by rw [Mu.ren_of ok.snd (Mu.find_mem hf)]; exact hm)
    | map i m hm =>
      simp only [mapV]
      cases hf : μ.find i with
      | none => exact .unknown _ _
      | some j => exact .map j m (by rw [Mu.ren_of ok.snd (Mu.find_mem hf)]; exact hm)
    | slice i k len cap m hm ho hl =>
      simp only [mapV]
      cases hf : μ.find i with
      | none => exact .unknown _ _
      | some j => exact .slice j k len cap m (by rw [Mu.ren_of ok.snd (Mu.find_mem hf)]; exact hm) ho hl
    | opened i k len cap capC m hm ho hc hs hl =>
      simp only [mapV]
      cases hf : μ.find i with
      | none => exact .unknown _ _
      | some j => exact .opened j k len cap capC m (by rw [Mu.ren_of ok.snd (Mu.find_mem hf)]; exact hm) ho hc hs hl
    | empty i k off m hm ho hz =>
      simp only [mapV]
      cases hf : μ.find i with
      | none => exact .unknown _ _
      | some j => exact .empty j k off m (by rw [Mu.ren_of ok.snd (Mu.find_mem hf)]; exact hm) ho hz
    | func f a b a' b' ha hb ra rb =>
      simp only [mapV]
      refine VR.func' ?_ ?_
      · simpa using LR.map_left ih (LR.of_arr ha ra)
      · simpa using LR.map_left ih (LR.of_arr hb rb)
    | yield l m hm => unfold mapV; exact .unknown _ _
    | iface t v v' hv => exact .iface t _ _ (ih _ _ hv)
    | agg a a' ha ra =>
      simp only [mapV]
      refine VR.agg' ?_
      simpa using LR.map_left ih (LR.of_arr ha ra)
    | tuple a a' ha ra =>
      simp only [mapV]
      refine VR.tuple' ?_
      simpa using LR.map_left ih (LR.of_arr ha ra)
theorem mapO_S (ok : MuS μ) {m : Meta} {o o2 : AObj} (h : mapO μ o = some o2) (r : ObjR ρ w m o) : ObjR (μ.ren ρ) w m o2 ∧ o2.alive = o.alive := by
  cases o with
  | cells cs ty opn es =>
    simp only [mapO, Option.some.injEq] at h
    subst h
    obtain ⟨a, b, c, d, e, f, g, i⟩ := r
    exact ⟨⟨by simpa using a, b, c, d, e, f, g, by simpa using LR.map_left (mapV_S ok 8) i⟩, rfl⟩
  | sym cs opn es =>
    simp only [mapO, Option.some.injEq] at h
    subst h
    obtain ⟨⟨a, b, c, d, e, z, f, g, i⟩, j⟩ := r
    exact ⟨⟨⟨a, b, c, d, e, z, f, g, i.plain_any (fun v hv => cellP_plain (j v hv))⟩, j⟩, rfl⟩
  | map es c =>
    simp only [mapO] at h
    split at h
    · simp only [Option.some.injEq] at h
      subst h
      obtain ⟨es', h1, h2⟩ := r
      exact ⟨⟨es', h1, ER.map_val (mapV_S ok 8) h2⟩, rfl⟩
    · cases h
  | deferred => simp only [mapO, Option.some.injEq] at h; subst h; exact ⟨r, rfl⟩
  | taken => simp only [mapO, Option.some.injEq] at h; subst h; exact ⟨r, rfl⟩
  | dead _ _ _ => cases h
  | loop _ => cases h
  | siter _ _ => cases h
theorem LR.map_S (ok : MuS μ) {l l' : List Value} (h : LR ρ l l') : LR (μ.ren ρ) (l.map (mapV μ 8)) l' := LR.map_left (mapV_S ok 8) h

/-! ### What is reached has its place -/
def Placed (ρ : Ren) (i : Nat) : Prop := i < abase ∨ ∃ m, ρ i = some m
theorem LR.placed {f : Value → List Nat} (hf : ∀ v v', VR ρ v v' → ∀ i ∈ f v, Placed ρ i) : ∀ {l l' : List Value}, LR ρ l l' → ∀ i ∈ l.flatMap f, Placed ρ i
  | _, _, .nil, i, h => by cases h
  | _, _, .cons h t, i, hi => by
    rw [List.flatMap_cons] at hi
    rcases List.mem_append.1 hi with h1 | h1
    · exact hf _ _ h i h1
    · exact LR.placed hf t i h1
theorem blocksV_placed : ∀ (n : Nat) (v v' : Value), VR ρ v v' → ∀ i ∈ blocksV n v, Placed ρ i
  | 0, _, _, _, i, h => by simp [blocksV] at h
  | n + 1, v, v', hv, i, h => by
    have ih : ∀ (v v' : Value), VR ρ v v' → ∀ i ∈ blocksV n v, Placed ρ i := blocksV_placed n
    cases hv with
    | glob g k hg => simp only [blocksV, List.mem_singleton] at h; subst h; exact .inl hg
    | ptr j k m hm => simp only [blocksV, List.mem_singleton] at h; subst h; exact .inr ⟨m, hm⟩
    | map j m hm => simp only [blocksV, List.mem_singleton] at h; subst h; exact .inr ⟨m, hm⟩
    | slice j k len cap m hm ho => simp only [blocksV, List.mem_singleton] at h; subst h; exact .inr ⟨m, hm⟩
    | opened j k len cap capC m hm ho hc hs => simp only [blocksV, List.mem_singleton] at h; subst h; exact .inr ⟨m, hm⟩
    | empty j k off m hm ho hz => simp only [blocksV, List.mem_singleton] at h; subst h; exact .inr ⟨m, hm⟩
    | func f a b a' b' ha hb ra rb =>
      simp only [blocksV] at h
      rcases List.mem_append.1 h with h | h
      · exact LR.placed ih (LR.of_arr ha ra) i h
      · exact LR.placed ih (LR.of_arr hb rb) i h
    | iface t v v' hv => exact ih _ _ hv i (by simpa [blocksV] using h)
    | agg a a' ha ra => exact LR.placed ih (LR.of_arr ha ra) i (by simpa [blocksV] using h)
    | tuple a a' ha ra => exact LR.placed ih (LR.of_arr ha ra) i (by simpa [blocksV] using h)
    | _ => simp [blocksV] at h
theorem ER.placed : ∀ {l l' : List MapEntry}, ER ρ l l' → ∀ i ∈ l.flatMap (fun e => blocksV 8 e.val), Placed ρ i
  | _, _, .nil, i, h => by cases h
  | _, _, .cons k kk v b t, i, hi => by
    rw [List.flatMap_cons] at hi
    rcases List.mem_append.1 hi with h1 | h1
    · exact blocksV_placed 8 _ _ v i h1
    · exact ER.placed t i h1
theorem blocksO_placed {m : Meta} {o : AObj} (r : ObjR ρ w m o) : ∀ i ∈ blocksO o, Placed ρ i := by
  intro i h
  cases o with
  | cells cs ty opn es =>
    obtain ⟨_, _, _, _, _, _, _, hl⟩ := r
    exact LR.placed (blocksV_placed 8) hl i (by simpa [blocksO] using h)
  | map es c =>
    obtain ⟨es', _, h2⟩ := r
    exact ER.placed h2 i (by simpa [blocksO] using h)
  | _ => simp [blocksO] at h
theorem reachC_placed (g : Gam w0 ρ H w) : ∀ (f : Nat) (work : List Nat) (μ : Mu) (ro mu : Nat), (∀ i ∈ work, Placed ρ i) → (∀ p ∈ μ, Placed ρ p.1) → ∀ p ∈ reachC H f work μ ro mu, Placed ρ p.1
  | 0, _, μ, _, _, _, h => by simpa [reachC] using h
  | f + 1, [], μ, _, _, _, h => by simpa [reachC] using h
  | f + 1, i :: work, μ, ro, mu, hw, h => by
    have hw2 : ∀ j ∈ work, Placed ρ j := fun j hj => hw j (List.mem_cons_of_mem _ hj)
    have hi := hw i (List.mem_cons_self ..)
    unfold reachC
    split
    · exact reachC_placed g f work μ ro mu hw2 h
    · split
      · exact reachC_placed g f work μ ro mu hw2 h
      · rename_i o ho
        have hpl : ∀ j ∈ work ++ blocksO o, Placed ρ j := by
          intro j hj
          rcases List.mem_append.1 hj with hj | hj
          · exact hw2 j hj
          · have hm : ∃ m, ρ i = some m := by
              rcases hi with hlt | hm
              · exact g.gmap i (.inl hlt) (by rw [ho]; simp)
              · exact hm
            obtain ⟨m, hm⟩ := hm
            exact blocksO_placed (g.obj i m o hm ho) j hj
        have hadd : ∀ q, ∀ p ∈ μ ++ [(i, q)], Placed ρ p.1 := by
          intro q p hp
          rcases List.mem_append.1 hp with hp | hp
          · exact h p hp
          · rw [List.mem_singleton.1 hp]; exact hi
        split
        · exact reachC_placed g f _ _ _ _ hpl (hadd _)
        · exact reachC_placed g f _ _ _ _ hpl (hadd _)

/-! ### The call's own view -/
structure CallOK (μ : Mu) (H : Heap) : Prop where
  fst : (μ.map (·.1)).Nodup
  snd : (μ.map (·.2)).Nodup
  lo : ∀ i j, (i, j) ∈ μ → abase ≤ i ∧ abase ≤ j ∧ j < gbase
  mb : ∀ i j, (i, j) ∈ μ → (mbase ≤ i ↔ mbase ≤ j)
  live : ∀ i j, (i, j) ∈ μ → ∃ o o2, H.get i = some o ∧ mapO μ o = some o2 ∧ o.alive = true
theorem mapO_alive {o o2 : AObj} (h : mapO μ o = some o2) (ht : o2 ≠ .taken) : o.alive = true := by
  cases o with
  | taken => simp only [mapO, Option.some.injEq] at h; exact absurd h.symm ht
  | dead _ _ _ => cases h
  | _ => rfl
theorem callGood_ok (h : callGood μ H = true) : CallOK μ H := by
  simp only [callGood, Bool.and_eq_true] at h
  have hall := fun p hp => List.all_eq_true.1 h.2 p hp
  have each : ∀ i j, (i, j) ∈ μ → abase ≤ i ∧ (abase ≤ j ∧ j < gbase) ∧ (mbase ≤ i ↔ mbase ≤ j) ∧ ∃ o o2, H.get i = some o ∧ mapO μ o = some o2 ∧ o.alive = true := by
    intro i j hij
    have := hall _ hij
    simp only [Bool.and_eq_true, decide_eq_true_eq] at this
    obtain ⟨⟨h1, h2⟩, h3⟩ := this
    have h4 : (abase ≤ j ∧ j < gbase) ∧ (mbase ≤ i ↔ mbase ≤ j) := by
      split at h2
      · rename_i hlt
        simp only [Bool.and_eq_true, decide_eq_true_eq] at h2
        refine ⟨⟨h2.1, ?_⟩, by omega⟩
        have : mbase ≤ gbase := by decide
        omega
      · rename_i hge
        simp only [Bool.and_eq_true, decide_eq_true_eq] at h2
        refine ⟨⟨?_, h2.2⟩, by omega⟩
        have : abase ≤ mbase := by decide
        omega
    refine ⟨h1, h4.1, h4.2, ?_⟩
    cases hg : H.get i with
    | none => simp [hg] at h3
    | some o =>
      simp only [hg] at h3
      cases hm : mapO μ o with
      | none => simp [hm] at h3
      | some o2 =>
        refine ⟨o, o2, rfl, hm, mapO_alive hm (fun e => ?_)⟩
        subst e
        simp [hm] at h3
  exact ⟨nodupB_spec h.1.1, nodupB_spec h.1.2, fun i j hij => ⟨(each i j hij).1, (each i j hij).2.1⟩, fun i j hij => (each i j hij).2.2.1, fun i j hij => (each i j hij).2.2.2⟩
theorem CallOK.toS (ok : CallOK μ H) : MuS μ := ⟨ok.snd, fun i j hij hlt => by have := (ok.lo i j hij).1; omega⟩

theorem callGam (g : Gam w0 ρ H w) (ok : CallOK μ H) (hp : ∀ p ∈ μ, Placed ρ p.1) : Gam ⟨w, μ.ren ρ⟩ (μ.ren ρ) (heapOf (gcB H μ μ)) w := by
  have hsnd : ∀ {i i' j : Nat}, (i, j) ∈ μ → (i', j) ∈ μ → i = i' := fun h1 h2 => by have := nodup_inj ok.snd h1 h2 rfl; cases this; rfl
  have hfst : ∀ {i j j' : Nat}, (i, j) ∈ μ → (i, j') ∈ μ → j = j' := fun h1 h2 => by have := nodup_inj ok.fst h1 h2 rfl; cases this; rfl
  have hget : ∀ {j : Nat} {o : AObj}, (heapOf (gcB H μ μ)).get j = some o → ∃ i o', (i, j) ∈ μ ∧ H.get i = some o' ∧ mapO μ o' = some o := fun h => gcB_mem (heapOf_get h)
  have obj : ∀ i m o, μ.ren ρ i = some m → (heapOf (gcB H μ μ)).get i = some o → ObjR (μ.ren ρ) w m o ∧ ∃ i0 o0, (i0, i) ∈ μ ∧ ρ i0 = some m ∧ H.get i0 = some o0 ∧ o.alive = o0.alive := by
    intro i m o hm ho
    obtain ⟨i0, hi0, hr0⟩ := Mu.ren_some hm
    obtain ⟨i1, o1, hi1, hg1, hmo⟩ := hget ho
    obtain rfl := hsnd hi0 hi1
    obtain ⟨r1, r2⟩ := mapO_S ok.toS hmo (g.obj _ m _ hr0 hg1)
    exact ⟨r1, i0, o1, hi0, hr0, hg1, r2⟩
  refine ⟨Nat.le_add_right _ _, ?_, .refl _ _, ?_, ?_, ?_, fun i m o hm ho => (obj i m o hm ho).1, ?_, fun i m _ _ h => h⟩
  · intro i hi
    cases hr : μ.ren ρ i with
    | none => rfl
    | some m =>
      obtain ⟨i0, hi0, _⟩ := Mu.ren_some hr
      have := (ok.lo _ _ hi0).2.2
      have h5 : gbase ≤ i := Nat.le_trans (Nat.le_add_right _ _) hi
      omega
  · intro j m hm
    obtain ⟨i, hi, hr⟩ := Mu.ren_some hm
    have h1 := (g.own i m hr).1
    have := (ok.lo _ _ hi).2.2
    exact ⟨h1, fun h => by omega, fun _ => h1⟩
  · intro j m hm hj
    obtain ⟨i, hi, hr⟩ := Mu.ren_some hm
    have := (ok.lo _ _ hi).2.1
    omega
  · rintro i j mi mj hgi ⟨oi, gi, ai⟩ ⟨oj, gj, aj⟩ ei ej hb
    obtain ⟨_, i0, oi0, hi0, ri0, gi0, hai⟩ := obj i mi oi ei gi
    obtain ⟨_, j0, oj0, hj0, rj0, gj0, haj⟩ := obj j mj oj ej gj
    have := g.inj i0 j0 mi mj ((ok.mb _ _ hi0).2 hgi) ⟨oi0, gi0, by rw [← hai]; exact ai⟩ ⟨oj0, gj0, by rw [← haj]; exact aj⟩ ri0 rj0 hb
    subst this
    exact hfst hi0 hj0
  · intro j hj hn
    cases ho : (heapOf (gcB H μ μ)).get j with
    | none => exact absurd ho hn
    | some o =>
      obtain ⟨i, o', hi, hg, _⟩ := hget ho
      rcases hp _ hi with h | ⟨m, hm⟩
      · have := (ok.lo _ _ hi).1; simp only at h; omega
      · exact ⟨m, by rw [Mu.ren_of ok.snd hi]; exact hm⟩

/-! ### Back at the caller -/
theorem numFrom_mem : ∀ {l : List Nat} {n j q : Nat}, (j, q) ∈ numFrom l n → j ∈ l ∧ n ≤ q ∧ q < n + l.length
  | [], _, _, _, h => by cases h
  | i :: r, n, j, q, h => by
    unfold numFrom at h
    rcases List.mem_cons.1 h with h | h
    · cases h; exact ⟨List.mem_cons_self .., Nat.le_refl _, by simp⟩
    · obtain ⟨h1, h2, h3⟩ := numFrom_mem h
      exact ⟨List.mem_cons_of_mem _ h1, by omega, by simp only [List.length_cons]; omega⟩
theorem numFrom_snd : ∀ (l : List Nat) (n : Nat), ((numFrom l n).map (·.2)).Nodup
  | [], _ => List.nodup_nil
  | i :: r, n => by
    unfold numFrom
    simp only [List.map_cons, List.nodup_cons]
    refine ⟨fun h => ?_, numFrom_snd r (n + 1)⟩
    obtain ⟨p, hp, e⟩ := List.mem_map.1 h
    obtain ⟨j, q⟩ := p
    have := (numFrom_mem hp).2.1
    simp only at e
    omega
theorem numFrom_fst : ∀ (l : List Nat) (n : Nat), (numFrom l n).map (·.1) = l
  | [], _ => rfl
  | i :: r, n => by unfold numFrom; simp only [List.map_cons, numFrom_fst r]
variable {β : Mu} {bs : Blocks}
theorem mergeP_next : ∀ (l : Mu) (H : Heap), (mergeP β bs l H).next = H.next
  | [], _ => rfl
  | p :: r, H => by
    unfold mergeP
    rw [mergeP_next r]
    split <;> rfl
theorem mergeP_out {i : Nat} : ∀ (l : Mu) (H : Heap), (∀ j, (i, j) ∈ l → ¬ mbase ≤ j) → (mergeP β bs l H).get i = H.get i
  | [], _, _ => rfl
  | p :: r, H, h => by
    unfold mergeP
    rw [mergeP_out r _ (fun j hj => h j (List.mem_cons_of_mem _ hj))]
    split
    · rename_i hm
      rw [Heap.get_set, if_neg (fun e => h p.2 (by rw [e]; exact List.mem_cons_self ..) hm)]
    · rfl
theorem mergeP_in {i j : Nat} : ∀ (l : Mu) (H : Heap), (l.map (·.1)).Nodup → (i, j) ∈ l → mbase ≤ j → (mergeP β bs l H).get i = some (objAt β bs j)
  | [], _, _, h, _ => by cases h
  | p :: r, H, hn, h, hj => by
    simp only [List.map_cons, List.nodup_cons] at hn
    unfold mergeP
    rcases List.mem_cons.1 h with h | h
    · subst h
      rw [mergeP_out r _ (fun q hq => absurd (List.mem_map.2 ⟨_, hq, rfl⟩) hn.1), if_pos hj, Heap.get_set, if_pos rfl]
    · exact mergeP_in r _ hn.2 h hj
theorem mergeN_next : ∀ (l : List Nat) (H : Heap), (mergeN β bs l H).next = H.next + l.length
  | [], _ => rfl
  | j :: r, H => by unfold mergeN; rw [mergeN_next r]; simp only [Heap.next_new, List.length_cons]; omega
theorem mergeN_old {i : Nat} : ∀ (l : List Nat) (H : Heap), i < H.next → (mergeN β bs l H).get i = H.get i
  | [], _, _ => rfl
  | j :: r, H, h => by
    unfold mergeN
    rw [mergeN_old r _ (by simp only [Heap.next_new]; omega), Heap.get_new, if_neg (by omega)]
theorem mergeN_new {i j : Nat} : ∀ (l : List Nat) (H : Heap), (j, i) ∈ numFrom l H.next → (mergeN β bs l H).get i = some (objAt β bs j)
  | [], _, h => by cases h
  | q :: r, H, h => by
    unfold numFrom at h
    unfold mergeN
    rcases List.mem_cons.1 h with h | h
    · cases h
      rw [mergeN_old r _ (by simp only [Heap.next_new]; omega), Heap.get_new, if_pos rfl]
    · exact mergeN_new r (H.new (objAt β bs q)) (by simpa only [Heap.next_new] using h)

theorem mergeGam {ρ' : Ren} {w' : World} (g : Gam w0 ρ H w) (ok : CallOK μ H) (hp : ∀ p ∈ μ, Placed ρ p.1) (g' : Gam ⟨w, μ.ren ρ⟩ ρ' (heapOf bs) w') (hnd : ((newsOf bs).map (·.1)).Nodup) :
    ∃ ρm, Gam w0 ρm (merged μ bs H) w' ∧ Ext ρ ρm H (merged μ bs H) ∧ ∀ v v', VR ρ' v v' → VR ρm (mapV (backMu μ H.next bs) 8 v) v' := by
  let news := (newsOf bs).map (·.1)
  let β := backMu μ H.next bs
  have place : ∀ {i j : Nat}, (i, j) ∈ μ → ∃ m, ρ i = some m := by
    intro i j hij
    rcases hp _ hij with h | h
    · have := (ok.lo _ _ hij).1; simp only at h; omega
    · exact h
  have ilt : ∀ {i j : Nat}, (i, j) ∈ μ → i < H.next := fun hij => let ⟨m, hm⟩ := place hij; g.lt hm
  have newge : ∀ j ∈ news, gbase ≤ j := by
    intro j hj
    obtain ⟨p, hp, rfl⟩ := List.mem_map.1 hj
    simpa using (List.mem_filter.1 hp).2
  have βmem : ∀ {j i : Nat}, (j, i) ∈ β → ((i, j) ∈ μ) ∨ (j, i) ∈ numFrom news H.next := by
    intro j i h
    rcases List.mem_append.1 h with h | h
    · obtain ⟨p, hp, e⟩ := List.mem_map.1 h
      cases e; exact .inl hp
    · exact .inr h
  have βS : MuS β := by
    refine ⟨?_, fun j i h hj => ?_⟩
    · show ((μ.map (fun p => (p.2, p.1)) ++ numFrom news H.next).map (·.2)).Nodup
      rw [List.map_append, List.map_map]
      refine List.nodup_append.2 ⟨ok.fst, numFrom_snd _ _, ?_⟩
      intro a ha b hb e
      subst e
      obtain ⟨p, hp1, rfl⟩ := List.mem_map.1 ha
      obtain ⟨q, hq, e⟩ := List.mem_map.1 hb
      obtain ⟨j, i⟩ := q
      have h1 := (numFrom_mem hq).2.1
      have h2 : p.1 < H.next := ilt (j := p.2) hp1
      simp only [Function.comp] at e
      omega
    · rcases βmem h with h | h
      · have := (ok.lo _ _ h).2.1; omega
      · have := newge j (numFrom_mem h).1
        unfold gbase at this; unfold abase at hj; omega
  let ρm : Ren := fun i => if i < H.next then ρ i else β.ren ρ' i
  have ρlt : ∀ {i : Nat}, i < H.next → ρm i = ρ i := fun h => if_pos h
  have ρge : ∀ {i : Nat}, ¬ i < H.next → ρm i = β.ren ρ' i := fun h => if_neg h
  -- what was handed lies where it lay
  have pinned : ∀ {i j : Nat} {m : Meta}, (i, j) ∈ μ → ρ' j = some m → ρ i = some m := by
    intro i j m hij hj
    have h1 := ok.lo _ _ hij
    have := g'.pins j m h1.2.1 h1.2.2 hj
    simp only at this
    rwa [Mu.ren_of ok.snd hij] at this
  have hle : (β.ren ρ').le ρm := by
    intro i m hm
    obtain ⟨j, hj, hr⟩ := Mu.ren_some hm
    rcases βmem hj with h | h
    · rw [ρlt (ilt h)]; exact pinned h hr
    · rw [ρge (by have := (numFrom_mem h).2.1; omega)]; exact hm
  have objR : ∀ {j : Nat} {m : Meta}, ρ' j = some m → ObjR ρm w' m (objAt β bs j) := by
    intro j m hj
    unfold objAt
    cases hg : (heapOf bs).get j with
    | none => trivial
    | some o =>
      simp only [Option.bind_some]
      cases hm : mapO β o with
      | none => trivial
      | some o2 => exact (mapO_S βS hm (g'.obj j m o hj hg)).1.mono hle (fun _ => rfl)
  have objA : ∀ {j : Nat}, (objAt β bs j).alive = true → (heapOf bs).live j := by
    intro j h
    unfold objAt at h
    cases hg : (heapOf bs).get j with
    | none => rw [hg] at h; cases h
    | some o =>
      rw [hg] at h
      simp only [Option.bind_some] at h
      cases hm : mapO β o with
      | none => rw [hm] at h; cases h
      | some o2 =>
        rw [hm] at h
        refine ⟨o, hg, ?_⟩
        by_cases hj : ∃ m, ρ' j = some m
        · obtain ⟨m, hj⟩ := hj
          rw [← (mapO_S βS hm (g'.obj j m o hj hg)).2]; exact h
        · refine mapO_alive hm (fun e => ?_)
          subst e; cases h
  have hnx : (merged μ bs H).next = H.next + news.length := by
    show (mergeN β bs news (mergeP β bs μ H)).next = _
    rw [mergeN_next, mergeP_next]
  have getOut : ∀ {i : Nat}, i < H.next → (∀ j, (i, j) ∈ μ → ¬ mbase ≤ j) → (merged μ bs H).get i = H.get i := by
    intro i hi h
    show (mergeN β bs news (mergeP β bs μ H)).get i = _
    rw [mergeN_old _ _ (by rw [mergeP_next]; exact hi), mergeP_out _ _ h]
  have getIn : ∀ {i j : Nat}, (i, j) ∈ μ → mbase ≤ j → (merged μ bs H).get i = some (objAt β bs j) := by
    intro i j hij hj
    show (mergeN β bs news (mergeP β bs μ H)).get i = _
    rw [mergeN_old _ _ (by rw [mergeP_next]; exact ilt hij), mergeP_in _ _ ok.fst hij hj]
  have getNew : ∀ {i j : Nat}, (j, i) ∈ numFrom news H.next → (merged μ bs H).get i = some (objAt β bs j) := by
    intro i j h
    exact mergeN_new _ _ (by rw [mergeP_next]; exact h)
  have newOf : ∀ {i : Nat} {m : Meta}, ¬ i < H.next → ρm i = some m → ∃ j, (j, i) ∈ numFrom news H.next ∧ ρ' j = some m ∧ gbase ≤ j := by
    intro i m hi hm
    rw [ρge hi] at hm
    obtain ⟨j, hj, hr⟩ := Mu.ren_some hm
    rcases βmem hj with h | h
    · exact absurd (ilt h) hi
    · exact ⟨j, h, hr, newge j (numFrom_mem h).1⟩
  -- what may have been written
  have mayOf : ∀ {k : Nat}, (Start.mk w (μ.ren ρ)).may k → ∃ i j m, (i, j) ∈ μ ∧ mbase ≤ i ∧ mbase ≤ j ∧ ρ i = some m ∧ m.b = k ∧ H.live i := by
    rintro k ⟨j, m, h1, h2, h3, h4⟩
    obtain ⟨i, hij, hr⟩ := Mu.ren_some h3
    obtain ⟨o, _, ho, _, ha⟩ := ok.live _ _ hij
    exact ⟨i, j, m, hij, (ok.mb _ _ hij).2 h1, h1, hr, h4, o, ho, ha⟩
  have liveOld : ∀ {i : Nat}, i < H.next → (merged μ bs H).live i → H.live i ∧ ∀ j, (i, j) ∈ μ → mbase ≤ j → (heapOf bs).live j := by
    rintro i hi ⟨o, ho, ha⟩
    by_cases h : ∃ j, (i, j) ∈ μ ∧ mbase ≤ j
    · obtain ⟨j, hij, hj⟩ := h
      obtain ⟨o1, _, h1, _, h2⟩ := ok.live _ _ hij
      refine ⟨⟨o1, h1, h2⟩, fun j' hij' hj' => ?_⟩
      rw [getIn hij' hj'] at ho
      cases ho
      exact objA ha
    · rw [getOut hi (fun j hij hj => h ⟨j, hij, hj⟩)] at ho
      exact ⟨⟨o, ho, ha⟩, fun j hij hj => absurd ⟨j, hij, hj⟩ h⟩
  have hsz : w.heap.size ≤ w'.heap.size := g'.below.size
  refine ⟨ρm, ⟨by rw [hnx]; exact Nat.le_trans g.gb (Nat.le_add_right _ _), ?_, ?_, ?_, ?_, ?_, ?_, ?_, ?_⟩, ⟨?_, by rw [hnx]; exact Nat.le_add_right _ _, ?_⟩, fun v v' hv => (mapV_S βS 8 v v' hv).mono hle⟩
  · -- fresh
    intro i hi
    rw [hnx] at hi
    cases hr : ρm i with
    | none => rfl
    | some m =>
      obtain ⟨j, hj, _⟩ := newOf (by omega) hr
      have := (numFrom_mem hj).2.2
      omega
  · -- below
    refine ⟨g'.below.os.trans g.below.os, g'.below.tape.trans g.below.tape, g'.below.output.trans g.below.output, Nat.le_trans g.below.size hsz, fun k hk hm => ?_⟩
    refine (g'.below.block k (Nat.lt_of_lt_of_le hk g.below.size) (fun hmay => ?_)).trans (g.below.block k hk hm)
    obtain ⟨i, j, m, hij, hi, hj, hr, rfl, _⟩ := mayOf hmay
    rcases Nat.lt_or_ge i gbase with hl | hl
    · exact hm ⟨i, m, hi, hl, g.pins i m (ok.lo _ _ hij).1 hl hr, rfl⟩
    · have := (g.own i m hr).2.1 hl
      omega
  · -- own
    intro i m hm
    by_cases hi : i < H.next
    · rw [ρlt hi] at hm
      have := g.own i m hm
      exact ⟨by omega, this.2⟩
    · obtain ⟨j, hj, hr, hge⟩ := newOf hi hm
      have := g'.own j m hr
      have h1 := this.2.1 hge
      simp only at h1
      have h2 := g.below.size
      have h3 := g.gb
      exact ⟨this.1, fun _ => by omega, fun h => by omega⟩
  · -- glob
    intro i m hm hi
    rw [ρlt (by have := g.gb; unfold gbase at this; unfold abase at hi; omega)] at hm
    exact g.glob i m hm hi
  · -- inj
    intro i j mi mj hgi hi hj ei ej hb
    by_cases h1 : i < H.next
    · rw [ρlt h1] at ei
      by_cases h2 : j < H.next
      · rw [ρlt h2] at ej
        exact g.inj i j mi mj hgi (liveOld h1 hi).1 (liveOld h2 hj).1 ei ej hb
      · obtain ⟨q, hq, hr, hge⟩ := newOf h2 ej
        have a1 := (g.own i mi ei).1
        have a2 := (g'.own q mj hr).2.1 hge
        simp only at a2
        omega
    · obtain ⟨p, hp1, hr1, hge1⟩ := newOf h1 ei
      by_cases h2 : j < H.next
      · rw [ρlt h2] at ej
        have a1 := (g.own j mj ej).1
        have a2 := (g'.own p mi hr1).2.1 hge1
        simp only at a2
        omega
      · obtain ⟨q, hq, hr2, hge2⟩ := newOf h2 ej
        obtain ⟨oi, hoi, hai⟩ := hi
        obtain ⟨oj, hoj, haj⟩ := hj
        rw [getNew hp1] at hoi
        rw [getNew hq] at hoj
        cases hoi
        cases hoj
        have := g'.inj p q mi mj (mb_of hge1) (objA hai) (objA haj) hr1 hr2 hb
        subst this
        have hnf : ((numFrom news H.next).map (·.1)).Nodup := by rw [numFrom_fst]; exact hnd
        have := nodup_inj hnf hp1 hq rfl
        cases this
        rfl
  · -- objects
    intro i m o hm ho
    by_cases hi : i < H.next
    · rw [ρlt hi] at hm
      by_cases h : ∃ j, (i, j) ∈ μ ∧ mbase ≤ j
      · obtain ⟨j, hij, hj⟩ := h
        rw [getIn hij hj] at ho
        cases ho
        cases hg : (heapOf bs).get j with
        | none => unfold objAt; rw [hg]; trivial
        | some ob =>
          obtain ⟨m', hm'⟩ := g'.gmap j (.inr ⟨hj, (ok.lo _ _ hij).2.2⟩) (by rw [hg]; simp)
          have := pinned hij hm'
          rw [hm] at this
          cases this
          exact objR hm'
      · have hout : ∀ j, (i, j) ∈ μ → ¬ mbase ≤ j := fun j hij hj => h ⟨j, hij, hj⟩
        rw [getOut hi hout] at ho
        refine (g.obj i m o hm ho).mono (fun q n hq => by rw [ρlt (g.lt hq)]; exact hq) (fun hal => ?_)
        refine g'.below.block m.b (g.own i m hm).1 (fun hmay => ?_)
        obtain ⟨i2, j2, m2, hij2, hi2, hj2, hr2, hb2, hl2⟩ := mayOf hmay
        have := g.inj i2 i m2 m hi2 hl2 ⟨o, ho, hal⟩ hr2 hm hb2
        subst this
        exact hout _ hij2 hj2
    · obtain ⟨j, hj, hr, _⟩ := newOf hi hm
      rw [getNew hj] at ho
      cases ho
      exact objR hr
  · -- gmap
    intro i hi hn
    have hlt : i < H.next := by
      have := g.gb
      rcases hi with h | h
      · unfold gbase at this; unfold abase at h; omega
      · omega
    rw [ρlt hlt]
    by_cases h : ∃ j, (i, j) ∈ μ ∧ mbase ≤ j
    · obtain ⟨j, hij, _⟩ := h
      exact place hij
    · rw [getOut hlt (fun j hij hj => h ⟨j, hij, hj⟩)] at hn
      exact g.gmap i hi hn
  · -- pins
    intro i m ha hi hm
    rw [ρlt (by have := g.gb; omega)] at hm
    exact g.pins i m ha hi hm
  · -- le
    intro i m hm
    rw [ρlt (g.lt hm)]; exact hm
  · -- keep
    intro i hi hn
    refine ⟨by rw [ρlt hi]; exact hn, getOut hi (fun j hij _ => ?_)⟩
    obtain ⟨m, hm⟩ := place hij
    rw [hn] at hm; cases hm

theorem wpState_call {sp : SpecS} {f : FuncId} (hs : ∀ args bs K, sp args bs K → CallS P f args bs K) {args : Array Value} {k : Value → Heap → Prop} (hk : wpState sp args H k) : CallH P f args H k := by
  intro w0 ρ w args' n g ha
  unfold wpState at hk
  obtain ⟨hgood, hk⟩ := bcase_out hk
  have ok := callGood_ok hgood
  have hp : ∀ p ∈ callMu args.toList H, Placed ρ p.1 := reachC_placed g _ _ _ _ _ (LR.placed (blocksV_placed 8) ha) (fun p hp => by cases hp)
  have gC := callGam g ok hp
  refine (hs _ _ _ hk ⟨w, (callMu args.toList H).ren ρ⟩ _ w args' n gC (LR.map_S ok.toS ha)).mono ?_
  rintro e w' ⟨v, bs, ρ', v', hK, rfl, hv, g'⟩
  obtain ⟨hnd, hK⟩ := bcase_out hK
  obtain ⟨ρm, gm, ext, hvr⟩ := mergeGam g ok hp g' (nodupB_spec hnd)
  exact ⟨_, _, ρm, v', hK, rfl, hvr _ _ hv, gm, ext⟩
end Go.Abs

/- State contracts: a function whose body has been walked. -/
namespace Go.Abs
open Go.RowKit
variable {P : Program} {ρ : Ren} {w0 : Start} {w : World} {H : Heap} {h : Handler} {L : AtLoop}

theorem stateK_out (g : Gam w0 ρ H w) {v v' : Value} (hv : VR ρ v v') {K : Value → Blocks → Prop} (hk : stateK K v H) : ∃ v2 bs ρ2, K v2 bs ∧ VR ρ2 v2 v' ∧ Gam w0 ρ2 (heapOf bs) w := by
  unfold stateK at hk
  obtain ⟨hgood, hk⟩ := bcase_out hk
  let A : AAct := ⟨.leaf, 0, []⟩
  let a : Act := ⟨#[], []⟩
  have ra : ActR ρ A a := ⟨rfl, fun t => by
    have e1 : A.slot t = undef := rfl
    have e2 : a.tmps.getD t undef = undef := rfl
    rw [e1, e2]; exact VR.undef _, ⟨rfl, fun j D e => by simp [A] at e⟩⟩
  obtain ⟨g2, _⟩ := gc_sub g ra rfl (keep := []) hgood
  exact ⟨_, _, _, hk, mapV_VR (gcGood_ok hgood) 8 _ _ hv, g2⟩

/-- A loop of a function, whatever its end is. -/
structure LoopGoodF (P : Program) (h : Handler) (L : AtLoop) (f : FuncId) (c : Code) (lv : Lv) (id : Nat) (F : Value → Heap → Prop) (X : Type) (st : X → Slots × Blocks) (inv : X → Prop) (m : X → Nat) : Prop where
  head : ∀ s b, L id s b → ∃ x, inv x ∧ st x = (s, b)
  flat : ((findLoop c lv id).map fun r => loopIds r.1) = some []
  round : ∀ x, inv x → wpRound P h L f id (st x).1 (st x).2 (fun s b => ∃ y, inv y ∧ m y < m x ∧ st y = (s, b))
    (fun i s b => if i = id then wpNext P h L f id .normal s b F else wpNext P h L f id (.exit i) s b F) F

theorem loopsOK_good (hh : HandlerOK P h) (hmix : P.follows .mixedOrders = true) {f : FuncId} {fn : Func} {c : Code} (hf : P.funcs[f]? = some fn) (hc : fn.body = some c) {F : Value → Heap → Prop} {ids : List Nat} (hids : loopIds c = ids) (hn : nodupB ids = true)
    (hl : ∀ id ∈ ids, ∃ X st inv m, LoopGoodF P h L f c (fnLv fn) id F X st inv m) : loopsOK P h L (fnSize fn) c (fnLv fn) (fnK P fn F) := by
  subst hids
  refine loopsOK_of c hn ?_
  intro id body l' hfl s bl hs
  obtain ⟨X, st, inv, m, hg⟩ := hl id (findLoop_ids c _ id hfl)
  obtain ⟨x, hx, he⟩ := hg.head s bl hs
  have e1 : (st x).1 = s := congrArg Prod.fst he
  have e2 : (st x).2 = bl := congrArg Prod.snd he
  have hin : loopIds body = [] := by have := hg.flat; rw [hfl] at this; simpa using this
  have := loop_rule (P := P) (h := h) (L := L) (sz := fnSize fn) hh hmix st inv m (id := id) (body := body) (l' := l') (k := fun e A H => wpAfter P h L c (fnLv fn) id e A H (fnK P fn F)) (R := fnK P fn F) hin
    (fun x hx => by
      have := hg.round x hx
      unfold wpRound at this
      simp only [hf, hc, hfl] at this
      have e : ∀ i s b, (if i = id then wpNext P h L f id .normal s b F else wpNext P h L f id (.exit i) s b F) = (if i = id then wpAfter P h L c (fnLv fn) id .normal (actOf (fnSize fn) s) (heapOf b) (fnK P fn F) else wpAfter P h L c (fnLv fn) id (.exit i) (actOf (fnSize fn) s) (heapOf b) (fnK P fn F)) := by
        intro i s b
        simp only [wpNext, hf, hc]
      simpa only [e] using this)
    (fun e A H he hR => by subst he; exact wpAfter_ret c (by rw [hfl]; rfl) hR)
    (fun e A H h1 h2 hR => by cases e <;> first | exact h1 rfl | exact h2 rfl | exact hR)
    x hx
  rw [e1, e2] at this
  exact this

/-- A FUNCTION IS PROVED, by what it does to the blocks that it reaches. -/
theorem callS_ofG (hh : HandlerOK P h) (hmix : P.follows .mixedOrders = true) {f : FuncId} {fn : Func} {c : Code} (hf : P.funcs[f]? = some fn) (hc : fn.body = some c) {args : List Value} {bs : Blocks} {K : Value → Blocks → Prop} (hsz2 : max args.toArray.size fn.ntmps = fnSize fn) {ids : List Nat} (hids : loopIds c = ids) (hn : nodupB ids = true)
    (hk : wpFn P h L 0 f args.toArray (heapOf bs) (stateK K))
    (hl : ∀ id ∈ ids, ∃ X st inv m, LoopGoodF P h L f c (fnLv fn) id (stateK K) X st inv m) : CallS P f args bs K := by
  intro w0 ρ w args' n g ha
  refine (wpFn_run (u := 0) (b := false) hh hmix (fun _ => rfl) hf hc hk (fun _ => by rw [hsz2]; exact loopsOK_good hh hmix hf hc hids hn hl) g n (by simpa using ha)).mono ?_
  rintro e w' ⟨v, H', ρ', v', hkv, rfl, hv, g', _⟩
  obtain ⟨v2, bs', ρ2, h1, h2, h3⟩ := stateK_out g' hv hkv
  exact ⟨v2, bs', ρ2, v', h1, rfl, h2, h3⟩
end Go.Abs

/- Functions with cuts, and loops within loops: by what is left to show of each part. -/
namespace Go.Abs
open Go.RowKit
variable {P : Program} {ρ : Ren} {w0 : Start} {w : World} {H : Heap} {h : Handler} {L : AtLoop} {J : List Nat}

theorem jFn_run (hh : HandlerOK P h) (hmix : P.follows .mixedOrders = true) {f : FuncId} {fn : Func} {c : Code} (hf : P.funcs[f]? = some fn) (hc : fn.body = some c) {args : Array Value} {k : Value → Heap → Prop}
    (hk : jFn P h L J f args H k) (hl : ptsOK P h L J (max args.size fn.ntmps) c (fnLv fn) (fnK P fn k))
    (g : Gam w0 ρ H w) {args' : Array Value} (n : Nat) (ha : LR ρ args.toList args'.toList) :
    CallsIn Fence.wide n P f args' w fun e w' => ∃ v H' ρ' v', k v H' ∧ e = .returned v' ∧ VR ρ' v v' ∧ Gam w0 ρ' H' w' := by
  unfold jFn at hk
  simp only [hf, hc] at hk
  refine callsIn_of_wp_marks hf hc trivial ?_
  refine wpIn_mono (wpJ_sound hh hmix c hk hl w0 ρ w _ n g (initial_act ha fn.ntmps) rfl) ?_
  rintro e a1 w1 ⟨A1, H1, ρ1, k1, s1, ra1, g1, _⟩
  have fin : ∀ {v : Value}, A1.defers = [] → resultsA P H1 fn A1 = some v → k v H1 → LeavesInM Fence.wide n P fn a1.tmps (fun e w' => ∃ v H' ρ' v', k v H' ∧ e = .returned v' ∧ VR ρ' v v' ∧ Gam w0 ρ' H' w') a1.defers .returning w1 := by
    intro v hd hr hkv
    have hdd := ra1.defers
    rw [hd] at hdd
    refine leaves_R (P := P) (ρ := ρ1) (w0 := w0) [] a1.defers rfl g1 hdd (fun w2 g2 ext2 => ?_)
    obtain ⟨v', hv, hrun⟩ := resultsA_sound g2 ra1 hr
    exact ⟨v', hrun, v, H1, ρ1, v', hkv, rfl, hv, g2⟩
  cases e with
  | normal =>
    simp only [fnK] at k1
    split at k1
    · rename_i hd
      split at k1
      · rename_i v hr; exact fin hd hr k1
      · cases k1
    · cases k1
  | ret =>
    simp only [fnK] at k1
    split at k1
    · rename_i hd
      split at k1
      · rename_i v hr; exact fin hd hr k1
      · cases k1
    · cases k1
  | _ => exact k1.elim

abbrev Kx := Slots → Blocks → Prop
abbrev Xk := Nat → Slots → Blocks → Prop
/-- A loop within a round of a loop: its points are cuts. -/
structure LoopJ2 (P : Program) (h : Handler) (J : List Nat) (f : FuncId) (c : Code) (lv : Lv) (id id2 : Nat) (L : AtLoop) (B : Kx) (X : Xk) (F : Value → Heap → Prop) : Type 1 where
  Y : Type
  st : Y → Slots × Blocks
  inv : Y → Prop
  m : Y → Nat
  head : ∀ s b, L id2 s b → ∃ y, inv y ∧ st y = (s, b)
  pts : List Nat
  is : ((findLoop c lv id).bind fun r => (findLoop r.1 r.2 id2).map fun q => (ptIds J q.1, loopIds q.1)) = some (pts, [])
  nd : nodupB pts = true
  round : ∀ y, inv y → ∃ L2 : AtLoop,
    jRound2 P h L2 J f id id2 (st y).1 (st y).2 (fun s b => ∃ z, inv z ∧ m z < m y ∧ st z = (s, b)) (fun i s b => if i = id2 then jIn P h L J f id id2 .normal s b B X F else jIn P h L J f id id2 (.exit i) s b B X F) F ∧
    ∀ id3 ∈ pts, ∀ s b, L2 id3 s b → jIn2 P h L2 J f id id2 id3 .normal s b (fun s b => ∃ z, inv z ∧ m z < m y ∧ st z = (s, b)) (fun i s b => if i = id2 then jIn P h L J f id id2 .normal s b B X F else jIn P h L J f id id2 (.exit i) s b B X F) F
/-- A loop of a function. -/
structure LoopJ (P : Program) (h : Handler) (J : List Nat) (f : FuncId) (c : Code) (lv : Lv) (id : Nat) (L : AtLoop) (F : Value → Heap → Prop) : Type 1 where
  Y : Type
  st : Y → Slots × Blocks
  inv : Y → Prop
  m : Y → Nat
  head : ∀ s b, L id s b → ∃ y, inv y ∧ st y = (s, b)
  pts : List Nat
  loops : List Nat
  is : ((findLoop c lv id).map fun r => (ptIds J r.1, loopIds r.1)) = some (pts, loops)
  nd : nodupB pts = true
  round : ∀ y, inv y → ∃ L2 : AtLoop,
    jRound P h L2 J f id (st y).1 (st y).2 (fun s b => ∃ z, inv z ∧ m z < m y ∧ st z = (s, b)) (fun i s b => if i = id then jNext P h L J f id .normal s b F else jNext P h L J f id (.exit i) s b F) F ∧
    (∀ id2 ∈ pts, id2 ∉ loops → ∀ s b, L2 id2 s b → jIn P h L2 J f id id2 .normal s b (fun s b => ∃ z, inv z ∧ m z < m y ∧ st z = (s, b)) (fun i s b => if i = id then jNext P h L J f id .normal s b F else jNext P h L J f id (.exit i) s b F) F) ∧
    (∀ id2 ∈ loops, Nonempty (LoopJ2 P h J f c lv id id2 L2 (fun s b => ∃ z, inv z ∧ m z < m y ∧ st z = (s, b)) (fun i s b => if i = id then jNext P h L J f id .normal s b F else jNext P h L J f id (.exit i) s b F) F))

theorem loopJ2_holds (hh : HandlerOK P h) (hmix : P.follows .mixedOrders = true) {f : FuncId} {fn : Func} {c : Code} (hf : P.funcs[f]? = some fn) (hc : fn.body = some c) {id id2 : Nat} {F : Value → Heap → Prop} {B : Kx} {X : Xk} {body : Code} {l' : Lv} (hfl : findLoop c (fnLv fn) id = some (body, l')) {body2 : Code} {l2 : Lv} (hf2 : findLoop body l' id2 = some (body2, l2))
    (g : LoopJ2 P h J f c (fnLv fn) id id2 L B X F) {s : Slots} {b : Blocks} (hs : L id2 s b) :
    Holds P false (fnSize fn) (.block id2 (.loop body2)) (actOf (fnSize fn) s) (heapOf b) (fun e A H => aftJ P h L J body l' id2 e A H (roundK body l' B X (fnK P fn F))) := by
  obtain ⟨y, hy, he⟩ := g.head s b hs
  have e1 : (g.st y).1 = s := congrArg Prod.fst he
  have e2 : (g.st y).2 = b := congrArg Prod.snd he
  have his := g.is
  rw [hfl] at his
  simp only [Option.bind_some, hf2, Option.map_some, Option.some.injEq, Prod.mk.injEq] at his
  have eqX : ∀ (B : Kx) (X : Xk) i s b, (if i = id2 then jIn P h L J f id id2 .normal s b B X F else jIn P h L J f id id2 (.exit i) s b B X F) = (if i = id2 then aftJ P h L J body l' id2 .normal (actOf (fnSize fn) s) (heapOf b) (roundK body l' B X (fnK P fn F)) else aftJ P h L J body l' id2 (.exit i) (actOf (fnSize fn) s) (heapOf b) (roundK body l' B X (fnK P fn F))) := by
    intro B X i s b
    simp only [jIn, hf, hc, hfl]
  have := loop_ruleJ (P := P) (h := h) (J := J) (sz := fnSize fn) hh hmix g.st g.inv g.m (id := id2) (body := body2) (l' := l2) (k := fun e A H => aftJ P h L J body l' id2 e A H (roundK body l' B X (fnK P fn F))) (R := fnK P fn F)
    (fun y hy => by
      obtain ⟨L2, h1, h2⟩ := g.round y hy
      refine ⟨L2, ?_, ptsOK_of body2 (by rw [his.1]; exact g.nd) (fun id3 b3 l3 hf3 => ?_) (fun id3 hi3 hf3 s b hs3 => ?_)⟩
      · unfold jRound2 at h1
        simp only [hf, hc, hfl, hf2, eqX] at h1
        exact h1
      · have := findLoop_ids _ _ _ hf3
        rw [his.2] at this
        cases this
      · have h3 := h2 id3 (by rw [his.1] at hi3; exact hi3) s b hs3
        unfold jIn2 at h3
        simp only [hf, hc, hfl, hf2, eqX] at h3
        exact h3)
    (fun e A H he hR => by subst he; exact aftJ_ret body (findLoop_pt body l' id2 hf2) hR)
    (fun e A H h1 h2 hR => by cases e <;> first | exact h1 rfl | exact h2 rfl | exact hR)
    y hy
  rw [e1, e2] at this
  exact this

theorem loopJ_holds (hh : HandlerOK P h) (hmix : P.follows .mixedOrders = true) {f : FuncId} {fn : Func} {c : Code} (hf : P.funcs[f]? = some fn) (hc : fn.body = some c) {id : Nat} {F : Value → Heap → Prop} {body : Code} {l' : Lv} (hfl : findLoop c (fnLv fn) id = some (body, l'))
    (g : LoopJ P h J f c (fnLv fn) id L F) {s : Slots} {b : Blocks} (hs : L id s b) :
    Holds P false (fnSize fn) (.block id (.loop body)) (actOf (fnSize fn) s) (heapOf b) (fun e A H => aftJ P h L J c (fnLv fn) id e A H (fnK P fn F)) := by
  obtain ⟨y, hy, he⟩ := g.head s b hs
  have e1 : (g.st y).1 = s := congrArg Prod.fst he
  have e2 : (g.st y).2 = b := congrArg Prod.snd he
  have his := g.is
  rw [hfl] at his
  simp only [Option.map_some, Option.some.injEq, Prod.mk.injEq] at his
  have eqX : ∀ i s b, (if i = id then jNext P h L J f id .normal s b F else jNext P h L J f id (.exit i) s b F) = (if i = id then aftJ P h L J c (fnLv fn) id .normal (actOf (fnSize fn) s) (heapOf b) (fnK P fn F) else aftJ P h L J c (fnLv fn) id (.exit i) (actOf (fnSize fn) s) (heapOf b) (fnK P fn F)) := by
    intro i s b
    simp only [jNext, hf, hc]
  have := loop_ruleJ (P := P) (h := h) (J := J) (sz := fnSize fn) hh hmix g.st g.inv g.m (id := id) (body := body) (l' := l') (k := fun e A H => aftJ P h L J c (fnLv fn) id e A H (fnK P fn F)) (R := fnK P fn F)
    (fun y hy => by
      obtain ⟨L2, h1, h2, h3⟩ := g.round y hy
      refine ⟨L2, ?_, ptsOK_of body (by rw [his.1]; exact g.nd) (fun id2 b2 l2 hf2 s b hs2 => ?_) (fun id2 hi2 hf2 s b hs2 => ?_)⟩
      · unfold jRound at h1
        simp only [hf, hc, hfl, eqX] at h1
        exact h1
      · have hm : id2 ∈ g.loops := by rw [← his.2]; exact findLoop_ids _ _ _ hf2
        obtain ⟨g2⟩ := h3 id2 hm
        have := loopJ2_holds hh hmix hf hc hfl hf2 g2 hs2
        simp only [eqX] at this
        exact this
      · have hnl : id2 ∉ g.loops := by
          intro hm
          rw [← his.2] at hm
          have := findLoop_some body l' id2 hm
          rw [hf2] at this
          cases this
        have h4 := h2 id2 (by rw [his.1] at hi2; exact hi2) hnl s b hs2
        unfold jIn at h4
        simp only [hf, hc, hfl, eqX] at h4
        exact h4)
    (fun e A H he hR => by subst he; exact aftJ_ret c (findLoop_pt c _ id hfl) hR)
    (fun e A H h1 h2 hR => by cases e <;> first | exact h1 rfl | exact h2 rfl | exact hR)
    y hy
  rw [e1, e2] at this
  exact this

theorem ptsOK_good (hh : HandlerOK P h) (hmix : P.follows .mixedOrders = true) {f : FuncId} {fn : Func} {c : Code} (hf : P.funcs[f]? = some fn) (hc : fn.body = some c) {F : Value → Heap → Prop} {pts loops : List Nat} (his : (ptIds J c, loopIds c) = (pts, loops)) (hn : nodupB pts = true)
    (hcut : ∀ id ∈ pts, id ∉ loops → ∀ s b, L id s b → jNext P h L J f id .normal s b F)
    (hl : ∀ id ∈ loops, Nonempty (LoopJ P h J f c (fnLv fn) id L F)) : ptsOK P h L J (fnSize fn) c (fnLv fn) (fnK P fn F) := by
  simp only [Prod.mk.injEq] at his
  refine ptsOK_of c (by rw [his.1]; exact hn) (fun id body l' hfl s b hs => ?_) (fun id hi hfl s b hs => ?_)
  · obtain ⟨g⟩ := hl id (by rw [← his.2]; exact findLoop_ids _ _ _ hfl)
    exact loopJ_holds hh hmix hf hc hfl g hs
  · have hnl : id ∉ loops := by
      intro hm
      rw [← his.2] at hm
      have := findLoop_some c (fnLv fn) id hm
      rw [hfl] at this
      cases this
    have h4 := hcut id (by rw [his.1] at hi; exact hi) hnl s b hs
    unfold jNext at h4
    simp only [hf, hc] at h4
    exact h4

/-- A FUNCTION IS PROVED, with cuts and loops within loops: a contract in data. -/
theorem con_J (hh : HandlerOK P h) (hmix : P.follows .mixedOrders = true) (J : List Nat) {L : AtLoop} {f : FuncId} {fn : Func} {c : Code} (hf : P.funcs[f]? = some fn) (hc : fn.body = some c) {ds rs : List D} (hcount : countV ds ≤ 400) (hsz : ds.length = fn.params.size) {pts loops : List Nat} (his : (ptIds J c, loopIds c) = (pts, loops)) (hn : nodupB pts = true)
    (hk : ∀ caps, capsL 40 (layVals caps 500 ds).1 → jFn P h L J f (layVals caps 500 ds).1.toArray (heapOf (layVals caps 500 ds).2) (dataK (· = rs)))
    (hcut : ∀ id ∈ pts, id ∉ loops → ∀ s b, L id s b → jNext P h L J f id .normal s b (dataK (· = rs)))
    (hl : ∀ id ∈ loops, Nonempty (LoopJ P h J f c (fnLv fn) id L (dataK (· = rs)))) : Con P f ds rs := by
  intro w args hr
  obtain ⟨caps, ρ, hst, g, ha⟩ := lay_gam hr hcount
  have hsz2 : max (layVals caps 500 ds).1.toArray.size fn.ntmps = fnSize fn := by simp [fnSize, layVals_len, hsz]
  refine callsIn_wide.1 ((jFn_run hh hmix hf hc (hk caps (capsL_of 40 ha)) (by rw [hsz2]; exact ptsOK_good hh hmix hf hc his hn hcut hl) g 0 (by simpa using ha)).mono ?_)
  rintro e w' ⟨v, H', ρ', v', hkv, rfl, hv, g'⟩
  obtain ⟨vs, ds', u, rfl, h1, rfl⟩ := dataK_out g' hv hkv
  exact ⟨⟨vs, u, rfl, h1⟩, g'.below.below hst⟩
end Go.Abs

/- What is left to show of each function, written out; the kernel reckons it. -/
namespace Go.Proofs.G5f
open Go Go.Abs Go.Proofs
set_option maxRecDepth 100000
set_option linter.unusedVariables false
abbrev Ct := FuncId → List D → List D → Prop
abbrev Bx := Slots → Blocks → Prop
abbrev Xx := Nat → Slots → Blocks → Prop
abbrev vI (n : Int) : Value := .int .i64 n
abbrev P1 (b o : Nat) : Value := .pointer (some ⟨b, o, none⟩)
abbrev hF : Handler := fun _ _ _ _ _ => False
abbrev wl (lo hi e : Int) : Blocks := [(901, .cells [vI lo, vI hi] 56 false 1), (902, .cells [vI e] 27 false 1)]
abbrev wm (lo hi e : Int) : Blocks := [(900, .cells [vI lo, vI hi] 56 false 1), (901, .cells [vI e] 27 false 1)]
def wt1 (cap : Nat) (lo hi e x : Int) (K : Value → Blocks → Prop) : Prop := wpFn Try.prog hF (fun _ _ _ => False) 6 135 #[.slice (some ⟨900, 0, none⟩) 1 cap, P1 901 0, P1 902 0] (heapOf ((900, .cells [vI x] 3 false 1) :: wl lo hi e)) (stateK K)
theorem wt1_text (cap : Nat) (lo : Int) (hi : Int) (e : Int) (x : Int) (K : Go.Value → Blocks → Prop) : wt1 cap lo hi e x K =
 (bcase (decide (x < lo))
 (K (vI e) [(Prod.mk 900 (AObj.cells [(vI x)] 3 false 1)), (Prod.mk 901 (AObj.cells [(vI lo), (vI hi)] 56 false 1)), (Prod.mk 902 (AObj.cells [(vI e)] 27 false 1))])
 (bcase (decide (x > hi))
 (K (vI e) [(Prod.mk 900 (AObj.cells [(vI x)] 3 false 1)), (Prod.mk 901 (AObj.cells [(vI lo), (vI hi)] 56 false 1)), (Prod.mk 902 (AObj.cells [(vI e)] 27 false 1))])
 (K (vI (0 : Int)) [(Prod.mk 900 (AObj.cells [(vI x)] 3 false 1)), (Prod.mk 901 (AObj.cells [(vI lo), (vI hi)] 56 false 1)), (Prod.mk 902 (AObj.cells [(vI e)] 27 false 1))]))) := by kernel_rfl
def wt2 (cap : Nat) (lo hi e x y : Int) (K : Value → Blocks → Prop) : Prop := wpFn Try.prog hF (fun _ _ _ => False) 6 135 #[.slice (some ⟨900, 0, none⟩) 2 cap, P1 901 0, P1 902 0] (heapOf ((900, .cells [vI x, vI y] 3 false 1) :: wl lo hi e)) (stateK K)
theorem wt2_text (cap : Nat) (lo : Int) (hi : Int) (e : Int) (x : Int) (y : Int) (K : Go.Value → Blocks → Prop) : wt2 cap lo hi e x y K =
 (bcase (decide (x < lo))
 (K (vI e) [(Prod.mk 900 (AObj.cells [(vI x), (vI y)] 3 false 1)), (Prod.mk 901 (AObj.cells [(vI lo), (vI hi)] 56 false 1)), (Prod.mk 902 (AObj.cells [(vI e)] 27 false 1))])
 (bcase (decide (x > hi))
 (K (vI e) [(Prod.mk 900 (AObj.cells [(vI x), (vI y)] 3 false 1)), (Prod.mk 901 (AObj.cells [(vI lo), (vI hi)] 56 false 1)), (Prod.mk 902 (AObj.cells [(vI e)] 27 false 1))])
 (bcase (decide (y < lo))
 (K (vI e) [(Prod.mk 900 (AObj.cells [(vI x), (vI y)] 3 false 1)), (Prod.mk 901 (AObj.cells [(vI lo), (vI hi)] 56 false 1)), (Prod.mk 902 (AObj.cells [(vI e)] 27 false 1))])
 (bcase (decide (y > hi))
 (K (vI e) [(Prod.mk 900 (AObj.cells [(vI x), (vI y)] 3 false 1)), (Prod.mk 901 (AObj.cells [(vI lo), (vI hi)] 56 false 1)), (Prod.mk 902 (AObj.cells [(vI e)] 27 false 1))])
 (K (vI (0 : Int)) [(Prod.mk 900 (AObj.cells [(vI x), (vI y)] 3 false 1)), (Prod.mk 901 (AObj.cells [(vI lo), (vI hi)] 56 false 1)), (Prod.mk 902 (AObj.cells [(vI e)] 27 false 1))]))))) := by kernel_rfl
def wt3 (cap : Nat) (lo hi e x y z : Int) (K : Value → Blocks → Prop) : Prop := wpFn Try.prog hF (fun _ _ _ => False) 6 135 #[.slice (some ⟨900, 0, none⟩) 3 cap, P1 901 0, P1 902 0] (heapOf ((900, .cells [vI x, vI y, vI z] 3 false 1) :: wl lo hi e)) (stateK K)
theorem wt3_text (cap : Nat) (lo : Int) (hi : Int) (e : Int) (x : Int) (y : Int) (z : Int) (K : Go.Value → Blocks → Prop) : wt3 cap lo hi e x y z K =
 (bcase (decide (x < lo))
 (K (vI e) [(Prod.mk 900 (AObj.cells [(vI x), (vI y), (vI z)] 3 false 1)), (Prod.mk 901 (AObj.cells [(vI lo), (vI hi)] 56 false 1)), (Prod.mk 902 (AObj.cells [(vI e)] 27 false 1))])
 (bcase (decide (x > hi))
 (K (vI e) [(Prod.mk 900 (AObj.cells [(vI x), (vI y), (vI z)] 3 false 1)), (Prod.mk 901 (AObj.cells [(vI lo), (vI hi)] 56 false 1)), (Prod.mk 902 (AObj.cells [(vI e)] 27 false 1))])
 (bcase (decide (y < lo))
 (K (vI e) [(Prod.mk 900 (AObj.cells [(vI x), (vI y), (vI z)] 3 false 1)), (Prod.mk 901 (AObj.cells [(vI lo), (vI hi)] 56 false 1)), (Prod.mk 902 (AObj.cells [(vI e)] 27 false 1))])
 (bcase (decide (y > hi))
 (K (vI e) [(Prod.mk 900 (AObj.cells [(vI x), (vI y), (vI z)] 3 false 1)), (Prod.mk 901 (AObj.cells [(vI lo), (vI hi)] 56 false 1)), (Prod.mk 902 (AObj.cells [(vI e)] 27 false 1))])
 (bcase (decide (z < lo))
 (K (vI e) [(Prod.mk 900 (AObj.cells [(vI x), (vI y), (vI z)] 3 false 1)), (Prod.mk 901 (AObj.cells [(vI lo), (vI hi)] 56 false 1)), (Prod.mk 902 (AObj.cells [(vI e)] 27 false 1))])
 (bcase (decide (z > hi))
 (K (vI e) [(Prod.mk 900 (AObj.cells [(vI x), (vI y), (vI z)] 3 false 1)), (Prod.mk 901 (AObj.cells [(vI lo), (vI hi)] 56 false 1)), (Prod.mk 902 (AObj.cells [(vI e)] 27 false 1))])
 (K (vI (0 : Int)) [(Prod.mk 900 (AObj.cells [(vI x), (vI y), (vI z)] 3 false 1)), (Prod.mk 901 (AObj.cells [(vI lo), (vI hi)] 56 false 1)), (Prod.mk 902 (AObj.cells [(vI e)] 27 false 1))]))))))) := by kernel_rfl
def wt4 (cap : Nat) (lo hi e x y z u : Int) (K : Value → Blocks → Prop) : Prop := wpFn Try.prog hF (fun _ _ _ => False) 6 135 #[.slice (some ⟨900, 0, none⟩) 4 cap, P1 901 0, P1 902 0] (heapOf ((900, .cells [vI x, vI y, vI z, vI u] 3 false 1) :: wl lo hi e)) (stateK K)
theorem wt4_text (cap : Nat) (lo : Int) (hi : Int) (e : Int) (x : Int) (y : Int) (z : Int) (u : Int) (K : Go.Value → Blocks → Prop) : wt4 cap lo hi e x y z u K =
 (bcase (decide (x < lo))
 (K (vI e) [(Prod.mk 900 (AObj.cells [(vI x), (vI y), (vI z), (vI u)] 3 false 1)), (Prod.mk 901 (AObj.cells [(vI lo), (vI hi)] 56 false 1)), (Prod.mk 902 (AObj.cells [(vI e)] 27 false 1))])
 (bcase (decide (x > hi))
 (K (vI e) [(Prod.mk 900 (AObj.cells [(vI x), (vI y), (vI z), (vI u)] 3 false 1)), (Prod.mk 901 (AObj.cells [(vI lo), (vI hi)] 56 false 1)), (Prod.mk 902 (AObj.cells [(vI e)] 27 false 1))])
 (bcase (decide (y < lo))
 (K (vI e) [(Prod.mk 900 (AObj.cells [(vI x), (vI y), (vI z), (vI u)] 3 false 1)), (Prod.mk 901 (AObj.cells [(vI lo), (vI hi)] 56 false 1)), (Prod.mk 902 (AObj.cells [(vI e)] 27 false 1))])
 (bcase (decide (y > hi))
 (K (vI e) [(Prod.mk 900 (AObj.cells [(vI x), (vI y), (vI z), (vI u)] 3 false 1)), (Prod.mk 901 (AObj.cells [(vI lo), (vI hi)] 56 false 1)), (Prod.mk 902 (AObj.cells [(vI e)] 27 false 1))])
 (bcase (decide (z < lo))
 (K (vI e) [(Prod.mk 900 (AObj.cells [(vI x), (vI y), (vI z), (vI u)] 3 false 1)), (Prod.mk 901 (AObj.cells [(vI lo), (vI hi)] 56 false 1)), (Prod.mk 902 (AObj.cells [(vI e)] 27 false 1))])
 (bcase (decide (z > hi))
 (K (vI e) [(Prod.mk 900 (AObj.cells [(vI x), (vI y), (vI z), (vI u)] 3 false 1)), (Prod.mk 901 (AObj.cells [(vI lo), (vI hi)] 56 false 1)), (Prod.mk 902 (AObj.cells [(vI e)] 27 false 1))])
 (bcase (decide (u < lo))
 (K (vI e) [(Prod.mk 900 (AObj.cells [(vI x), (vI y), (vI z), (vI u)] 3 false 1)), (Prod.mk 901 (AObj.cells [(vI lo), (vI hi)] 56 false 1)), (Prod.mk 902 (AObj.cells [(vI e)] 27 false 1))])
 (bcase (decide (u > hi))
 (K (vI e) [(Prod.mk 900 (AObj.cells [(vI x), (vI y), (vI z), (vI u)] 3 false 1)), (Prod.mk 901 (AObj.cells [(vI lo), (vI hi)] 56 false 1)), (Prod.mk 902 (AObj.cells [(vI e)] 27 false 1))])
 (K (vI (0 : Int)) [(Prod.mk 900 (AObj.cells [(vI x), (vI y), (vI z), (vI u)] 3 false 1)), (Prod.mk 901 (AObj.cells [(vI lo), (vI hi)] 56 false 1)), (Prod.mk 902 (AObj.cells [(vI e)] 27 false 1))]))))))))) := by kernel_rfl
def wt5 (cap : Nat) (lo hi e x y z u v : Int) (K : Value → Blocks → Prop) : Prop := wpFn Try.prog hF (fun _ _ _ => False) 6 135 #[.slice (some ⟨900, 0, none⟩) 5 cap, P1 901 0, P1 902 0] (heapOf ((900, .cells [vI x, vI y, vI z, vI u, vI v] 3 false 1) :: wl lo hi e)) (stateK K)
theorem wt5_text (cap : Nat) (lo : Int) (hi : Int) (e : Int) (x : Int) (y : Int) (z : Int) (u : Int) (v : Int) (K : Go.Value → Blocks → Prop) : wt5 cap lo hi e x y z u v K =
 (bcase (decide (x < lo))
 (K (vI e) [(Prod.mk 900 (AObj.cells [(vI x), (vI y), (vI z), (vI u), (vI v)] 3 false 1)), (Prod.mk 901 (AObj.cells [(vI lo), (vI hi)] 56 false 1)), (Prod.mk 902 (AObj.cells [(vI e)] 27 false 1))])
 (bcase (decide (x > hi))
 (K (vI e) [(Prod.mk 900 (AObj.cells [(vI x), (vI y), (vI z), (vI u), (vI v)] 3 false 1)), (Prod.mk 901 (AObj.cells [(vI lo), (vI hi)] 56 false 1)), (Prod.mk 902 (AObj.cells [(vI e)] 27 false 1))])
 (bcase (decide (y < lo))
 (K (vI e) [(Prod.mk 900 (AObj.cells [(vI x), (vI y), (vI z), (vI u), (vI v)] 3 false 1)), (Prod.mk 901 (AObj.cells [(vI lo), (vI hi)] 56 false 1)), (Prod.mk 902 (AObj.cells [(vI e)] 27 false 1))])
 (bcase (decide (y > hi))
 (K (vI e) [(Prod.mk 900 (AObj.cells [(vI x), (vI y), (vI z), (vI u), (vI v)] 3 false 1)), (Prod.mk 901 (AObj.cells [(vI lo), (vI hi)] 56 false 1)), (Prod.mk 902 (AObj.cells [(vI e)] 27 false 1))])
 (bcase (decide (z < lo))
 (K (vI e) [(Prod.mk 900 (AObj.cells [(vI x), (vI y), (vI z), (vI u), (vI v)] 3 false 1)), (Prod.mk 901 (AObj.cells [(vI lo), (vI hi)] 56 false 1)), (Prod.mk 902 (AObj.cells [(vI e)] 27 false 1))])
 (bcase (decide (z > hi))
 (K (vI e) [(Prod.mk 900 (AObj.cells [(vI x), (vI y), (vI z), (vI u), (vI v)] 3 false 1)), (Prod.mk 901 (AObj.cells [(vI lo), (vI hi)] 56 false 1)), (Prod.mk 902 (AObj.cells [(vI e)] 27 false 1))])
 (bcase (decide (u < lo))
 (K (vI e) [(Prod.mk 900 (AObj.cells [(vI x), (vI y), (vI z), (vI u), (vI v)] 3 false 1)), (Prod.mk 901 (AObj.cells [(vI lo), (vI hi)] 56 false 1)), (Prod.mk 902 (AObj.cells [(vI e)] 27 false 1))])
 (bcase (decide (u > hi))
 (K (vI e) [(Prod.mk 900 (AObj.cells [(vI x), (vI y), (vI z), (vI u), (vI v)] 3 false 1)), (Prod.mk 901 (AObj.cells [(vI lo), (vI hi)] 56 false 1)), (Prod.mk 902 (AObj.cells [(vI e)] 27 false 1))])
 (bcase (decide (v < lo))
 (K (vI e) [(Prod.mk 900 (AObj.cells [(vI x), (vI y), (vI z), (vI u), (vI v)] 3 false 1)), (Prod.mk 901 (AObj.cells [(vI lo), (vI hi)] 56 false 1)), (Prod.mk 902 (AObj.cells [(vI e)] 27 false 1))])
 (bcase (decide (v > hi))
 (K (vI e) [(Prod.mk 900 (AObj.cells [(vI x), (vI y), (vI z), (vI u), (vI v)] 3 false 1)), (Prod.mk 901 (AObj.cells [(vI lo), (vI hi)] 56 false 1)), (Prod.mk 902 (AObj.cells [(vI e)] 27 false 1))])
 (K (vI (0 : Int)) [(Prod.mk 900 (AObj.cells [(vI x), (vI y), (vI z), (vI u), (vI v)] 3 false 1)), (Prod.mk 901 (AObj.cells [(vI lo), (vI hi)] 56 false 1)), (Prod.mk 902 (AObj.cells [(vI e)] 27 false 1))]))))))))))) := by kernel_rfl
def wt0 (lo hi e : Int) (K : Value → Blocks → Prop) : Prop := wpFn Try.prog hF (fun _ _ _ => False) 6 135 #[.slice none 0 0, P1 900 0, P1 901 0] (heapOf (wm lo hi e)) (stateK K)
theorem wt0_text (lo : Int) (hi : Int) (e : Int) (K : Go.Value → Blocks → Prop) : wt0 lo hi e K =
 (K (vI (0 : Int)) [(Prod.mk 900 (AObj.cells [(vI lo), (vI hi)] 56 false 1)), (Prod.mk 901 (AObj.cells [(vI e)] 27 false 1))]) := by kernel_rfl
def wtH (L : AtLoop) (lo hi e : Int) (n cap : Nat) (l : List Value) (K : Value → Blocks → Prop) : Prop := wpFn Try.prog hF L 0 135 #[.slice (some ⟨500, 0, none⟩) n cap, P1 900 0, P1 901 0] (heapOf ((500, .sym l false 1) :: wm lo hi e)) (stateK K)
theorem wtH_text (L : AtLoop) (lo : Int) (hi : Int) (e : Int) (n : Nat) (cap : Nat) (l : List Go.Value) (K : Go.Value → Blocks → Prop) : wtH L lo hi e n cap l K =
 (L 0 [(Prod.mk 1 (Go.Value.pointer (Option.some (Go.Addr.mk 900 0 Option.none)))), (Prod.mk 2 (Go.Value.pointer (Option.some (Go.Addr.mk 901 0 Option.none)))), (Prod.mk 7 (Go.Value.slice (Option.some (Go.Addr.mk 500 0 Option.none)) (n) (cap))), (Prod.mk 8 (vI ((↑n : Int)))), (Prod.mk 9 (vI (0 : Int)))] [(Prod.mk 900 (AObj.cells [(vI lo), (vI hi)] 56 false 1)), (Prod.mk 901 (AObj.cells [(vI e)] 27 false 1)), (Prod.mk 500 (AObj.sym (l) false 1))]) := by kernel_rfl
def wtO (L : AtLoop) (lo hi e : Int) (n cap : Nat) (l : List Value) (K : Value → Blocks → Prop) : Prop := wpFn Try.prog hF L 0 135 #[.slice (some ⟨900, 0, none⟩) n cap, P1 901 0, P1 902 0] (heapOf ((900, .sym l true 1) :: wl lo hi e)) (stateK K)
theorem wtO_text (L : AtLoop) (lo : Int) (hi : Int) (e : Int) (n : Nat) (cap : Nat) (l : List Go.Value) (K : Go.Value → Blocks → Prop) : wtO L lo hi e n cap l K =
 (L 0 [(Prod.mk 1 (Go.Value.pointer (Option.some (Go.Addr.mk 901 0 Option.none)))), (Prod.mk 2 (Go.Value.pointer (Option.some (Go.Addr.mk 902 0 Option.none)))), (Prod.mk 7 (Go.Value.slice (Option.some (Go.Addr.mk 900 0 Option.none)) (n) (cap))), (Prod.mk 8 (vI ((↑n : Int)))), (Prod.mk 9 (vI (0 : Int)))] [(Prod.mk 901 (AObj.cells [(vI lo), (vI hi)] 56 false 1)), (Prod.mk 902 (AObj.cells [(vI e)] 27 false 1)), (Prod.mk 900 (AObj.sym (l) true 1))]) := by kernel_rfl
def sWH (n cap : Nat) (i : Int) : Slots := [(1, P1 900 0), (2, P1 901 0), (7, .slice (some ⟨500, 0, none⟩) n cap), (8, .int .i64 n), (9, vI i)]
def bWH (lo hi e : Int) (l : List Value) : Blocks := [(900, .cells [vI lo, vI hi] 56 false 1), (901, .cells [vI e] 27 false 1), (500, .sym l false 1)]
def rWH (L : AtLoop) (lo hi e : Int) (n cap : Nat) (l : List Value) (i : Int) (B : Bx) (X : Xx) (K : Value → Blocks → Prop) : Prop := wpRound Try.prog hF L 135 0 (sWH n cap i) (bWH lo hi e l) B X (stateK K)
theorem rWH_text (L : AtLoop) (lo : Int) (hi : Int) (e : Int) (n : Nat) (cap : Nat) (l : List Go.Value) (i : Int) (B : Bx) (X : Xx) (K : Go.Value → Blocks → Prop) : rWH L lo hi e n cap l i B X K =
 (bcase (decide (i < (↑n : Int)))
 (bcase (decide (0 ≤ i))
 (bcase (decide (i < (↑n : Int)))
 (∃ n1 : Int,
 ((At (l) (0 + Int.toNat i * 1) 1 [(vI n1)]) ∧
 (bcase (decide (n1 < lo))
 (K (vI e) [(Prod.mk 900 (AObj.cells [(vI lo), (vI hi)] 56 false 1)), (Prod.mk 901 (AObj.cells [(vI e)] 27 false 1))])
 (bcase (decide (n1 > hi))
 (K (vI e) [(Prod.mk 900 (AObj.cells [(vI lo), (vI hi)] 56 false 1)), (Prod.mk 901 (AObj.cells [(vI e)] 27 false 1))])
 (B [(Prod.mk 1 (Go.Value.pointer (Option.some (Go.Addr.mk 900 0 Option.none)))), (Prod.mk 2 (Go.Value.pointer (Option.some (Go.Addr.mk 901 0 Option.none)))), (Prod.mk 7 (Go.Value.slice (Option.some (Go.Addr.mk 500 0 Option.none)) (n) (cap))), (Prod.mk 8 (vI ((↑n : Int)))), (Prod.mk 9 (vI (IntKind.wrap .i64 (i + 1))))] [(Prod.mk 900 (AObj.cells [(vI lo), (vI hi)] 56 false 1)), (Prod.mk 901 (AObj.cells [(vI e)] 27 false 1)), (Prod.mk 500 (AObj.sym (l) false 1))])))))
 False)
 False)
 (X 0 [] [(Prod.mk 900 (AObj.cells [(vI lo), (vI hi)] 56 false 1)), (Prod.mk 901 (AObj.cells [(vI e)] 27 false 1))])) := by kernel_rfl
def nWH (L : AtLoop) (lo hi e : Int) (K : Value → Blocks → Prop) : Prop := wpNext Try.prog hF L 135 0 .normal [] (wm lo hi e) (stateK K)
theorem nWH_text (L : AtLoop) (lo : Int) (hi : Int) (e : Int) (K : Go.Value → Blocks → Prop) : nWH L lo hi e K =
 (K (vI (0 : Int)) [(Prod.mk 900 (AObj.cells [(vI lo), (vI hi)] 56 false 1)), (Prod.mk 901 (AObj.cells [(vI e)] 27 false 1))]) := by kernel_rfl
def sWO (n cap : Nat) (i : Int) : Slots := [(1, P1 901 0), (2, P1 902 0), (7, .slice (some ⟨900, 0, none⟩) n cap), (8, .int .i64 n), (9, vI i)]
def bWO (lo hi e : Int) (l : List Value) : Blocks := [(901, .cells [vI lo, vI hi] 56 false 1), (902, .cells [vI e] 27 false 1), (900, .sym l true 1)]
def rWO (L : AtLoop) (lo hi e : Int) (n cap : Nat) (l : List Value) (i : Int) (B : Bx) (X : Xx) (K : Value → Blocks → Prop) : Prop := wpRound Try.prog hF L 135 0 (sWO n cap i) (bWO lo hi e l) B X (stateK K)
theorem rWO_text (L : AtLoop) (lo : Int) (hi : Int) (e : Int) (n : Nat) (cap : Nat) (l : List Go.Value) (i : Int) (B : Bx) (X : Xx) (K : Go.Value → Blocks → Prop) : rWO L lo hi e n cap l i B X K =
 (bcase (decide (i < (↑n : Int)))
 (bcase (decide (0 ≤ i))
 (bcase (decide (i < (↑n : Int)))
 (∃ n1 : Int,
 ((At (l) (0 + Int.toNat i * 1) 1 [(vI n1)]) ∧
 (bcase (decide (n1 < lo))
 (K (vI e) [(Prod.mk 900 (AObj.sym (l) true 1)), (Prod.mk 901 (AObj.cells [(vI lo), (vI hi)] 56 false 1)), (Prod.mk 902 (AObj.cells [(vI e)] 27 false 1))])
 (bcase (decide (n1 > hi))
 (K (vI e) [(Prod.mk 900 (AObj.sym (l) true 1)), (Prod.mk 901 (AObj.cells [(vI lo), (vI hi)] 56 false 1)), (Prod.mk 902 (AObj.cells [(vI e)] 27 false 1))])
 (B [(Prod.mk 1 (Go.Value.pointer (Option.some (Go.Addr.mk 901 0 Option.none)))), (Prod.mk 2 (Go.Value.pointer (Option.some (Go.Addr.mk 902 0 Option.none)))), (Prod.mk 7 (Go.Value.slice (Option.some (Go.Addr.mk 900 0 Option.none)) (n) (cap))), (Prod.mk 8 (vI ((↑n : Int)))), (Prod.mk 9 (vI (IntKind.wrap .i64 (i + 1))))] [(Prod.mk 901 (AObj.cells [(vI lo), (vI hi)] 56 false 1)), (Prod.mk 902 (AObj.cells [(vI e)] 27 false 1)), (Prod.mk 900 (AObj.sym (l) true 1))])))))
 False)
 False)
 (X 0 [] [(Prod.mk 900 (AObj.sym (l) true 1)), (Prod.mk 901 (AObj.cells [(vI lo), (vI hi)] 56 false 1)), (Prod.mk 902 (AObj.cells [(vI e)] 27 false 1))])) := by kernel_rfl
def nWO (L : AtLoop) (lo hi e : Int) (l : List Value) (K : Value → Blocks → Prop) : Prop := wpNext Try.prog hF L 135 0 .normal [] ((900, .sym l true 1) :: wl lo hi e) (stateK K)
theorem nWO_text (L : AtLoop) (lo : Int) (hi : Int) (e : Int) (l : List Go.Value) (K : Go.Value → Blocks → Prop) : nWO L lo hi e l K =
 (K (vI (0 : Int)) [(Prod.mk 900 (AObj.sym (l) true 1)), (Prod.mk 901 (AObj.cells [(vI lo), (vI hi)] 56 false 1)), (Prod.mk 902 (AObj.cells [(vI e)] 27 false 1))]) := by kernel_rfl
end Go.Proofs.G5f

/- A call that gives back what it was handed: it holds. -/
namespace Go.Abs
open Go.RowKit
variable {P : Program} {H : Heap}
theorem layC_out : ∀ (ds : List D) {H : Heap} {k : List Value → Heap → Prop}, layC ds H k → ∃ vs H', LaidC H ds vs H' ∧ k vs H'
  | [], H, k, h => ⟨_, _, .nil H, h⟩
  | .nil :: r, H, k, h => by
    obtain ⟨vs, H', h1, h2⟩ := layC_out r h
    exact ⟨_, _, .nilS h1, h2⟩
  | .sl n es cs :: r, H, k, h => by
    obtain ⟨vs, H', h1, h2⟩ := layC_out r h
    exact ⟨_, _, .sl n es cs h1, h2⟩
  | .val v :: r, H, k, h => by
    unfold layC at h
    split at h
    · cases h
    · rename_i hv
      obtain ⟨vs, H', h1, h2⟩ := layC_out r h
      exact ⟨_, _, .val _ (fun cs e => hv cs e) h1, h2⟩
  | .agg _ :: _, H, k, h => by cases h
theorem layV_out : ∀ (ds : List D) {H : Heap} {k : List Value → Heap → Prop}, layV ds H k → ∃ vs H', LaidV H ds vs H' ∧ k vs H'
  | [], H, k, h => ⟨_, _, .nil H, h⟩
  | d :: r, H, k, h => by
    unfold layV at h
    split at h
    · rename_i e; cases e
    · rename_i e; cases e
      obtain ⟨vs, H1, h1, h⟩ := layC_out _ h
      obtain ⟨us, H2, h2, h3⟩ := layV_out _ h
      exact ⟨_, _, .agg h1 h2, h3⟩
    · rename_i e; cases e
      obtain ⟨vs, H1, h1, h⟩ := layC_out _ h
      split at h
      · obtain ⟨us, H2, h2, h3⟩ := layV_out _ h
        exact ⟨_, _, .one h1 h2, h3⟩
      · cases h
theorem wpFix_call {C : FuncId → List D → List D → Prop} (hC : ∀ f ds rs, C f ds rs → Con P f ds rs) {f : FuncId} {fix : List D → Option (List D)} {args : Array Value} {k : Value → Heap → Prop} (hk : wpFix C f fix args H k) : CallH P f args H k := by
  intro w0 ρ w args' n g ha
  obtain ⟨ds, hr, hk⟩ := readVals_out g _ ha hk
  split at hk
  · rename_i rs _
    obtain ⟨hs, hk⟩ := hk
    obtain ⟨vs, H', hl, hk⟩ := layV_out rs hk
    refine callsIn_wide.2 ((hC f ds rs hs.out w args' hr).mono ?_)
    rintro e w' ⟨⟨vs', u, rfl, hg⟩, hb⟩
    obtain ⟨ρ', g', l', e', _⟩ := laidV_sound hl (g.grow hb) g.below.size (fun i m hm => .inl (g.own i m hm).1) hg
    exact ⟨_, H', ρ', _, hk, rfl, tupleOf_R l', g', e'⟩
  · exact hk.elim
end Go.Abs

/- Handlers by a table hold if each entry does. -/
namespace Go.Abs
open Go.RowKit
variable {P : Program}
theorem saidH_ok {C : FuncId → List D → List D → Prop} (hC : ∀ f ds rs, C f ds rs → Con P f ds rs) : HandlerOK P (saidH P C) := by
  intro g args ats H k hk
  unfold saidH at hk
  split at hk
  · exact wpSaid_call hC hk
  · exact hk.elim
theorem fixH_ok {C : FuncId → List D → List D → Prop} (hC : ∀ f ds rs, C f ds rs → Con P f ds rs) {fix : List D → Option (List D)} : HandlerOK P (fixH C fix) := fun _ _ _ _ _ hk => wpFix_call hC hk
/-- (a state contract speaks of one function) -/
def PreOK (P : Program) (pre : FuncId → Option Handler) : Prop := ∀ g h, pre g = some h → ∀ args ats H k, h g args ats H k → CallH P g args H k
theorem handlerX_ok (hmix : P.follows .mixedOrders = true) {pre : FuncId → Option Handler} (hp : PreOK P pre) {u : Nat} (hu : u ≠ 0) : ∀ n, HandlerOK P (handlerX P pre u n)
  | 0 => fun _ _ _ _ _ h => h.elim
  | n + 1 => fun g args ats H k hk => by
    simp only [handlerX] at hk
    split at hk
    · rename_i h he
      exact hp g h he args ats H k hk
    · exact wpFn_call (handlerX_ok hmix hp hu n) hmix hu hk
theorem falseH_ok : HandlerOK P (fun _ _ _ _ _ => False) := fun _ _ _ _ _ h => h.elim
/-- A function whose loops are walked round by round. -/
theorem callS_walk {h : Handler} (hh : HandlerOK P h) (hmix : P.follows .mixedOrders = true) {u : Nat} (hu : u ≠ 0) {f : FuncId} {fn : Func} {c : Code} (hf : P.funcs[f]? = some fn) (hc : fn.body = some c) {args : List Value} {bs : Blocks} {K : Value → Blocks → Prop}
    (hk : wpFn P h (fun _ _ _ => False) u f args.toArray (heapOf bs) (stateK K)) : CallS P f args bs K := by
  intro w0 ρ w args' n g ha
  refine (wpFn_run (u := u) (b := false) hh hmix (fun h0 => absurd h0 hu) hf hc hk (fun h0 => absurd h0 hu) g n (by simpa using ha)).mono ?_
  rintro e w' ⟨v, H', ρ', v', hkv, rfl, hv, g', _⟩
  obtain ⟨v2, bs', ρ2, h1, h2, h3⟩ := stateK_out g' hv hkv
  exact ⟨v2, bs', ρ2, v', h1, rfl, h2, h3⟩
/-- The same, with data. -/
theorem con_walk {h : Handler} (hh : HandlerOK P h) (hmix : P.follows .mixedOrders = true) {u : Nat} (hu : u ≠ 0) {f : FuncId} {fn : Func} {c : Code} (hf : P.funcs[f]? = some fn) (hc : fn.body = some c) {ds rs : List D} (hcount : countV ds ≤ 400)
    (hk : ∀ caps, wpFn P h (fun _ _ _ => False) u f (layVals caps 500 ds).1.toArray (heapOf (layVals caps 500 ds).2) (dataK (· = rs))) : Con P f ds rs := by
  intro w args hr
  obtain ⟨caps, ρ, hst, g, ha⟩ := lay_gam hr hcount
  refine callsIn_wide.1 ((wpFn_run (u := u) (b := false) hh hmix (fun h0 => absurd h0 hu) hf hc (hk caps) (fun h0 => absurd h0 hu) g 0 (by simpa using ha)).mono ?_)
  rintro e w' ⟨v, H', ρ', v', hkv, rfl, hv, g', _⟩
  obtain ⟨vs, ds', u, rfl, h1, rfl⟩ := dataK_out g' hv hkv
  exact ⟨⟨vs, u, rfl, h1⟩, g'.below.below hst⟩
theorem callS_mono {f : FuncId} {args : List Value} {bs : Blocks} {K K' : Value → Blocks → Prop} (h : CallS P f args bs K) (hk : ∀ v b, K v b → K' v b) : CallS P f args bs K' := by
  intro w0 ρ w args' n g ha
  refine (h w0 ρ w args' n g ha).mono ?_
  rintro e w' ⟨v2, bs', ρ2, v', h1, h2, h3, h4⟩
  exact ⟨v2, bs', ρ2, v', hk _ _ h1, h2, h3, h4⟩
abbrev limBs (ti : TypeId) (cs : List Value) (lo hi : Int) : Blocks := [(900, .cells cs ti false 1), (901, .cells [.int .i64 lo] ti false 1), (902, .cells [.int .i64 hi] ti false 1)]
abbrev limArgs (n cap : Nat) : List Value := [.slice (some ⟨900, 0, none⟩) n cap, .pointer (some ⟨901, 0, none⟩), .pointer (some ⟨902, 0, none⟩)]
/-- What is left to show of the function that limit returns. -/
def limGoal (P : Program) (f : FuncId) (ti : TypeId) (n : Nat) (cs : List Value) (cap : Nat) (lo hi : Int) (K : Value → Blocks → Prop) : Prop :=
  wpFn P (fun _ _ _ _ _ => False) (fun _ _ _ => False) 6 f (limArgs n cap).toArray (heapOf (limBs ti cs lo hi)) (stateK K)
structure LimGood (P : Program) (f : FuncId) (ti : TypeId) : Prop where
  mix : P.follows .mixedOrders = true
  fn : ∃ fn c, P.funcs[f]? = some fn ∧ fn.body = some c
  one : ∀ cap lo hi x, limGoal P f ti 1 [.int .i64 x] cap lo hi (fun v b => v = .int .i64 (limE lo hi [.int .i64 x]) ∧ b = limBs ti [.int .i64 x] lo hi)
  two : ∀ cap lo hi x y, limGoal P f ti 2 [.int .i64 x, .int .i64 y] cap lo hi (fun v b => v = .int .i64 (limE lo hi [.int .i64 x, .int .i64 y]) ∧ b = limBs ti [.int .i64 x, .int .i64 y] lo hi)
  three : ∀ cap lo hi x y z, limGoal P f ti 3 [.int .i64 x, .int .i64 y, .int .i64 z] cap lo hi (fun v b => v = .int .i64 (limE lo hi [.int .i64 x, .int .i64 y, .int .i64 z]) ∧ b = limBs ti [.int .i64 x, .int .i64 y, .int .i64 z] lo hi)
  four : ∀ cap lo hi x y z u, limGoal P f ti 4 [.int .i64 x, .int .i64 y, .int .i64 z, .int .i64 u] cap lo hi (fun v b => v = .int .i64 (limE lo hi [.int .i64 x, .int .i64 y, .int .i64 z, .int .i64 u]) ∧ b = limBs ti [.int .i64 x, .int .i64 y, .int .i64 z, .int .i64 u] lo hi)
end Go.Abs

/- Pairs of whole numbers as cells. -/
namespace Go.Abs
theorem bc_t {p : Prop} [Decidable p] {x y : Prop} (h : p) : bcase (decide p) x y = x := by rw [decide_eq_true h]; rfl
theorem bc_f {p : Prop} [Decidable p] {x y : Prop} (h : ¬ p) : bcase (decide p) x y = y := by rw [decide_eq_false h]; rfl
/-- pairs of whole numbers as cells -/
def vp : List (Int × Int) → List Value
  | [] => []
  | p :: r => .int .i64 p.1 :: .int .i64 p.2 :: vp r
@[simp] theorem vp_length : ∀ l : List (Int × Int), (vp l).length = l.length * 2
  | [] => rfl
  | p :: r => by simp only [vp, List.length_cons, vp_length r]; omega
theorem vp_drop : ∀ (l : List (Int × Int)) (i : Nat), (vp l).drop (i * 2) = vp (l.drop i)
  | l, 0 => by simp
  | [], i + 1 => by simp [vp]
  | p :: r, i + 1 => by
    rw [Nat.add_mul]
    simp only [vp, Nat.one_mul, List.drop_succ_cons]
    exact vp_drop r i
theorem vp_two (l : List (Int × Int)) (i : Nat) (h : i < l.length) : At (vp l) (0 + i * 2) 2 [.int .i64 l[i].1, .int .i64 l[i].2] := by
  refine ⟨by rw [vp_length]; omega, ?_⟩
  rw [Nat.zero_add, vp_drop, List.drop_eq_getElem_cons h]
  rfl
theorem vp_one (l : List (Int × Int)) (i : Nat) (h : i < l.length) : At (vp l) (0 + i * 2) 1 [.int .i64 l[i].1] := by
  refine ⟨by rw [vp_length]; omega, ?_⟩
  rw [Nat.zero_add, vp_drop, List.drop_eq_getElem_cons h]
  rfl
theorem vp_snd (l : List (Int × Int)) (i : Nat) (h : i < l.length) : At (vp l) (0 + i * 2 + 1) 1 [.int .i64 l[i].2] := by
  refine ⟨by rw [vp_length]; omega, ?_⟩
  rw [Nat.zero_add, ← List.drop_drop, vp_drop, List.drop_eq_getElem_cons h]
  rfl
theorem vp_whole (l : List (Int × Int)) : List.take (l.length * 2) (List.drop 0 (vp l)) = vp l := by simp [List.take_of_length_le]
theorem bc_n {a b : Int} {x y : Prop} (h : a ≠ b) : bcase (a != b) x y = x := by rw [show (a != b) = true by simpa using h]; rfl
/-- what is loaded is what is there -/
theorem at1 {l : List Value} {k : Nat} {a : Int} (h : At l k 1 [.int .i64 a]) {Q : Int → Prop} : (∃ n : Int, At l k 1 [.int .i64 n] ∧ Q n) = Q a := by
  apply propext
  constructor
  · rintro ⟨n, hn, hq⟩
    have e := hn.eq.symm.trans h.eq
    simp only [List.cons.injEq, Value.int.injEq, true_and, and_true] at e
    rw [← e]; exact hq
  · intro hq; exact ⟨a, h, hq⟩
theorem at2 {l : List Value} {k : Nat} {a b : Int} (h : At l k 2 [.int .i64 a, .int .i64 b]) {Q : Int → Int → Prop} : (∃ n : Int, ∃ m : Int, At l k 2 [.int .i64 n, .int .i64 m] ∧ Q n m) = Q a b := by
  apply propext
  constructor
  · rintro ⟨n, m, hn, hq⟩
    have e := hn.eq.symm.trans h.eq
    simp only [List.cons.injEq, Value.int.injEq, true_and, and_true] at e
    obtain ⟨rfl, rfl⟩ := e; exact hq
  · intro hq; exact ⟨a, b, h, hq⟩
theorem vp_sndA (l : List (Int × Int)) (i : Nat) (h : i < l.length) (b : Nat) : At (vp l) (Addr.off ⟨b, 0 + i * 2, none⟩ + 1) 1 [.int .i64 l[i].2] := vp_snd l i h
abbrev dI (n : Int) : D := .val (.int .i64 n)
/-- the first number that is not naught -/
def fst0 : List Int → Int
  | [] => 0
  | p :: r => if p = 0 then fst0 r else p
theorem fst0_two (a b : Int) : fst0 [a, b] = if a = 0 then b else a := by
  simp only [fst0]
  split
  · split
    · omega
    · rfl
  · rfl
end Go.Abs

/- The closure of within: whatever it is handed. -/
namespace Go.Proofs.G5f
open Go Go.Abs Go.Proofs
set_option maxRecDepth 100000
theorem mixed : Try.prog.follows .mixedOrders = true := by kernel_rfl
theorem witC_out {g : FuncId} {lo hi e r : Int} {n es : Nat} {cs : List Value} (h : Says witC g [.val (.int .i64 lo), .val (.int .i64 hi), .val (.int .i64 e), .sl n es cs] [.val (.int .i64 r)]) : r = witE lo hi e cs := h.out
abbrev WK (lo hi e : Int) (cs : List Value) (bs : Blocks) : Value → Blocks → Prop := fun v b => v = .int .i64 (witE lo hi e cs) ∧ b = bs
theorem wit1 (cap : Nat) (lo hi e x : Int) : wt1 cap lo hi e x (WK lo hi e [vI x] ((900, .cells [vI x] 3 false 1) :: wl lo hi e)) := by
  rw [wt1_text]; unfold WK
  repeat' refine bc_dec (fun _ => ?_) (fun _ => ?_)
  all_goals refine ⟨congrArg (Value.int .i64) ?_, rfl⟩
  all_goals (simp only [witE]; repeat' split)
  all_goals first | rfl | omega
theorem wit2 (cap : Nat) (lo hi e x y : Int) : wt2 cap lo hi e x y (WK lo hi e [vI x, vI y] ((900, .cells [vI x, vI y] 3 false 1) :: wl lo hi e)) := by
  rw [wt2_text]; unfold WK
  repeat' refine bc_dec (fun _ => ?_) (fun _ => ?_)
  all_goals refine ⟨congrArg (Value.int .i64) ?_, rfl⟩
  all_goals (simp only [witE]; repeat' split)
  all_goals first | rfl | omega
theorem wit3 (cap : Nat) (lo hi e x y z : Int) : wt3 cap lo hi e x y z (WK lo hi e [vI x, vI y, vI z] ((900, .cells [vI x, vI y, vI z] 3 false 1) :: wl lo hi e)) := by
  rw [wt3_text]; unfold WK
  repeat' refine bc_dec (fun _ => ?_) (fun _ => ?_)
  all_goals refine ⟨congrArg (Value.int .i64) ?_, rfl⟩
  all_goals (simp only [witE]; repeat' split)
  all_goals first | rfl | omega
theorem wit4 (cap : Nat) (lo hi e x y z u : Int) : wt4 cap lo hi e x y z u (WK lo hi e [vI x, vI y, vI z, vI u] ((900, .cells [vI x, vI y, vI z, vI u] 3 false 1) :: wl lo hi e)) := by
  rw [wt4_text]; unfold WK
  repeat' refine bc_dec (fun _ => ?_) (fun _ => ?_)
  all_goals refine ⟨congrArg (Value.int .i64) ?_, rfl⟩
  all_goals (simp only [witE]; repeat' split)
  all_goals first | rfl | omega
theorem wit5 (cap : Nat) (lo hi e x y z u v : Int) : wt5 cap lo hi e x y z u v (WK lo hi e [vI x, vI y, vI z, vI u, vI v] ((900, .cells [vI x, vI y, vI z, vI u, vI v] 3 false 1) :: wl lo hi e)) := by
  rw [wt5_text]; unfold WK
  repeat' refine bc_dec (fun _ => ?_) (fun _ => ?_)
  all_goals refine ⟨congrArg (Value.int .i64) ?_, rfl⟩
  all_goals (simp only [witE]; repeat' split)
  all_goals first | rfl | omega
theorem wit0 (lo hi e : Int) : wt0 lo hi e (fun v b => v = .int .i64 0 ∧ b = wm lo hi e) := by
  rw [wt0_text]; exact ⟨rfl, rfl⟩
theorem witE_drop {lo hi e : Int} (l : List Int) (i : Nat) (h : i < l.length) : witE lo hi e (vi (l.drop i)) = if l[i] < lo ∨ l[i] > hi then e else witE lo hi e (vi (l.drop (i + 1))) := by
  rw [List.drop_eq_getElem_cons h]; rfl
theorem witH (cap : Nat) (lo hi e : Int) (l : List Int) (hlen : l.length < 1000000000) : CallS Try.prog 135 [.slice (some ⟨500, 0, none⟩) l.length cap, P1 900 0, P1 901 0] ((500, .sym (vi l) false 1) :: wm lo hi e) (WK lo hi e (vi l) (wm lo hi e)) := by
  let inv : Nat → Prop := fun i => i ≤ l.length ∧ witE lo hi e (vi l) = witE lo hi e (vi (l.drop i))
  let st : Nat → Slots × Blocks := fun i => (sWH l.length cap i, bWH lo hi e (vi l))
  refine callS_ofG (L := fun _ s b => ∃ x, inv x ∧ st x = (s, b)) falseH_ok mixed Try.func135 rfl rfl (ids := [0]) (by kernel_rfl) rfl ?_ (fun id hid => ?_)
  · show wtH _ lo hi e l.length cap (vi l) _
    rw [wtH_text]
    exact ⟨0, ⟨Nat.zero_le _, rfl⟩, rfl⟩
  · obtain rfl := List.mem_singleton.1 hid
    refine ⟨_, st, inv, fun i => l.length - i, ⟨fun s b h => h, by kernel_rfl, ?_⟩⟩
    rintro i ⟨hi', hm⟩
    show rWH _ lo hi e l.length cap (vi l) (i : Int) _ _ _
    rw [rWH_text]
    refine bc_dec (fun h => ?_) (fun h => ?_)
    · have hi2 : i < l.length := by omega
      rw [witE_drop l i hi2] at hm
      simp only [bc_t h, bc_t (show (0 : Int) ≤ (i : Int) by omega), Int.toNat_natCast, at1 (vi_at l i hi2)]
      refine bc_dec (fun h1 => ?_) (fun h1 => bc_dec (fun h2 => ?_) (fun h2 => ?_))
      · rw [if_pos (.inl h1)] at hm; exact ⟨by rw [hm], rfl⟩
      · rw [if_pos (.inr h2)] at hm; exact ⟨by rw [hm], rfl⟩
      · rw [if_neg (by omega)] at hm
        refine ⟨i + 1, ⟨hi2, hm⟩, by omega, ?_⟩
        rw [w64 (by omega) (by omega)]; rfl
    · show (if 0 = 0 then _ else _)
      rw [if_pos rfl]
      show nWH _ lo hi e _
      rw [nWH_text]
      have : i = l.length := by omega
      rw [this, List.drop_length] at hm
      exact ⟨by rw [hm]; rfl, rfl⟩
theorem witO (cap : Nat) (lo hi e : Int) (l : List Int) (hlen : l.length < 1000000000) : CallS Try.prog 135 [.slice (some ⟨900, 0, none⟩) l.length cap, P1 901 0, P1 902 0] ((900, .sym (vi l) true 1) :: wl lo hi e) (WK lo hi e (vi l) ((900, .sym (vi l) true 1) :: wl lo hi e)) := by
  let inv : Nat → Prop := fun i => i ≤ l.length ∧ witE lo hi e (vi l) = witE lo hi e (vi (l.drop i))
  let st : Nat → Slots × Blocks := fun i => (sWO l.length cap i, bWO lo hi e (vi l))
  refine callS_ofG (L := fun _ s b => ∃ x, inv x ∧ st x = (s, b)) falseH_ok mixed Try.func135 rfl rfl (ids := [0]) (by kernel_rfl) rfl ?_ (fun id hid => ?_)
  · show wtO _ lo hi e l.length cap (vi l) _
    rw [wtO_text]
    exact ⟨0, ⟨Nat.zero_le _, rfl⟩, rfl⟩
  · obtain rfl := List.mem_singleton.1 hid
    refine ⟨_, st, inv, fun i => l.length - i, ⟨fun s b h => h, by kernel_rfl, ?_⟩⟩
    rintro i ⟨hi', hm⟩
    show rWO _ lo hi e l.length cap (vi l) (i : Int) _ _ _
    rw [rWO_text]
    refine bc_dec (fun h => ?_) (fun h => ?_)
    · have hi2 : i < l.length := by omega
      rw [witE_drop l i hi2] at hm
      simp only [bc_t h, bc_t (show (0 : Int) ≤ (i : Int) by omega), Int.toNat_natCast, at1 (vi_at l i hi2)]
      refine bc_dec (fun h1 => ?_) (fun h1 => bc_dec (fun h2 => ?_) (fun h2 => ?_))
      · rw [if_pos (.inl h1)] at hm; exact ⟨by rw [hm], rfl⟩
      · rw [if_pos (.inr h2)] at hm; exact ⟨by rw [hm], rfl⟩
      · rw [if_neg (by omega)] at hm
        refine ⟨i + 1, ⟨hi2, hm⟩, by omega, ?_⟩
        rw [w64 (by omega) (by omega)]; rfl
    · show (if 0 = 0 then _ else _)
      rw [if_pos rfl]
      show nWO _ lo hi e (vi l) _
      rw [nWO_text]
      have : i = l.length := by omega
      rw [this, List.drop_length] at hm
      exact ⟨by rw [hm]; rfl, rfl⟩
theorem wit_run {args : List Value} {bs : Blocks} {lo hi e : Int} {n : Nat} {cs : List Value} {bs' : Blocks} {K : Value → Blocks → Prop} (h1 : CallS Try.prog 135 args bs (WK lo hi e cs bs')) (h2 : witOut lo hi e n cs bs' K) : CallS Try.prog 135 args bs K := by
  refine callS_mono h1 ?_
  rintro v b ⟨rfl, rfl⟩
  obtain ⟨r, hr, hK⟩ := h2
  rw [← witC_out hr]; exact hK
theorem wit_ok {args : List Value} {bs : Blocks} {K : Value → Blocks → Prop} (hk : witAll 3 56 27 args bs K) : CallS Try.prog 135 args bs K := by
  have wk : ∀ {args : List Value} {bs : Blocks} {K : Value → Blocks → Prop}, wpFn Try.prog hF (fun _ _ _ => False) 6 135 args.toArray (heapOf bs) (stateK K) → CallS Try.prog 135 args bs K := fun h => callS_walk falseH_ok mixed (by decide) Try.func135 rfl h
  unfold witAll at hk
  split at hk
  · split at hk
    · rename_i hc
      simp only [Bool.and_eq_true, beq_iff_eq] at hc
      obtain ⟨⟨⟨⟨⟨⟨⟨⟨rfl, rfl⟩, rfl⟩, rfl⟩, rfl⟩, rfl⟩, rfl⟩, rfl⟩, rfl⟩ := hc
      split at hk
      · split at hk
        · rename_i hd
          simp only [Bool.and_eq_true, beq_iff_eq] at hd
          obtain ⟨⟨⟨⟨⟨⟨rfl, rfl⟩, rfl⟩, rfl⟩, rfl⟩, rfl⟩, hm⟩ := hd
          split at hk
          · subst hm; exact wit_run (wk (wit1 _ _ _ _ _)) hk
          · subst hm; exact wit_run (wk (wit2 _ _ _ _ _ _)) hk
          · subst hm; exact wit_run (wk (wit3 _ _ _ _ _ _ _)) hk
          · subst hm; exact wit_run (wk (wit4 _ _ _ _ _ _ _ _)) hk
          · subst hm; exact wit_run (wk (wit5 _ _ _ _ _ _ _ _ _)) hk
          · exact hk.elim
        · exact hk.elim
      · split at hk
        · rename_i hd
          simp only [Bool.and_eq_true, beq_iff_eq] at hd
          obtain ⟨⟨⟨⟨rfl, rfl⟩, rfl⟩, rfl⟩, rfl⟩ := hd
          obtain ⟨l, rfl, rfl, hl, hk⟩ := hk
          exact wit_run (witH _ _ _ _ l hl) hk
        · split at hk
          · rename_i hd
            simp only [Bool.and_eq_true, beq_iff_eq] at hd
            obtain ⟨⟨⟨⟨rfl, rfl⟩, rfl⟩, rfl⟩, rfl⟩ := hd
            obtain ⟨l, rfl, rfl, hl, hk⟩ := hk
            exact wit_run (witO _ _ _ _ l hl) hk
          · exact hk.elim
      · exact hk.elim
    · exact hk.elim
  · split at hk
    · rename_i hc
      simp only [Bool.and_eq_true, beq_iff_eq] at hc
      obtain ⟨⟨⟨⟨⟨⟨⟨⟨⟨rfl, rfl⟩, rfl⟩, rfl⟩, rfl⟩, rfl⟩, rfl⟩, rfl⟩, rfl⟩, rfl⟩ := hc
      refine callS_mono (wk (wit0 _ _ _)) ?_
      rintro v b ⟨rfl, rfl⟩
      exact hk
    · exact hk.elim
  · exact hk.elim
end Go.Proofs.G5f

/- What is left to show of each function, written out; the kernel reckons it. -/
namespace Go.Proofs.G5f
open Go Go.Abs Go.Proofs
set_option maxRecDepth 100000
set_option linter.unusedVariables false
def copyS : List D → Option (List D) := fun ds => match ds with | [.sl n es cs] => some [.sl n es cs] | _ => none
def preF (C : Ct) : FuncId → Option Handler := fun g => if g == 135 then some (stateH (witAll 3 56 27)) else if g == 15 then some (fixH C copyInts) else if g == 107 then some (fixH C copyS) else if [12, 13, 67, 71, 68, 66, 118, 72, 18, 17, 70, 76, 14, 16, 19, 36, 22, 23, 96, 109, 130, 108, 106, 59, 60, 61, 20, 21, 74, 73, 27].contains g then some (saidH Try.prog C) else none
abbrev hF7 (C : Ct) : Handler := handlerX Try.prog (preF C) 12 6
abbrev hE (C : Ct) : Handler := handlerX Try.prog (fun _ => none) 12 6
def gFE (C : Ct) (L : AtLoop) (n0 : Nat) (c0 : Nat) (l0 : List Value) (k : List D → Prop) : Prop := wpFn Try.prog (hF7 C) L 0 67 #[.slice (some ⟨500, 0, none⟩) n0 c0] (heapOf [(500, .sym l0 false 1)]) (dataK k)
theorem gFE_text (C : Ct) (L : AtLoop) (n0 : Nat) (c0 : Nat) (l0 : List Go.Value) (k : List D → Prop) : gFE C L n0 c0 l0 k =
 (L 0 [(Prod.mk 5 (Go.Value.slice (Option.some (Go.Addr.mk 500 0 Option.none)) (n0) (c0))), (Prod.mk 6 (vI ((↑n0 : Int)))), (Prod.mk 7 (vI (0 : Int)))] [(Prod.mk 500 (AObj.sym (l0) false 1))]) := by kernel_rfl
abbrev zFE1 (n0 : Nat) (c1 : Nat) (x2 : Int) (x3 : Int) (l4 : List Value) : Slots × Blocks := ([(5, (Value.slice (some ⟨500, 0, none⟩) n0 c1)), (6, (Value.int .i64 x2)), (7, (Value.int .i64 x3))], [(500, (AObj.sym l4 false 1))])
def rFE1 (C : Ct) (L : AtLoop) (n0 : Nat) (c1 : Nat) (x2 : Int) (x3 : Int) (l4 : List Value) (B : Bx) (X : Xx) (k : List D → Prop) : Prop := wpRound Try.prog (hF7 C) L 67 0 [(5, (Value.slice (some ⟨500, 0, none⟩) n0 c1)), (6, (Value.int .i64 x2)), (7, (Value.int .i64 x3))] [(500, (AObj.sym l4 false 1))] B X (dataK k)
theorem rFE1_text (C : Ct) (L : AtLoop) (n0 : Nat) (c1 : Nat) (x2 : Int) (x3 : Int) (l4 : List Go.Value) (B : Bx) (X : Xx) (k : List D → Prop) : rFE1 C L n0 c1 x2 x3 l4 B X k =
 (bcase (decide (x3 < x2))
 (bcase (decide (0 ≤ x3))
 (bcase (decide (x3 < (↑n0 : Int)))
 (∃ n1 : Int,
 ((At (l4) (0 + Int.toNat x3 * 1) 1 [(vI n1)]) ∧
 (bcase (n1 != 0)
 (k [(D.val (vI n1))])
 (B [(Prod.mk 5 (Go.Value.slice (Option.some (Go.Addr.mk 500 0 Option.none)) (n0) (c1))), (Prod.mk 6 (vI x2)), (Prod.mk 7 (vI (IntKind.wrap .i64 (x3 + 1))))] [(Prod.mk 500 (AObj.sym (l4) false 1))]))))
 False)
 False)
 (X 0 [] [])) := by kernel_rfl
def nFE2 (C : Ct) (L : AtLoop) (k : List D → Prop) : Prop := wpNext Try.prog (hF7 C) L 67 0 .normal [] [] (dataK k)
theorem nFE2_text (C : Ct) (L : AtLoop) (k : List D → Prop) : nFE2 C L k =
 (k [(D.val (vI (0 : Int)))]) := by kernel_rfl
def gCC (C : Ct) (L : AtLoop) (x0 : Int) (x1 : Int) (x2 : Int) (k : List D → Prop) : Prop := wpFn Try.prog (hF7 C) L 0 68 #[.int .i64 x0, .int .i64 x1, .int .i64 x2] (heapOf []) (dataK k)
theorem gCC_text (C : Ct) (L : AtLoop) (x0 : Int) (x1 : Int) (x2 : Int) (k : List D → Prop) : gCC C L x0 x1 x2 k =
 (bcase (decide (x0 < x1))
 (k [(D.val (vI (10 : Int)))])
 (bcase (decide (x0 > x2))
 (k [(D.val (vI (8 : Int)))])
 (k [(D.val (vI (0 : Int)))]))) := by kernel_rfl
def gCS (C : Ct) (L : AtLoop) (x0 : Int) (x1 : Int) (k : List D → Prop) : Prop := wpFn Try.prog (hF7 C) L 0 71 #[.int .i64 x0, .int .i64 x1] (heapOf []) (dataK k)
theorem gCS_text (C : Ct) (L : AtLoop) (x0 : Int) (x1 : Int) (k : List D → Prop) : gCS C L x0 x1 k =
 (bcase (x0 != x1)
 (k [(D.val (vI (10 : Int)))])
 (k [(D.val (vI (0 : Int)))])) := by kernel_rfl
def gWi (C : Ct) (L : AtLoop) (x0 : Int) (x1 : Int) (x2 : Int) (k : List D → Prop) : Prop := wpFn Try.prog (hF7 C) L 0 23 #[.int .i64 x0, .int .i64 x1, .int .i64 x2] (heapOf []) (dataK k)
theorem gWi_text (C : Ct) (L : AtLoop) (x0 : Int) (x1 : Int) (x2 : Int) (k : List D → Prop) : gWi C L x0 x1 x2 k =
 (bcase (decide (x1 ≤ x0))
 (bcase (decide (x0 ≤ x2))
 (k [(D.val (Value.bool true))])
 (k [(D.val (Value.bool false))]))
 (k [(D.val (Value.bool false))])) := by kernel_rfl
def gSi (C : Ct) (L : AtLoop) (x0 : Int) (k : List D → Prop) : Prop := wpFn Try.prog (hF7 C) L 0 96 #[.int .i64 x0] (heapOf []) (dataK k)
theorem gSi_text (C : Ct) (L : AtLoop) (x0 : Int) (k : List D → Prop) : gSi C L x0 k =
 (k [(D.val (vI (if IntKind.wrap .i64 (0 - x0) > x0 then IntKind.wrap .i64 (0 - x0) else x0)))]) := by kernel_rfl
def gFl (C : Ct) (L : AtLoop) (x0 : Int) (x1 : Int) (k : List D → Prop) : Prop := wpFn Try.prog (hF7 C) L 0 109 #[.int .i64 x0, .int .i64 x1] (heapOf []) (dataK k)
theorem gFl_text (C : Ct) (L : AtLoop) (x0 : Int) (x1 : Int) (k : List D → Prop) : gFl C L x0 x1 k =
 (bcase (x1 != 0)
 (bcase (x1 != 0)
 (bcase (decide (Int.tmod x0 x1 < 0))
 (k [(D.val (vI (IntKind.wrap .i64 (IntKind.wrap .i64 (Int.tdiv x0 x1) - 1))))])
 (k [(D.val (vI (IntKind.wrap .i64 (Int.tdiv x0 x1))))]))
 False)
 False) := by kernel_rfl
def gIn (C : Ct) (L : AtLoop) (n0 : Nat) (c0 : Nat) (l0 : List Value) (n1 : Nat) (c1 : Nat) (l1 : List Value) (k : List D → Prop) : Prop := wpFn Try.prog (hF7 C) L 0 36 #[.slice (some ⟨500, 0, none⟩) n0 c0, .slice (some ⟨501, 0, none⟩) n1 c1] (heapOf [(500, .sym l0 false 1), (501, .sym l1 false 1)]) (dataK k)
theorem gIn_text (C : Ct) (L : AtLoop) (n0 : Nat) (c0 : Nat) (l0 : List Go.Value) (n1 : Nat) (c1 : Nat) (l1 : List Go.Value) (k : List D → Prop) : gIn C L n0 c0 l0 n1 c1 l1 k =
 (bcase ((↑n0 : Int) != (↑n1 : Int))
 (k [(D.val (Value.bool false))])
 (L 0 [(Prod.mk 0 (Go.Value.slice (Option.some (Go.Addr.mk 500 0 Option.none)) (n0) (c0))), (Prod.mk 1 (Go.Value.slice (Option.some (Go.Addr.mk 501 0 Option.none)) (n1) (c1))), (Prod.mk 5 (vI (0 : Int)))] [(Prod.mk 500 (AObj.sym (l0) false 1)), (Prod.mk 501 (AObj.sym (l1) false 1))])) := by kernel_rfl
abbrev zIn1 (n0 : Nat) (c1 : Nat) (n2 : Nat) (c3 : Nat) (x4 : Int) (l5 : List Value) (l6 : List Value) : Slots × Blocks := ([(0, (Value.slice (some ⟨500, 0, none⟩) n0 c1)), (1, (Value.slice (some ⟨501, 0, none⟩) n2 c3)), (5, (Value.int .i64 x4))], [(500, (AObj.sym l5 false 1)), (501, (AObj.sym l6 false 1))])
def rIn1 (C : Ct) (L : AtLoop) (n0 : Nat) (c1 : Nat) (n2 : Nat) (c3 : Nat) (x4 : Int) (l5 : List Value) (l6 : List Value) (B : Bx) (X : Xx) (k : List D → Prop) : Prop := wpRound Try.prog (hF7 C) L 36 0 [(0, (Value.slice (some ⟨500, 0, none⟩) n0 c1)), (1, (Value.slice (some ⟨501, 0, none⟩) n2 c3)), (5, (Value.int .i64 x4))] [(500, (AObj.sym l5 false 1)), (501, (AObj.sym l6 false 1))] B X (dataK k)
theorem rIn1_text (C : Ct) (L : AtLoop) (n0 : Nat) (c1 : Nat) (n2 : Nat) (c3 : Nat) (x4 : Int) (l5 : List Go.Value) (l6 : List Go.Value) (B : Bx) (X : Xx) (k : List D → Prop) : rIn1 C L n0 c1 n2 c3 x4 l5 l6 B X k =
 (bcase (decide (x4 < (↑n0 : Int)))
 (bcase (decide (0 ≤ x4))
 (bcase (decide (x4 < (↑n0 : Int)))
 (∃ n1 : Int,
 ((At (l5) (0 + Int.toNat x4 * 1) 1 [(vI n1)]) ∧
 (bcase (decide (0 ≤ x4))
 (bcase (decide (x4 < (↑n2 : Int)))
 (∃ n3 : Int,
 ((At (l6) (0 + Int.toNat x4 * 1) 1 [(vI n3)]) ∧
 (bcase (n1 != n3)
 (((bcase (n1 != n3)
 ((Value.bool true) = (Value.bool true))
 ((Value.bool false) = (Value.bool true))) ∧
 ((∃ n4 : Int,
 ((At (l6) (0 + Int.toNat x4 * 1) 1 [(vI n4)]) ∧
 ((vI n4) = (vI n3)))) ∧
 ((bcase (decide (0 ≤ x4))
 (bcase (decide (x4 < (↑n2 : Int)))
 ((Go.Value.pointer (Option.some (Go.Addr.mk 501 (0 + Int.toNat x4 * 1) Option.none))) = (Go.Value.pointer (Option.some (Go.Addr.mk 501 (0 + Int.toNat x4 * 1) Option.none))))
 False)
 False) ∧
 (((vI x4) = (vI x4)) ∧
 (((Go.Value.slice (Option.some (Go.Addr.mk 501 0 Option.none)) (n2) (c3)) = (Go.Value.slice (Option.some (Go.Addr.mk 501 0 Option.none)) (n2) (c3))) ∧
 ((∃ n4 : Int,
 ((At (l5) (0 + Int.toNat x4 * 1) 1 [(vI n4)]) ∧
 ((vI n4) = (vI n1)))) ∧
 ((bcase (decide (0 ≤ x4))
 (bcase (decide (x4 < (↑n0 : Int)))
 ((Go.Value.pointer (Option.some (Go.Addr.mk 500 (0 + Int.toNat x4 * 1) Option.none))) = (Go.Value.pointer (Option.some (Go.Addr.mk 500 (0 + Int.toNat x4 * 1) Option.none))))
 False)
 False) ∧
 (((vI x4) = (vI x4)) ∧
 (((Go.Value.slice (Option.some (Go.Addr.mk 500 0 Option.none)) (n0) (c1)) = (Go.Value.slice (Option.some (Go.Addr.mk 500 0 Option.none)) (n0) (c1))) ∧
 True))))))))) ∧
 (k [(D.val (Value.bool false))]))
 (((bcase (n1 != n3)
 ((Value.bool true) = (Value.bool false))
 ((Value.bool false) = (Value.bool false))) ∧
 ((∃ n4 : Int,
 ((At (l6) (0 + Int.toNat x4 * 1) 1 [(vI n4)]) ∧
 ((vI n4) = (vI n3)))) ∧
 ((bcase (decide (0 ≤ x4))
 (bcase (decide (x4 < (↑n2 : Int)))
 ((Go.Value.pointer (Option.some (Go.Addr.mk 501 (0 + Int.toNat x4 * 1) Option.none))) = (Go.Value.pointer (Option.some (Go.Addr.mk 501 (0 + Int.toNat x4 * 1) Option.none))))
 False)
 False) ∧
 (((vI x4) = (vI x4)) ∧
 (((Go.Value.slice (Option.some (Go.Addr.mk 501 0 Option.none)) (n2) (c3)) = (Go.Value.slice (Option.some (Go.Addr.mk 501 0 Option.none)) (n2) (c3))) ∧
 ((∃ n4 : Int,
 ((At (l5) (0 + Int.toNat x4 * 1) 1 [(vI n4)]) ∧
 ((vI n4) = (vI n1)))) ∧
 ((bcase (decide (0 ≤ x4))
 (bcase (decide (x4 < (↑n0 : Int)))
 ((Go.Value.pointer (Option.some (Go.Addr.mk 500 (0 + Int.toNat x4 * 1) Option.none))) = (Go.Value.pointer (Option.some (Go.Addr.mk 500 (0 + Int.toNat x4 * 1) Option.none))))
 False)
 False) ∧
 (((vI x4) = (vI x4)) ∧
 (((Go.Value.slice (Option.some (Go.Addr.mk 500 0 Option.none)) (n0) (c1)) = (Go.Value.slice (Option.some (Go.Addr.mk 500 0 Option.none)) (n0) (c1))) ∧
 True))))))))) ∧
 (B [(Prod.mk 0 (Go.Value.slice (Option.some (Go.Addr.mk 500 0 Option.none)) (n0) (c1))), (Prod.mk 1 (Go.Value.slice (Option.some (Go.Addr.mk 501 0 Option.none)) (n2) (c3))), (Prod.mk 5 (vI (IntKind.wrap .i64 (x4 + 1))))] [(Prod.mk 500 (AObj.sym (l5) false 1)), (Prod.mk 501 (AObj.sym (l6) false 1))])))))
 False)
 False)))
 False)
 False)
 (X 0 [] [])) := by kernel_rfl
def nIn2 (C : Ct) (L : AtLoop) (k : List D → Prop) : Prop := wpNext Try.prog (hF7 C) L 36 0 .normal [] [] (dataK k)
theorem nIn2_text (C : Ct) (L : AtLoop) (k : List D → Prop) : nIn2 C L k =
 (k [(D.val (Value.bool true))]) := by kernel_rfl
def gCI (C : Ct) (L : AtLoop) (n0 : Nat) (c0 : Nat) (l0 : List Value) (k : List D → Prop) : Prop := wpFn Try.prog (hE C) L 0 15 #[.slice (some ⟨500, 0, none⟩) n0 c0] (heapOf [(500, .sym l0 false 1)]) (dataK k)
theorem gCI_text (C : Ct) (L : AtLoop) (n0 : Nat) (c0 : Nat) (l0 : List Go.Value) (k : List D → Prop) : gCI C L n0 c0 l0 k =
 (bcase (decide (0 + n0 * 1 ≤ List.length l0))
 (bcase (n0 == 0)
 (((0 = 0) ∧
 (0 = 0)) ∧
 (k [(D.sl 0 1 [])]))
 (bcase (decide (0 < 0 + n0))
 (bcase (decide ((2 * (0 + n0) + 768) * 8 ≤ 281474976710656))
 (bcase (decide (0 + n0 ≤ 1099511627776))
 ((((0 + n0) = (0 + n0)) ∧
 ((List.length (List.take 0 (List.drop 0 []) ++ List.take (n0 * 1) (List.drop 0 l0))) = ((0 + n0) * 1))) ∧
 (k [(D.sl (0 + n0) 1 ([] ++ (List.take (n0 * 1) (List.drop 0 l0))))]))
 False)
 False)
 False))
 False) := by kernel_rfl
def gCIn (C : Ct) (L : AtLoop) (k : List D → Prop) : Prop := wpFn Try.prog (hE C) L 0 15 #[.slice none 0 0] (heapOf []) (dataK k)
theorem gCIn_text (C : Ct) (L : AtLoop) (k : List D → Prop) : gCIn C L k =
 (((0 = 0) ∧
 (0 = 0)) ∧
 (k [(D.sl 0 1 [])])) := by kernel_rfl
def gDv (C : Ct) (L : AtLoop) (x0 : Int) (x1 : Int) (k : List D → Prop) : Prop := wpFn Try.prog (hE C) L 0 118 #[.int .i64 x0, .int .i64 x1] (heapOf []) (dataK k)
theorem gDv_text (C : Ct) (L : AtLoop) (x0 : Int) (x1 : Int) (k : List D → Prop) : gDv C L x0 x1 k =
 (L 0 [(Prod.mk 0 (vI x0)), (Prod.mk 1 (vI x1))] []) := by kernel_rfl
abbrev zDv1 (x0 : Int) (x1 : Int) : Slots × Blocks := ([(0, (Value.int .i64 x0)), (1, (Value.int .i64 x1))], [])
def rDv1 (C : Ct) (L : AtLoop) (x0 : Int) (x1 : Int) (B : Bx) (X : Xx) (k : List D → Prop) : Prop := wpRound Try.prog (hE C) L 118 0 [(0, (Value.int .i64 x0)), (1, (Value.int .i64 x1))] [] B X (dataK k)
theorem rDv1_text (C : Ct) (L : AtLoop) (x0 : Int) (x1 : Int) (B : Bx) (X : Xx) (k : List D → Prop) : rDv1 C L x0 x1 B X k =
 (bcase (x0 != 0)
 (bcase (x0 != 0)
 (B [(Prod.mk 0 (vI (Int.tmod x1 x0))), (Prod.mk 1 (vI x0))] [])
 False)
 (X 0 [(Prod.mk 1 (vI x1))] [])) := by kernel_rfl
def nDv2 (C : Ct) (L : AtLoop) (x0 : Int) (k : List D → Prop) : Prop := wpNext Try.prog (hE C) L 118 0 .normal [(1, (Value.int .i64 x0))] [] (dataK k)
theorem nDv2_text (C : Ct) (L : AtLoop) (x0 : Int) (k : List D → Prop) : nDv2 C L x0 k =
 (k [(D.val (vI (if IntKind.wrap .i64 (0 - x0) > x0 then IntKind.wrap .i64 (0 - x0) else x0)))]) := by kernel_rfl
def gLT (C : Ct) (L : AtLoop) (x0 : Int) (x1 : Int) (k : List D → Prop) : Prop := wpFn Try.prog (hF7 C) L 0 66 #[.int .i64 x0, .int .i64 x1] (heapOf []) (dataK k)
theorem gLT_text (C : Ct) (L : AtLoop) (x0 : Int) (x1 : Int) (k : List D → Prop) : gLT C L x0 x1 k =
 (∃ n1 : Int,
 ((Says C 118 [(D.val (vI x0)), (D.val (vI x1))] [(D.val (vI n1))]) ∧
 (bcase (n1 != 0)
 (bcase (n1 != 0)
 ((((Go.Value.agg [(vI (IntKind.wrap .i64 (Int.tdiv x0 n1))), (vI (IntKind.wrap .i64 (Int.tdiv x1 n1)))].toArray) = (Go.Value.agg [(vI (IntKind.wrap .i64 (Int.tdiv x0 n1))), (vI (IntKind.wrap .i64 (Int.tdiv x1 n1)))].toArray)) ∧
 ((bcase (n1 != 0)
 ((vI (IntKind.wrap .i64 (Int.tdiv x1 n1))) = (vI (IntKind.wrap .i64 (Int.tdiv x1 n1))))
 False) ∧
 (((vI n1) = (vI n1)) ∧
 (((vI x1) = (vI x1)) ∧
 ((bcase (n1 != 0)
 ((vI (IntKind.wrap .i64 (Int.tdiv x0 n1))) = (vI (IntKind.wrap .i64 (Int.tdiv x0 n1))))
 False) ∧
 (((vI n1) = (vI n1)) ∧
 (((vI x0) = (vI x0)) ∧
 True))))))) ∧
 (True ∧
 (k [(D.agg [(D.val (vI (IntKind.wrap .i64 (Int.tdiv x0 n1)))), (D.val (vI (IntKind.wrap .i64 (Int.tdiv x1 n1))))])])))
 False)
 False))) := by kernel_rfl
def gGc (C : Ct) (L : AtLoop) (x0 : Int) (x1 : Int) (k : List D → Prop) : Prop := wpFn Try.prog (hF7 C) L 0 76 #[.int .i64 x0, .int .i64 x1] (heapOf []) (dataK k)
theorem gGc_text (C : Ct) (L : AtLoop) (x0 : Int) (x1 : Int) (k : List D → Prop) : gGc C L x0 x1 k =
 (L 0 [(Prod.mk 0 (vI x0)), (Prod.mk 1 (vI x1))] []) := by kernel_rfl
abbrev zGc1 (x0 : Int) (x1 : Int) : Slots × Blocks := ([(0, (Value.int .i64 x0)), (1, (Value.int .i64 x1))], [])
def rGc1 (C : Ct) (L : AtLoop) (x0 : Int) (x1 : Int) (B : Bx) (X : Xx) (k : List D → Prop) : Prop := wpRound Try.prog (hF7 C) L 76 0 [(0, (Value.int .i64 x0)), (1, (Value.int .i64 x1))] [] B X (dataK k)
theorem rGc1_text (C : Ct) (L : AtLoop) (x0 : Int) (x1 : Int) (B : Bx) (X : Xx) (k : List D → Prop) : rGc1 C L x0 x1 B X k =
 (bcase (x1 != 0)
 (bcase (x1 != 0)
 (((bcase (x1 != 0)
 ((vI (Int.tmod x0 x1)) = (vI (Int.tmod x0 x1)))
 False) ∧
 (((vI x1) = (vI x1)) ∧
 (((vI x0) = (vI x0)) ∧
 (((vI x1) = (vI x1)) ∧
 True)))) ∧
 (((bcase (x1 != 0)
 ((vI (Int.tmod x0 x1)) = (vI (Int.tmod x0 x1)))
 False) ∧
 (((vI x1) = (vI x1)) ∧
 True)) ∧
 (True ∧
 (B [(Prod.mk 0 (vI x1)), (Prod.mk 1 (vI (Int.tmod x0 x1)))] []))))
 False)
 (X 0 [(Prod.mk 0 (vI x0))] [])) := by kernel_rfl
def nGc2 (C : Ct) (L : AtLoop) (x0 : Int) (k : List D → Prop) : Prop := wpNext Try.prog (hF7 C) L 76 0 .normal [(0, (Value.int .i64 x0))] [] (dataK k)
theorem nGc2_text (C : Ct) (L : AtLoop) (x0 : Int) (k : List D → Prop) : nGc2 C L x0 k =
 (∃ n1 : Int,
 ((Says C 96 [(D.val (vI x0))] [(D.val (vI n1))]) ∧
 (k [(D.val (vI n1))]))) := by kernel_rfl
def gLo (C : Ct) (L : AtLoop) (x0 : Int) (x1 : Int) (k : List D → Prop) : Prop := wpFn Try.prog (hF7 C) L 0 70 #[.int .i64 x0, .int .i64 x1] (heapOf []) (dataK k)
theorem gLo_text (C : Ct) (L : AtLoop) (x0 : Int) (x1 : Int) (k : List D → Prop) : gLo C L x0 x1 k =
 (∃ n1 : Int,
 ((Says C 76 [(D.val (vI x0)), (D.val (vI x1))] [(D.val (vI n1))]) ∧
 (bcase (decide (x1 < 0))
 (bcase (IntKind.wrap .i64 (0 - n1) != 0)
 (bcase (IntKind.wrap .i64 (0 - n1) != 0)
 ((((Go.Value.agg [(vI (IntKind.wrap .i64 (Int.tdiv x0 (IntKind.wrap .i64 (0 - n1))))), (vI (IntKind.wrap .i64 (Int.tdiv x1 (IntKind.wrap .i64 (0 - n1)))))].toArray) = (Go.Value.agg [(vI (IntKind.wrap .i64 (Int.tdiv x0 (IntKind.wrap .i64 (0 - n1))))), (vI (IntKind.wrap .i64 (Int.tdiv x1 (IntKind.wrap .i64 (0 - n1)))))].toArray)) ∧
 ((bcase (IntKind.wrap .i64 (0 - n1) != 0)
 ((vI (IntKind.wrap .i64 (Int.tdiv x1 (IntKind.wrap .i64 (0 - n1))))) = (vI (IntKind.wrap .i64 (Int.tdiv x1 (IntKind.wrap .i64 (0 - n1))))))
 False) ∧
 (((vI (IntKind.wrap .i64 (0 - n1))) = (vI (IntKind.wrap .i64 (0 - n1)))) ∧
 (((vI x1) = (vI x1)) ∧
 ((bcase (IntKind.wrap .i64 (0 - n1) != 0)
 ((vI (IntKind.wrap .i64 (Int.tdiv x0 (IntKind.wrap .i64 (0 - n1))))) = (vI (IntKind.wrap .i64 (Int.tdiv x0 (IntKind.wrap .i64 (0 - n1))))))
 False) ∧
 (((vI (IntKind.wrap .i64 (0 - n1))) = (vI (IntKind.wrap .i64 (0 - n1)))) ∧
 (((vI x0) = (vI x0)) ∧
 True))))))) ∧
 (True ∧
 (k [(D.agg [(D.val (vI (IntKind.wrap .i64 (Int.tdiv x0 (IntKind.wrap .i64 (0 - n1)))))), (D.val (vI (IntKind.wrap .i64 (Int.tdiv x1 (IntKind.wrap .i64 (0 - n1))))))])])))
 False)
 False)
 (bcase (n1 != 0)
 (bcase (n1 != 0)
 ((((Go.Value.agg [(vI (IntKind.wrap .i64 (Int.tdiv x0 n1))), (vI (IntKind.wrap .i64 (Int.tdiv x1 n1)))].toArray) = (Go.Value.agg [(vI (IntKind.wrap .i64 (Int.tdiv x0 n1))), (vI (IntKind.wrap .i64 (Int.tdiv x1 n1)))].toArray)) ∧
 ((bcase (n1 != 0)
 ((vI (IntKind.wrap .i64 (Int.tdiv x1 n1))) = (vI (IntKind.wrap .i64 (Int.tdiv x1 n1))))
 False) ∧
 (((vI n1) = (vI n1)) ∧
 (((vI x1) = (vI x1)) ∧
 ((bcase (n1 != 0)
 ((vI (IntKind.wrap .i64 (Int.tdiv x0 n1))) = (vI (IntKind.wrap .i64 (Int.tdiv x0 n1))))
 False) ∧
 (((vI n1) = (vI n1)) ∧
 (((vI x0) = (vI x0)) ∧
 True))))))) ∧
 (True ∧
 (k [(D.agg [(D.val (vI (IntKind.wrap .i64 (Int.tdiv x0 n1)))), (D.val (vI (IntKind.wrap .i64 (Int.tdiv x1 n1))))])])))
 False)
 False)))) := by kernel_rfl
def gSu (C : Ct) (L : AtLoop) (n0 : Nat) (c0 : Nat) (l0 : List Value) (k : List D → Prop) : Prop := wpFn Try.prog (hF7 C) L 0 72 #[.slice (some ⟨500, 0, none⟩) n0 c0] (heapOf [(500, .sym l0 false 1)]) (dataK k)
theorem gSu_text (C : Ct) (L : AtLoop) (n0 : Nat) (c0 : Nat) (l0 : List Go.Value) (k : List D → Prop) : gSu C L n0 c0 l0 k =
 (L 0 [(Prod.mk 3 (vI (0 : Int))), (Prod.mk 6 (Go.Value.slice (Option.some (Go.Addr.mk 500 0 Option.none)) (n0) (c0))), (Prod.mk 7 (vI ((↑n0 : Int)))), (Prod.mk 8 (vI (0 : Int)))] [(Prod.mk 500 (AObj.sym (l0) false 1))]) := by kernel_rfl
abbrev zSu1 (x0 : Int) (n1 : Nat) (c2 : Nat) (x3 : Int) (x4 : Int) (l5 : List Value) : Slots × Blocks := ([(3, (Value.int .i64 x0)), (6, (Value.slice (some ⟨500, 0, none⟩) n1 c2)), (7, (Value.int .i64 x3)), (8, (Value.int .i64 x4))], [(500, (AObj.sym l5 false 1))])
def rSu1 (C : Ct) (L : AtLoop) (x0 : Int) (n1 : Nat) (c2 : Nat) (x3 : Int) (x4 : Int) (l5 : List Value) (B : Bx) (X : Xx) (k : List D → Prop) : Prop := wpRound Try.prog (hF7 C) L 72 0 [(3, (Value.int .i64 x0)), (6, (Value.slice (some ⟨500, 0, none⟩) n1 c2)), (7, (Value.int .i64 x3)), (8, (Value.int .i64 x4))] [(500, (AObj.sym l5 false 1))] B X (dataK k)
theorem rSu1_text (C : Ct) (L : AtLoop) (x0 : Int) (n1 : Nat) (c2 : Nat) (x3 : Int) (x4 : Int) (l5 : List Go.Value) (B : Bx) (X : Xx) (k : List D → Prop) : rSu1 C L x0 n1 c2 x3 x4 l5 B X k =
 (bcase (decide (x4 < x3))
 (bcase (decide (0 ≤ x4))
 (bcase (decide (x4 < (↑n1 : Int)))
 (∃ n2 : Int,
 ((At (l5) (0 + Int.toNat x4 * 1) 1 [(vI n2)]) ∧
 (B [(Prod.mk 3 (vI (IntKind.wrap .i64 (x0 + n2)))), (Prod.mk 6 (Go.Value.slice (Option.some (Go.Addr.mk 500 0 Option.none)) (n1) (c2))), (Prod.mk 7 (vI x3)), (Prod.mk 8 (vI (IntKind.wrap .i64 (x4 + 1))))] [(Prod.mk 500 (AObj.sym (l5) false 1))])))
 False)
 False)
 (X 0 [(Prod.mk 3 (vI x0))] [])) := by kernel_rfl
def nSu2 (C : Ct) (L : AtLoop) (x0 : Int) (k : List D → Prop) : Prop := wpNext Try.prog (hF7 C) L 72 0 .normal [(3, (Value.int .i64 x0))] [] (dataK k)
theorem nSu2_text (C : Ct) (L : AtLoop) (x0 : Int) (k : List D → Prop) : nSu2 C L x0 k =
 (k [(D.val (vI x0))]) := by kernel_rfl
def gRS (C : Ct) (L : AtLoop) (n0 : Nat) (c0 : Nat) (l0 : List Value) (k : List D → Prop) : Prop := wpFn Try.prog (hF7 C) L 0 74 #[.slice (some ⟨500, 0, none⟩) n0 c0] (heapOf [(500, .sym l0 false 1)]) (dataK k)
theorem gRS_text (C : Ct) (L : AtLoop) (n0 : Nat) (c0 : Nat) (l0 : List Go.Value) (k : List D → Prop) : gRS C L n0 c0 l0 k =
 (L 0 [(Prod.mk 0 (Go.Value.slice (Option.some (Go.Addr.mk 500 0 Option.none)) (n0) (c0))), (Prod.mk 3 (vI (0 : Int))), (Prod.mk 4 (vI (0 : Int)))] [(Prod.mk 500 (AObj.sym (l0) false 1))]) := by kernel_rfl
abbrev zRS1 (n0 : Nat) (c1 : Nat) (x2 : Int) (x3 : Int) (l4 : List Value) : Slots × Blocks := ([(0, (Value.slice (some ⟨500, 0, none⟩) n0 c1)), (3, (Value.int .i64 x2)), (4, (Value.int .i64 x3))], [(500, (AObj.sym l4 false 1))])
def rRS1 (C : Ct) (L : AtLoop) (n0 : Nat) (c1 : Nat) (x2 : Int) (x3 : Int) (l4 : List Value) (B : Bx) (X : Xx) (k : List D → Prop) : Prop := wpRound Try.prog (hF7 C) L 74 0 [(0, (Value.slice (some ⟨500, 0, none⟩) n0 c1)), (3, (Value.int .i64 x2)), (4, (Value.int .i64 x3))] [(500, (AObj.sym l4 false 1))] B X (dataK k)
theorem rRS1_text (C : Ct) (L : AtLoop) (n0 : Nat) (c1 : Nat) (x2 : Int) (x3 : Int) (l4 : List Go.Value) (B : Bx) (X : Xx) (k : List D → Prop) : rRS1 C L n0 c1 x2 x3 l4 B X k =
 (bcase (decide (x3 < (↑n0 : Int)))
 (bcase (decide (0 ≤ x3))
 (bcase (decide (x3 < (↑n0 : Int)))
 (∃ n1 : Int,
 ((At (l4) (0 + Int.toNat x3 * 1) 1 [(vI n1)]) ∧
 (B [(Prod.mk 0 (Go.Value.slice (Option.some (Go.Addr.mk 500 0 Option.none)) (n0) (c1))), (Prod.mk 3 (vI (IntKind.wrap .i64 (x2 + n1)))), (Prod.mk 4 (vI (IntKind.wrap .i64 (x3 + 1))))] [(Prod.mk 500 (AObj.sym (l4) false 1))])))
 False)
 False)
 (X 0 [(Prod.mk 3 (vI x2))] [])) := by kernel_rfl
def nRS2 (C : Ct) (L : AtLoop) (x0 : Int) (k : List D → Prop) : Prop := wpNext Try.prog (hF7 C) L 74 0 .normal [(3, (Value.int .i64 x0))] [] (dataK k)
theorem nRS2_text (C : Ct) (L : AtLoop) (x0 : Int) (k : List D → Prop) : nRS2 C L x0 k =
 (k [(D.val (vI x0))]) := by kernel_rfl
end Go.Proofs.G5f

/- The evaluator with a table: calls whose outcome on some data is known are not entered. -/
namespace Go.Abs
open Go.RowKit
variable {P : Program} {ρ : Ren} {w0 : Start} {w : World} {H : Heap}

/-! ### Data of values, computed -/
def readCO (H : Heap) : List Value → Option (List D)
  | [] => some []
  | v :: r =>
    match v with
    | .slice none 0 0 => (readCO H r).map (.nil :: ·)
    | .slice (some ⟨i, o, none⟩) len _ =>
      match H.get i with
      | some (.sym cs _ es) => if o + len * es ≤ cs.length then (readCO H r).map (.sl len es ((cs.drop o).take (len * es)) :: ·) else none
      | some (.cells cs _ _ es) => if o + len * es ≤ cs.length then (if ((cs.drop o).take (len * es)).all cellP then (readCO H r).map (.sl len es ((cs.drop o).take (len * es)) :: ·) else none) else none
      | _ => none
    | v => if plain 8 v then (readCO H r).map (.val v :: ·) else none
def readVO (H : Heap) : List Value → Option (List D)
  | [] => some []
  | .agg cs :: r => (readCO H cs.toList).bind fun ds => (readVO H r).map (.agg ds :: ·)
  | v :: r => (readCO H [v]).bind fun ds => (readVO H r).map (ds ++ ·)
theorem readCO_ok : ∀ {l : List Value} {ds : List D}, readCO H l = some ds → ∀ k : List D → Prop, k ds → readCells H l k
  | [], ds, h, k, hk => by
    simp only [readCO, Option.some.injEq] at h; subst h; exact hk
  | v :: r, ds, h, k, hk => by
    unfold readCO at h
    unfold readCells
    split at h
    · obtain ⟨x, hx, rfl⟩ := Option.map_eq_some_iff.1 h
      exact readCO_ok hx _ hk
    · simp only
      split at h
      · rename_i hg
        simp only [hg]
        split at h
        · rename_i hle
          obtain ⟨x, hx, rfl⟩ := Option.map_eq_some_iff.1 h
          exact bcase_intro (fun _ => readCO_ok hx _ hk) (fun hf => absurd hle (of_decide_eq_false hf))
        · cases h
      · rename_i hg
        simp only [hg]
        split at h
        · rename_i hle
          split at h
          · rename_i hall
            obtain ⟨x, hx, rfl⟩ := Option.map_eq_some_iff.1 h
            exact bcase_intro (fun _ => bcase_intro (fun _ => readCO_ok hx _ hk) (fun hf => by rw [hall] at hf; cases hf)) (fun hf => absurd hle (of_decide_eq_false hf))
          · cases h
        · cases h
      · cases h
    · rename_i h1 h2
      split
      · exact absurd rfl h1
      · exact absurd rfl (h2 _ _ _ _)
      · split at h
        · rename_i hp
          obtain ⟨x, hx, rfl⟩ := Option.map_eq_some_iff.1 h
          rw [if_pos hp]
          exact readCO_ok hx _ hk
        · cases h
theorem readVO_ok : ∀ {l : List Value} {ds : List D}, readVO H l = some ds → ∀ k : List D → Prop, k ds → readVals H l k
  | [], ds, h, k, hk => by
    simp only [readVO, Option.some.injEq] at h; subst h; exact hk
  | v :: r, ds, h, k, hk => by
    unfold readVO at h
    unfold readVals
    split at h
    · rename_i e; cases e
    · rename_i e; cases e
      obtain ⟨x, hx, h⟩ := Option.bind_eq_some_iff.1 h
      obtain ⟨y, hy, rfl⟩ := Option.map_eq_some_iff.1 h
      exact readCO_ok hx _ (readVO_ok hy _ hk)
    · rename_i h1 e; cases e
      obtain ⟨x, hx, h⟩ := Option.bind_eq_some_iff.1 h
      obtain ⟨y, hy, rfl⟩ := Option.map_eq_some_iff.1 h
      split
      · rename_i e; cases e
      · rename_i e; cases e; exact absurd rfl (h1 _)
      · rename_i e; cases e
        exact readCO_ok hx _ (readVO_ok hy _ hk)

/-! ### Data laid, computed -/
def layCO : List D → Heap → Option (List Value × Heap)
  | [], H => some ([], H)
  | .nil :: r, H => (layCO r H).map fun x => (.slice none 0 0 :: x.1, x.2)
  | .sl n es cs :: r, H => (layCO r (H.new (.sym cs true es))).map fun x => (.slice (some ⟨H.next, 0, none⟩) n n :: x.1, x.2)
  | .val v :: r, H => match v with
    | .agg _ => none
    | v => (layCO r H).map fun x => (v :: x.1, x.2)
  | .agg _ :: _, _ => none
def layVO : List D → Heap → Option (List Value × Heap)
  | [], H => some ([], H)
  | .agg ds :: r, H => (layCO ds H).bind fun x => (layVO r x.2).map fun y => (.agg x.1.toArray :: y.1, y.2)
  | d :: r, H => (layCO [d] H).bind fun x => match x.1 with
    | [v] => (layVO r x.2).map fun y => (v :: y.1, y.2)
    | _ => none
theorem layCO_ok : ∀ {ds : List D} {H : Heap} {x : List Value × Heap}, layCO ds H = some x → ∀ k : List Value → Heap → Prop, k x.1 x.2 → layC ds H k
  | [], H, x, h, k, hk => by
    simp only [layCO, Option.some.injEq] at h; subst h; exact hk
  | .nil :: r, H, x, h, k, hk => by
    obtain ⟨y, hy, rfl⟩ := Option.map_eq_some_iff.1 h
    exact layCO_ok hy _ hk
  | .sl n es cs :: r, H, x, h, k, hk => by
    obtain ⟨y, hy, rfl⟩ := Option.map_eq_some_iff.1 h
    exact layCO_ok hy _ hk
  | .val v :: r, H, x, h, k, hk => by
    unfold layCO at h
    unfold layC
    split at h
    · cases h
    · rename_i hv
      split
      · exact absurd rfl (hv _)
      · obtain ⟨y, hy, rfl⟩ := Option.map_eq_some_iff.1 h
        exact layCO_ok hy _ hk
  | .agg _ :: _, H, x, h, k, hk => by cases h
theorem layVO_ok : ∀ {ds : List D} {H : Heap} {x : List Value × Heap}, layVO ds H = some x → ∀ k : List Value → Heap → Prop, k x.1 x.2 → layV ds H k
  | [], H, x, h, k, hk => by
    simp only [layVO, Option.some.injEq] at h; subst h; exact hk
  | d :: r, H, x, h, k, hk => by
    unfold layVO at h
    unfold layV
    split at h
    · rename_i e; cases e
    · rename_i e; cases e
      obtain ⟨y, hy, h⟩ := Option.bind_eq_some_iff.1 h
      obtain ⟨z, hz, rfl⟩ := Option.map_eq_some_iff.1 h
      exact layCO_ok hy _ (layVO_ok hz _ hk)
    · rename_i h1 e; cases e
      obtain ⟨y, hy, h⟩ := Option.bind_eq_some_iff.1 h
      split at h
      · rename_i he
        obtain ⟨z, hz, rfl⟩ := Option.map_eq_some_iff.1 h
        split
        · rename_i e; cases e
        · rename_i e; cases e; exact absurd rfl (h1 _)
        · rename_i e; cases e
          refine layCO_ok hy _ ?_
          simp only [he]
          exact layVO_ok hz _ hk
      · cases h

/-! ### Data given, computed -/
def giveCO (H : Heap) : List Nat → List Value → Option (List Nat × List D)
  | used, [] => some (used, [])
  | used, v :: r =>
    match v with
    | .slice none 0 0 => (giveCO H used r).map fun x => (x.1, .nil :: x.2)
    | .slice (some ⟨i, 0, none⟩) len cap =>
      if gbase ≤ i ∧ used.contains i = false then
        match H.get i with
        | some (.sym cs true es) => if len = cap ∧ cs.length = len * es then (giveCO H (i :: used) r).map fun x => (x.1, .sl len es cs :: x.2) else none
        | some (.cells cs _ _ es) => if len = cap ∧ cs.length = len * es then (if cs.all cellP then (giveCO H (i :: used) r).map fun x => (x.1, .sl len es cs :: x.2) else none) else none
        | _ => none
      else none
    | v => if plain 8 v then (giveCO H used r).map fun x => (x.1, .val v :: x.2) else none
def giveVO (H : Heap) : List Nat → List Value → Option (List D)
  | _, [] => some []
  | used, .agg cs :: r => (giveCO H used cs.toList).bind fun x => (giveVO H x.1 r).map (.agg x.2 :: ·)
  | used, v :: r => (giveCO H used [v]).bind fun x => (giveVO H x.1 r).map (x.2 ++ ·)
def giveO (v : Value) (H : Heap) : Option (List D) :=
  match v with
  | .tuple vs => if vs.size = 1 then none else giveVO H [] vs.toList
  | v => giveVO H [] [v]
theorem giveCO_ok : ∀ {l : List Value} {used : List Nat} {x : List Nat × List D}, giveCO H used l = some x → ∀ k : List Nat → List D → Prop, k x.1 x.2 → giveCells H used l k
  | [], used, x, h, k, hk => by
    simp only [giveCO, Option.some.injEq] at h; subst h; exact hk
  | v :: r, used, x, h, k, hk => by
    unfold giveCO at h
    unfold giveCells
    split at h
    · obtain ⟨y, hy, rfl⟩ := Option.map_eq_some_iff.1 h
      exact giveCO_ok hy _ hk
    · simp only
      split at h
      · rename_i hc
        rw [if_pos hc]
        split at h
        · rename_i hg
          simp only [hg]
          split at h
          · rename_i hl
            obtain ⟨y, hy, rfl⟩ := Option.map_eq_some_iff.1 h
            exact ⟨hl, giveCO_ok hy _ hk⟩
          · cases h
        · rename_i hg
          simp only [hg]
          split at h
          · rename_i hl
            split at h
            · rename_i hall
              obtain ⟨y, hy, rfl⟩ := Option.map_eq_some_iff.1 h
              exact ⟨hl, bcase_intro (fun _ => giveCO_ok hy _ hk) (fun hf => by rw [hall] at hf; cases hf)⟩
            · cases h
          · cases h
        · cases h
      · cases h
    · rename_i h1 h2
      split
      · exact absurd rfl h1
      · exact absurd rfl (h2 _ _ _)
      · split at h
        · rename_i hp
          obtain ⟨y, hy, rfl⟩ := Option.map_eq_some_iff.1 h
          rw [if_pos hp]
          exact giveCO_ok hy _ hk
        · cases h
theorem giveVO_ok : ∀ {l : List Value} {used : List Nat} {ds : List D}, giveVO H used l = some ds → ∀ k : List D → Prop, k ds → giveVals H used l k
  | [], used, ds, h, k, hk => by
    simp only [giveVO, Option.some.injEq] at h; subst h; exact hk
  | v :: r, used, ds, h, k, hk => by
    unfold giveVO at h
    unfold giveVals
    split at h
    · rename_i e; cases e
    · rename_i e; cases e
      obtain ⟨x, hx, h⟩ := Option.bind_eq_some_iff.1 h
      obtain ⟨y, hy, rfl⟩ := Option.map_eq_some_iff.1 h
      exact giveCO_ok hx _ (giveVO_ok hy _ hk)
    · rename_i h1 e; cases e
      obtain ⟨x, hx, h⟩ := Option.bind_eq_some_iff.1 h
      obtain ⟨y, hy, rfl⟩ := Option.map_eq_some_iff.1 h
      split
      · rename_i e; cases e
      · rename_i e; cases e; exact absurd rfl (h1 _)
      · rename_i e; cases e
        exact giveCO_ok hx _ (giveVO_ok hy _ hk)
theorem giveO_ok {v : Value} {ds : List D} (h : giveO v H = some ds) : dataK (· = ds) v H := by
  unfold giveO at h
  unfold dataK
  split at h
  · split at h
    · cases h
    · rename_i hs
      simp only [if_neg hs]
      exact giveVO_ok h _ rfl
  · rename_i hn
    split
    · exact absurd rfl (hn _)
    · exact giveVO_ok h _ rfl

/-! ### Data compared -/
def cEq : Value → Value → Bool
  | .int j a, .int k b => j == k && a == b
  | .bool a, .bool b => a == b
  | .string a, .string b => a.data.toList == b.data.toList
  | _, _ => false
def csEq : List Value → List Value → Bool
  | [], [] => true
  | a :: xs, b :: bs => cEq a b && csEq xs bs
  | _, _ => false
def d1Eq : D → D → Bool
  | .nil, .nil => true
  | .val a, .val b => cEq a b
  | .sl n es cs, .sl m fs bs => n == m && es == fs && csEq cs bs
  | _, _ => false
def d2Eq : List D → List D → Bool
  | [], [] => true
  | a :: xs, b :: bs => d1Eq a b && d2Eq xs bs
  | _, _ => false
def dEq : D → D → Bool
  | .agg a, .agg b => d2Eq a b
  | a, b => d1Eq a b
def dsEq : List D → List D → Bool
  | [], [] => true
  | a :: xs, b :: bs => dEq a b && dsEq xs bs
  | _, _ => false
theorem cEq_ok : ∀ {a b : Value}, cEq a b = true → a = b := by
  intro a b h
  unfold cEq at h
  split at h
  · simp only [Bool.and_eq_true, beq_iff_eq] at h; rw [h.1, h.2]
  · rw [eq_of_beq h]
  · rename_i x y
    have e := eq_of_beq h
    obtain ⟨x⟩ := x
    obtain ⟨y⟩ := y
    have : x = y := Array.ext' e
    rw [this]
  · cases h
theorem csEq_ok : ∀ {a b : List Value}, csEq a b = true → a = b
  | [], [], _ => rfl
  | a :: xs, b :: bs, h => by
    simp only [csEq, Bool.and_eq_true] at h
    rw [cEq_ok h.1, csEq_ok h.2]
  | [], _ :: _, h => by cases h
  | _ :: _, [], h => by cases h
theorem d1Eq_ok {a b : D} (h : d1Eq a b = true) : a = b := by
  unfold d1Eq at h
  split at h
  · rfl
  · rw [cEq_ok h]
  · simp only [Bool.and_eq_true, beq_iff_eq] at h
    rw [h.1.1, h.1.2, csEq_ok h.2]
  · cases h
theorem d2Eq_ok : ∀ {a b : List D}, d2Eq a b = true → a = b
  | [], [], _ => rfl
  | a :: xs, b :: bs, h => by
    simp only [d2Eq, Bool.and_eq_true] at h
    rw [d1Eq_ok h.1, d2Eq_ok h.2]
  | [], _ :: _, h => by cases h
  | _ :: _, [], h => by cases h
theorem dEq_ok {a b : D} (h : dEq a b = true) : a = b := by
  unfold dEq at h
  split at h
  · rw [d2Eq_ok h]
  · exact d1Eq_ok h
theorem dsEq_ok : ∀ {a b : List D}, dsEq a b = true → a = b
  | [], [], _ => rfl
  | a :: xs, b :: bs, h => by
    simp only [dsEq, Bool.and_eq_true] at h
    rw [dEq_ok h.1, dsEq_ok h.2]
  | [], _ :: _, h => by cases h
  | _ :: _, [], h => by cases h

/-! ### The evaluator with a table -/
abbrev Tab := FuncId → Option (List D → Option (List D))
def tabCall (t : List D → Option (List D)) (args : Array Value) (H : Heap) : Option (Value × Heap) :=
  (readVO H args.toList).bind fun ds => (t ds).bind fun rs => (layVO rs H).map fun x => (tupleOf x.1, x.2)
def evalT (P : Program) (tab : Tab) : Nat → Self
  | 0 => ⟨fun _ _ _ => none, fun _ _ _ _ => none⟩
  | n + 1 => ⟨fun f args H => match tab f with | none => callBody P (evalT P tab n) f args H | some t => tabCall t args H, fun round c A H => codeA P (evalT P tab n) round c A H⟩
def TabOK (P : Program) (tab : Tab) : Prop := ∀ f t, tab f = some t → ∀ ds rs, t ds = some rs → Con P f ds rs
theorem tabCall_sound {f : FuncId} {t : List D → Option (List D)} (ht : ∀ ds rs, t ds = some rs → Con P f ds rs) {args : Array Value} {v : Value} {H' : Heap} (h : tabCall t args H = some (v, H')) : CallH P f args H (fun u K => u = v ∧ K = H') := by
  obtain ⟨ds, h1, h⟩ := Option.bind_eq_some_iff.1 h
  obtain ⟨rs, h2, h⟩ := Option.bind_eq_some_iff.1 h
  obtain ⟨x, h3, h⟩ := Option.map_eq_some_iff.1 h
  simp only [Prod.mk.injEq] at h
  obtain ⟨rfl, rfl⟩ := h
  refine wpFix_call (C := fun g ds rs => g = f ∧ t ds = some rs ∨ Con P g ds rs) (fun g ds rs hc => ?_) (fix := t) ?_
  · rcases hc with ⟨rfl, hm⟩ | hc
    · exact ht _ _ hm
    · exact hc
  · unfold wpFix
    refine readVO_ok h1 _ ?_
    simp only [h2]
    exact ⟨⟨.inl ⟨rfl, h2⟩⟩, layVO_ok h3 _ ⟨rfl, rfl⟩⟩
theorem evalT_sound {tab : Tab} (htab : TabOK P tab) (hmix : P.follows .mixedOrders = true) : ∀ n, SelfS P w0 (evalT P tab n)
  | 0 => ⟨fun n _ _ h => by simp [evalT] at h, fun n _ _ _ h => by simp [evalT] at h, fun n _ _ _ h => by simp [evalT] at h⟩
  | k + 1 => ⟨fun {ρ H w f args args' v H'} n g ha h => by
      simp only [evalT] at h
      split at h
      · exact callBody_sound (evalT_sound htab hmix k) g n ha h
      · rename_i t ht
        refine (tabCall_sound (htab f t ht) h w0 ρ w args' n g ha).mono ?_
        rintro e w' ⟨u, K, ρ', v', ⟨rfl, rfl⟩, h1, h2, h3, h4⟩
        exact ⟨ρ', v', h1, h2, h3, h4⟩, fun n g rr ra h => codeA_sound (evalT_sound htab hmix k) hmix n _ g rr ra h,
      fun n g rr ra h => loopIn_once (loop_body (evalT_sound htab hmix k) n _ (fun g rr ra h => codeA_sound (evalT_sound htab hmix k) hmix n _ g rr ra h) g rr ra h)⟩
/-- A call of known data is run. -/
def runOK (P : Program) (tab : Tab) (n : Nat) (f : FuncId) (ds rs : List D) (caps : Nat → Nat) : Bool :=
  match (evalT P tab n).call f (layVals caps 500 ds).1.toArray (heapOf (layVals caps 500 ds).2) with
  | some (v, H) => (match giveO v H with | some rs' => dsEq rs' rs | none => false)
  | none => false
theorem con_run {tab : Tab} (htab : TabOK P tab) (hmix : P.follows .mixedOrders = true) {n : Nat} {f : FuncId} {ds rs : List D} (hcount : countV ds ≤ 400) (h : ∀ caps, runOK P tab n f ds rs caps = true) : Con P f ds rs := by
  intro w args hr
  obtain ⟨caps, ρ, hst, g, ha⟩ := lay_gam hr hcount
  have h := h caps
  unfold runOK at h
  split at h
  · rename_i v H hc
    split at h
    · rename_i rs' hg
      have e := dsEq_ok h
      subst e
      refine callsIn_wide.1 (((evalT_sound htab hmix n).call 0 g (by simpa using ha) hc).mono ?_)
      rintro e w' ⟨ρ', v', rfl, hv, g', ext'⟩
      obtain ⟨vs, ds', u, rfl, h1, rfl⟩ := dataK_out g' hv (giveO_ok hg)
      exact ⟨⟨vs, u, rfl, h1⟩, g'.below.below hst⟩
    · cases h
  · cases h
end Go.Abs

/- Numbers: greatest divisors, quotients rounded down, fractions in lowest terms. -/
namespace Go.Abs
theorem natAbs_tmod (a b : Int) : (a.tmod b).natAbs = a.natAbs % b.natAbs := Int.natAbs_tmod a b
/-- one step of the division of both -/
theorem gcd_step (a b : Int) : (Int.gcd b (a.tmod b) : Int) = Int.gcd a b := by
  have : Int.gcd b (a.tmod b) = Int.gcd a b := by
    show Nat.gcd b.natAbs (a.tmod b).natAbs = Nat.gcd a.natAbs b.natAbs
    rw [natAbs_tmod, Nat.gcd_comm b.natAbs, ← Nat.gcd_rec, Nat.gcd_comm]
  rw [this]
theorem gcd_step_lt {a b : Int} (h : b ≠ 0) : (a.tmod b).natAbs < b.natAbs := by
  rw [natAbs_tmod]; exact Nat.mod_lt _ (by omega)
theorem gcd_end (a : Int) : (Int.gcd a 0 : Int) = if a < 0 then -a else a := by
  have : Int.gcd a 0 = a.natAbs := Nat.gcd_zero_right _
  rw [this]; split <;> omega
theorem gcd_pos {a b : Int} (h : a ≠ 0 ∨ b ≠ 0) : 0 < (Int.gcd a b : Int) := by
  have : Int.gcd a b ≠ 0 := fun e => by
    have := Int.gcd_eq_zero_iff.1 e
    omega
  omega
theorem gcd_dvd1 (a b : Int) : (Int.gcd a b : Int) ∣ a := Int.gcd_dvd_left ..
theorem gcd_dvd2 (a b : Int) : (Int.gcd a b : Int) ∣ b := Int.gcd_dvd_right ..
theorem gcd_le2 {a b : Int} (h : 0 < b) : (Int.gcd a b : Int) ≤ b := Int.le_of_dvd h (gcd_dvd2 a b)
/-- rounded down, as it is written -/
theorem floor_eq {n b : Int} (hb : 0 < b) : (if n.tmod b < 0 then n.tdiv b - 1 else n.tdiv b) = n / b := by
  rw [Int.tdiv_eq_ediv, Int.tmod_eq_emod]
  have h0 := Int.emod_nonneg n (show b ≠ 0 by omega)
  have h1 := Int.emod_lt_of_pos n hb
  have hs : b.sign = 1 := Int.sign_eq_one_of_pos hb
  have hn : (b.natAbs : Int) = b := by omega
  split
  · rename_i h
    rw [if_neg (by omega)]; omega
  · rename_i h
    have hne : n % b ≠ 0 := fun e => h (.inr (Int.dvd_of_emod_eq_zero e))
    rw [if_pos (by omega), hs]; omega
end Go.Abs

/- Fractions in lowest terms: their parts, and how they compare. -/
namespace Go.Abs
/-- a fraction in lowest terms -/
def low (n d : Int) : Int × Int := if d < 0 then ((0 - n).tdiv (Int.gcd n d), (0 - d).tdiv (Int.gcd n d)) else (n.tdiv (Int.gcd n d), d.tdiv (Int.gcd n d))
theorem tdiv_small {n g : Int} (hn : -4611686018427387904 ≤ n ∧ n ≤ 4611686018427387904) (_ : 0 < g) : -4611686018427387904 ≤ n.tdiv g ∧ n.tdiv g ≤ 4611686018427387904 := by
  have h := Int.natAbs_tdiv_le_natAbs n g
  omega
theorem tdiv_neg' (n g : Int) : n.tdiv (0 - g) = (0 - n).tdiv g := by
  rw [show (0 : Int) - g = -g by omega, show (0 : Int) - n = -n by omega, Int.tdiv_neg, Int.neg_tdiv]
theorem low_parts {n d : Int} (hd : 0 < d) : ∃ g : Int, 0 < g ∧ n = g * (low n d).1 ∧ d = g * (low n d).2 ∧ ((Int.gcd (low n d).1 (low n d).2 : Nat) : Int) = 1 := by
  have hg := gcd_pos (a := n) (b := d) (.inr (by omega))
  obtain ⟨A, hA⟩ := gcd_dvd1 n d
  obtain ⟨B, hB⟩ := gcd_dvd2 n d
  have e1 : (low n d).1 = A := by
    rw [low, if_neg (by omega)]
    show n.tdiv _ = A
    generalize hG : ((Int.gcd n d : Nat) : Int) = G at hA hg ⊢
    rw [hA]
    exact Int.mul_tdiv_cancel_left A (by omega)
  have e2 : (low n d).2 = B := by
    rw [low, if_neg (by omega)]
    show d.tdiv _ = B
    generalize hG : ((Int.gcd n d : Nat) : Int) = G at hB hg ⊢
    rw [hB]
    exact Int.mul_tdiv_cancel_left B (by omega)
  refine ⟨Int.gcd n d, hg, by rw [e1]; exact hA, by rw [e2]; exact hB, ?_⟩
  rw [e1, e2]
  have h3 : Int.gcd n d = Int.gcd n d * Int.gcd A B := by
    have : Int.gcd ((Int.gcd n d : Int) * A) ((Int.gcd n d : Int) * B) = Int.gcd n d * Int.gcd A B := by
      rw [Int.gcd_mul_left]; rfl
    rw [← hA, ← hB] at this
    exact this
  have h4 : Int.gcd A B = 1 := by
    have hp : 0 < Int.gcd n d := by omega
    exact Nat.eq_of_mul_eq_mul_left hp (by omega)
  omega
theorem low_den {n d : Int} (hd : 0 < d) : 0 < (low n d).2 ∧ (low n d).2 ≤ d := by
  obtain ⟨g, hg, h1, h2, _⟩ := low_parts (n := n) hd
  have hp : 0 < (low n d).2 := by
    rw [h2] at hd
    exact Int.pos_of_mul_pos_right hd hg
  refine ⟨hp, ?_⟩
  have := Int.mul_le_mul_of_nonneg_right (show 1 ≤ g by omega) (Int.le_of_lt hp)
  omega
end Go.Abs

/- Chapter 7: temperatures along a roll, without any program. -/
namespace Go.Proofs.G7
open Go Go.Abs
abbrev gt (l : List Int) (j : Nat) : Int := l.getD j 0
theorem gt_at {l : List Int} {i : Nat} (h : i < l.length) : l[i] = gt l i := by rw [gt, List.getD_eq_getElem?_getD, List.getElem?_eq_getElem h]; rfl
theorem gt_mem {l : List Int} {p : Int → Prop} (h : ∀ z ∈ l, p z) {i : Nat} (hi : i < l.length) : p (gt l i) := by
  rw [← gt_at hi]; exact h _ (List.getElem_mem hi)
theorem gt_ext {l m : List Int} (hl : l.length = m.length) (h : ∀ i, i < l.length → gt l i = gt m i) : l = m := by
  apply List.ext_getElem hl
  intro i h1 h2
  rw [gt_at h1, gt_at h2]; exact h i h1
theorem gt_range (f : Nat → Int) {n i : Nat} (h : i < n) : gt ((List.range n).map f) i = f i := by
  rw [← gt_at (by simpa using h)]; simp
/-- what the neighbours give -/
def nbr (b : Int) (t : List Int) (i : Nat) : Int := (if 0 < i then (gt t (i - 1) - gt t i) * b else 0) + (if i + 1 < t.length then (gt t (i + 1) - gt t i) * b else 0)
def gain (ar c b : Int) (t : List Int) (i : Nat) : Int := (ar - gt t i) * c + nbr b t i
def hv (ar c b : Int) (t : List Int) (i : Nat) : Int := gt t i + gain ar c b t i / 1000
def heatT (ar c b : Int) (t : List Int) : List Int := (List.range t.length).map (hv ar c b t)
def heatsT (ar c b : Int) : Nat → List Int → List Int
  | 0, t => t
  | n + 1, t => heatsT ar c b n (heatT ar c b t)
@[simp] theorem heatT_length {ar c b : Int} {t : List Int} : (heatT ar c b t).length = t.length := by simp [heatT]
@[simp] theorem heatsT_length {ar c b : Int} : ∀ {n : Nat} {t : List Int}, (heatsT ar c b n t).length = t.length
  | 0, t => rfl
  | n + 1, t => by rw [heatsT, heatsT_length, heatT_length]
/-- rates -/
structure Rt (c b : Int) : Prop where
  c0 : 0 ≤ c
  b0 : 0 ≤ b
  s : c + 2 * b ≤ 1000
end Go.Proofs.G7

/- Chapter 7: what small functions do, in data. -/
namespace Go.Proofs.G5f
open Go Go.Abs Go.Proofs Go.Proofs.G7
set_option maxRecDepth 100000
abbrev C5 : FuncId → List D → List D → Prop := Con Try.prog
theorem preOK : PreOK Try.prog (preF C5) := by
  intro g h he args ats H k hk
  unfold preF at he
  split at he
  · rename_i e
    obtain rfl := Option.some.inj he
    rw [beq_iff_eq] at e
    subst e
    exact wpState_call (fun args bs K hk => wit_ok hk) hk
  · split at he
    · obtain rfl := Option.some.inj he
      exact fixH_ok (fun _ _ _ h => h) _ _ _ _ _ hk
    · split at he
      · obtain rfl := Option.some.inj he
        exact fixH_ok (fun _ _ _ h => h) _ _ _ _ _ hk
      · split at he
        · obtain rfl := Option.some.inj he
          exact saidH_ok (fun _ _ _ h => h) _ _ _ _ _ hk
        · cases he
theorem hok : HandlerOK Try.prog (hF7 C5) := handlerX_ok mixed preOK (by decide) 6
theorem hokE : HandlerOK Try.prog (hE C5) := handlerX_ok mixed (fun g h he => by cases he) (by decide) 6
def rngE (lo hi e x : Int) : Int := if lo ≤ x ∧ x ≤ hi then 0 else e
theorem wit_rng {lo hi e x : Int} : Says witC 0 [dI lo, dI hi, dI e, .sl 1 1 [vI x]] [dI (rngE lo hi e x)] := ⟨by
  show rngE lo hi e x = witE lo hi e [.int .i64 x]
  simp only [witE, rngE]
  split <;> split <;> first | rfl | omega⟩
theorem rngE_no {lo hi e x : Int} (h : ¬ (lo ≤ x ∧ x ≤ hi)) : rngE lo hi e x = e := if_neg h
theorem rngE_yes {lo hi e x : Int} (h : lo ≤ x ∧ x ≤ hi) : rngE lo hi e x = 0 := if_pos h
/-- all numbers lie in a range -/
theorem witE_all {lo hi e : Int} : ∀ l : List Int, witE lo hi e (vi l) = if ∀ z ∈ l, lo ≤ z ∧ z ≤ hi then 0 else e
  | [] => by simp [vi, witE]
  | x :: r => by
    have ih := witE_all (lo := lo) (hi := hi) (e := e) r
    show (if x < lo ∨ x > hi then e else witE lo hi e (vi r)) = _
    by_cases h : lo ≤ x ∧ x ≤ hi
    · rw [if_neg (by omega), ih]
      by_cases h2 : ∀ z ∈ r, lo ≤ z ∧ z ≤ hi
      · rw [if_pos h2, if_pos ((List.forall_mem_cons (p := fun z => lo ≤ z ∧ z ≤ hi)).2 ⟨h, h2⟩)]
      · rw [if_neg h2, if_neg (fun hh => h2 fun z hz => hh z (List.mem_cons_of_mem _ hz))]
    · rw [if_pos (by omega), if_neg (fun hh => h (hh x (List.mem_cons_self ..)))]
/-- the first error of a list of errors -/
theorem conFE (l : List Int) (hlen : l.length < 1000000000) : C5 67 [.sl l.length 1 (vi l)] [dI (fst0 l)] := by
  let inv : Nat × Nat → Prop := fun x => x.1 ≤ l.length ∧ fst0 l = fst0 (l.drop x.1)
  let st : Nat × Nat → Slots × Blocks := fun x => zFE1 l.length x.2 l.length x.1 (vi l)
  refine con_of (L := fun _ s b => ∃ x, inv x ∧ st x = (s, b)) hok mixed Try.func67 rfl (by show 1 ≤ 400; omega) rfl (ids := [0]) (by kernel_rfl) rfl (fun caps => ?_) (fun id hid => ?_)
  · show gFE _ _ l.length (caps 500) (vi l) _
    rw [gFE_text]
    exact ⟨(0, caps 500), ⟨by simp, rfl⟩, rfl⟩
  · obtain rfl := List.mem_singleton.1 hid
    refine ⟨Nat × Nat, st, inv, fun x => l.length - x.1, ⟨fun s b h => h, by kernel_rfl, ?_⟩⟩
    rintro ⟨i, cap⟩ ⟨hi, hr⟩
    simp only at hi hr
    show rFE1 _ _ l.length cap l.length i (vi l) _ _ _
    rw [rFE1_text]
    refine bc_dec (fun h => ?_) (fun h => ?_)
    · have hi' : i < l.length := by omega
      rw [List.drop_eq_getElem_cons hi', fst0] at hr
      simp only [bc_t h, bc_t (show (0 : Int) ≤ (i : Int) by omega), Int.toNat_natCast, at1 (vi_at l i hi')]
      refine bc_bne (fun hc => ?_) (fun hc => ?_)
      · rw [if_neg hc] at hr
        show [dI l[i]] = [dI (fst0 l)]
        rw [hr]
      · rw [if_pos hc] at hr
        refine ⟨(i + 1, cap), ⟨by show i + 1 ≤ l.length; omega, hr⟩, by show l.length - (i + 1) < l.length - i; omega, ?_⟩
        rw [w64 (by omega) (by omega)]; rfl
    · show (if 0 = 0 then _ else _)
      rw [if_pos rfl]
      show nFE2 _ _ _
      rw [nFE2_text]
      have : i = l.length := by omega
      rw [this, List.drop_length] at hr
      show [dI 0] = [dI (fst0 l)]
      rw [hr]; rfl
def cntE (n a b : Int) : Int := if n < a then 10 else if n > b then 8 else 0
theorem conCC (n a b : Int) : C5 68 [dI n, dI a, dI b] [dI (cntE n a b)] := by
  refine con_flat hok mixed Try.func68 rfl (by show 0 ≤ 400; omega) rfl (by kernel_rfl) (fun caps => ?_)
  show gCC _ _ n a b _
  rw [gCC_text]; unfold cntE
  refine bc_dec (fun h => ?_) (fun h => bc_dec (fun h2 => ?_) (fun h2 => ?_))
  · show _ = _; rw [if_pos h]
  · show _ = _; rw [if_neg h, if_pos h2]
  · show _ = _; rw [if_neg h, if_neg h2]
def sameE (a b : Int) : Int := if a ≠ b then 10 else 0
theorem conCS (a b : Int) : C5 71 [dI a, dI b] [dI (sameE a b)] := by
  refine con_flat hok mixed Try.func71 rfl (by show 0 ≤ 400; omega) rfl (by kernel_rfl) (fun caps => ?_)
  show gCS _ _ a b _
  rw [gCS_text]; unfold sameE
  refine bc_bne (fun h => ?_) (fun h => ?_)
  · show _ = _; rw [if_pos h]
  · show _ = _; rw [if_neg (by omega)]
theorem conWi (a b c : Int) : C5 23 [dI a, dI b, dI c] [.val (.bool (decide (b ≤ a ∧ a ≤ c)))] := by
  refine con_flat hok mixed Try.func23 rfl (by show 0 ≤ 400; omega) rfl (by kernel_rfl) (fun caps => ?_)
  show gWi _ _ a b c _
  rw [gWi_text]
  refine bc_dec (fun h => bc_dec (fun h2 => ?_) (fun h2 => ?_)) (fun h => ?_)
  · show _ = _; rw [decide_eq_true (show b ≤ a ∧ a ≤ c from ⟨h, h2⟩)]
  · show _ = _; rw [decide_eq_false (show ¬ (b ≤ a ∧ a ≤ c) by omega)]
  · show _ = _; rw [decide_eq_false (show ¬ (b ≤ a ∧ a ≤ c) by omega)]
theorem sayWt {a b c : Int} (h : b ≤ a ∧ a ≤ c) : Says C5 23 [dI a, dI b, dI c] [.val (.bool true)] := by
  have := conWi a b c
  rw [decide_eq_true h] at this
  exact ⟨this⟩
theorem sayWf {a b c : Int} (h : ¬ (b ≤ a ∧ a ≤ c)) : Says C5 23 [dI a, dI b, dI c] [.val (.bool false)] := by
  have := conWi a b c
  rw [decide_eq_false h] at this
  exact ⟨this⟩
def szI (a : Int) : Int := if -a > a then -a else a
theorem conSi (a : Int) (h : -9223372036854775807 ≤ a ∧ a ≤ 9223372036854775807) : C5 96 [dI a] [dI (szI a)] := by
  refine con_flat hok mixed Try.func96 rfl (by show 0 ≤ 400; omega) rfl (by kernel_rfl) (fun caps => ?_)
  show gSi _ _ a _
  rw [gSi_text, w64 (by omega) (by omega)]
  show [dI _] = [dI _]
  rw [show (0 : Int) - a = -a by omega]; rfl
theorem div_bd {n b : Int} (hb : 0 < b) (hn : -4611686018427387904 ≤ n ∧ n ≤ 4611686018427387904) : (-4611686018427387905 ≤ n.tdiv b ∧ n.tdiv b ≤ 4611686018427387904) := by
  have h := Int.natAbs_tdiv_le_natAbs n b
  omega
theorem conFl (n b : Int) (hb : 0 < b) (hn : -4611686018427387904 ≤ n ∧ n ≤ 4611686018427387904) : C5 109 [dI n, dI b] [dI (n / b)] := by
  refine con_flat hok mixed Try.func109 rfl (by show 0 ≤ 400; omega) rfl (by kernel_rfl) (fun caps => ?_)
  show gFl _ _ n b _
  have hd := div_bd hb hn
  rw [gFl_text, bc_n (show b ≠ 0 by omega), bc_n (show b ≠ 0 by omega), w64 (z := n.tdiv b) (by omega) (by omega), w64 (by omega) (by omega), ← floor_eq hb]
  refine bc_dec (fun h => ?_) (fun h => ?_)
  · show _ = _; rw [if_pos h]
  · show _ = _; rw [if_neg h]
/-- are two lists equal -/
theorem conIn (l m : List Int) (hl : l.length < 1000000000) : C5 36 [.sl l.length 1 (vi l), .sl m.length 1 (vi m)] [.val (.bool (decide (l = m)))] := by
  let inv : Nat × Nat × Nat → Prop := fun x => x.1 ≤ l.length ∧ l.length = m.length ∧ (l = m ↔ l.drop x.1 = m.drop x.1)
  let st : Nat × Nat × Nat → Slots × Blocks := fun x => zIn1 l.length x.2.1 m.length x.2.2 x.1 (vi l) (vi m)
  refine con_of (L := fun _ s b => ∃ x, inv x ∧ st x = (s, b)) hok mixed Try.func36 rfl (by show 2 ≤ 400; omega) rfl (ids := [0]) (by kernel_rfl) rfl (fun caps => ?_) (fun id hid => ?_)
  · show gIn _ _ l.length (caps 500) (vi l) m.length (caps 501) (vi m) _
    rw [gIn_text]
    refine bc_bne (fun h => ?_) (fun h => ?_)
    · show _ = _
      rw [decide_eq_false (fun e => h (by rw [e]))]
    · exact ⟨(0, caps 500, caps 501), ⟨Nat.zero_le _, by show l.length = m.length; omega, Iff.rfl⟩, rfl⟩
  · obtain rfl := List.mem_singleton.1 hid
    refine ⟨Nat × Nat × Nat, st, inv, fun x => l.length - x.1, ⟨fun s b h => h, by kernel_rfl, ?_⟩⟩
    rintro ⟨i, c1, c2⟩ ⟨hi, hlm, hr⟩
    simp only at hi hr
    show rIn1 _ _ l.length c1 m.length c2 (i : Int) (vi l) (vi m) _ _ _
    rw [rIn1_text]
    refine bc_dec (fun h => ?_) (fun h => ?_)
    · have h1 : i < l.length := by omega
      have h2 : i < m.length := by omega
      rw [List.drop_eq_getElem_cons h1, List.drop_eq_getElem_cons h2] at hr
      simp only [bc_t h, bc_t (show (i : Int) < (m.length : Int) by omega), bc_t (show (0 : Int) ≤ (i : Int) by omega), Int.toNat_natCast, at1 (vi_at l i h1), at1 (vi_at m i h2), eq_self, true_and, and_true]
      refine bc_bne (fun hc => ?_) (fun hc => ?_)
      · rw [bc_n hc]
        refine ⟨trivial, ?_⟩
        show _ = _
        rw [decide_eq_false (fun e => hc (List.cons.inj (hr.1 e)).1)]
      · refine ⟨bc_bne (fun h' => absurd hc h') (fun _ => trivial), ⟨i + 1, c1, c2⟩, ⟨by show i + 1 ≤ l.length; omega, hlm, ?_⟩, by show l.length - (i + 1) < l.length - i; omega, ?_⟩
        · show l = m ↔ l.drop (i + 1) = m.drop (i + 1)
          refine hr.trans ?_
          rw [hc]
          exact ⟨fun e => (List.cons.inj e).2, fun e => by rw [e]⟩
        · rw [w64 (by omega) (by omega)]; rfl
    · show (if 0 = 0 then _ else _)
      rw [if_pos rfl]
      show nIn2 _ _ _
      rw [nIn2_text]
      show _ = _
      have e1 : l.drop i = [] := List.drop_eq_nil_of_le (by omega)
      have e2 : m.drop i = [] := List.drop_eq_nil_of_le (by omega)
      rw [decide_eq_true (hr.2 (by rw [e1, e2]))]
theorem conCI (l : List Int) (hl : l.length ≤ 1000000) : C5 15 [.sl l.length 1 (vi l)] [.sl l.length 1 (vi l)] := by
  refine con_flat hokE mixed Try.func15 rfl (by show 1 ≤ 400; omega) rfl (by kernel_rfl) (fun caps => ?_)
  show gCI _ _ l.length (caps 500) (vi l) _
  rw [gCI_text]
  refine bc_yes (by simp) (bc_beq (fun h0 => ⟨⟨rfl, rfl⟩, ?_⟩) (fun h0 => bc_yes (by omega) (bc_yes (by omega) (bc_yes (by omega) ⟨⟨rfl, by simp⟩, ?_⟩))))
  · obtain rfl : l = [] := List.length_eq_zero_iff.1 h0
    rfl
  · rw [vi_whole, Nat.zero_add, List.nil_append]
theorem conCIn : C5 15 [.nil] [.sl 0 1 []] := by
  refine con_flat hokE mixed Try.func15 rfl (by show 0 ≤ 400; omega) rfl (by kernel_rfl) (fun caps => ?_)
  show gCIn _ _ _
  rw [gCIn_text]
  exact ⟨⟨rfl, rfl⟩, rfl⟩
/-! ### fractions -/
theorem conGc (a b : Int) (ha : -9223372036854775808 ≤ a ∧ a ≤ 9223372036854775807) (hb : -9223372036854775807 ≤ b ∧ b ≤ 9223372036854775807) (h0 : b = 0 → -9223372036854775807 ≤ a) : C5 76 [dI a, dI b] [dI (Int.gcd a b)] := by
  let inv : Int × Int → Prop := fun x => (-9223372036854775808 ≤ x.1 ∧ x.1 ≤ 9223372036854775807) ∧ (-9223372036854775807 ≤ x.2 ∧ x.2 ≤ 9223372036854775807) ∧ (x.2 = 0 → -9223372036854775807 ≤ x.1) ∧ Int.gcd x.1 x.2 = Int.gcd a b
  let st : Int × Int → Slots × Blocks := fun x => zGc1 x.1 x.2
  refine con_of (L := fun _ s b => ∃ x, inv x ∧ st x = (s, b)) hok mixed Try.func76 rfl (by show 0 ≤ 400; omega) rfl (ids := [0]) (by kernel_rfl) rfl (fun caps => ?_) (fun id hid => ?_)
  · show gGc _ _ a b _
    rw [gGc_text]
    exact ⟨(a, b), ⟨ha, hb, h0, rfl⟩, rfl⟩
  · obtain rfl := List.mem_singleton.1 hid
    refine ⟨Int × Int, st, inv, fun x => x.2.natAbs, ⟨fun s b h => h, by kernel_rfl, ?_⟩⟩
    rintro ⟨x, y⟩ ⟨hx, hy, hxy, hg⟩
    simp only at hx hy hxy hg
    show rGc1 _ _ x y _ _ _
    rw [rGc1_text]
    refine bc_bne (fun h => ?_) (fun h => ?_)
    · simp only [bc_n h, true_and, and_true]
      have hlt := gcd_step_lt (a := x) h
      have hst := gcd_step x y
      refine ⟨(y, x.tmod y), ⟨⟨by show -9223372036854775808 ≤ y; omega, hy.2⟩, ?_, fun _ => hy.1, by show Int.gcd y (x.tmod y) = _; omega⟩, hlt, rfl⟩
      show -9223372036854775807 ≤ x.tmod y ∧ x.tmod y ≤ 9223372036854775807
      have : (x.tmod y).natAbs < y.natAbs := hlt
      omega
    · show (if 0 = 0 then _ else _)
      rw [if_pos rfl]
      show nGc2 _ _ x _
      have hxl := hxy h
      rw [nGc2_text]
      refine ⟨_, ⟨conSi x (by omega)⟩, ?_⟩
      subst h
      have := gcd_end x
      show [dI _] = [dI _]
      rw [show ((Int.gcd a b : Nat) : Int) = (Int.gcd x 0 : Nat) by rw [hg], this]
      have e : szI x = (if x < 0 then -x else x) := by unfold szI; split <;> split <;> omega
      rw [e]
theorem conLo (n d : Int) (hn : -4611686018427387904 ≤ n ∧ n ≤ 4611686018427387904) (hd : -4611686018427387904 ≤ d ∧ d ≤ 4611686018427387904) (h0 : d ≠ 0) : C5 70 [dI n, dI d] [.agg [dI (low n d).1, dI (low n d).2]] := by
  refine con_flat hok mixed Try.func70 rfl (by show 0 ≤ 400; omega) rfl (by kernel_rfl) (fun caps => ?_)
  show gLo _ _ n d _
  rw [gLo_text]
  have hg := gcd_pos (a := n) (b := d) (.inr h0)
  have hg' : ((Int.gcd n d : Nat) : Int) ≠ 0 := by omega
  have hgl : ((Int.gcd n d : Nat) : Int) ≤ 4611686018427387904 := by
    have : Int.gcd n d ≤ d.natAbs := Nat.le_of_dvd (by omega) (Nat.gcd_dvd_right ..)
    omega
  refine ⟨_, ⟨conGc n d (by omega) (by omega) (by omega)⟩, bc_dec (fun h => ?_) (fun h => ?_)⟩
  · rw [w64 (z := 0 - ((Int.gcd n d : Nat) : Int)) (by omega) (by omega)]
    have hg2 : 0 - ((Int.gcd n d : Nat) : Int) ≠ 0 := by omega
    have b1 := tdiv_small (n := 0 - n) (g := Int.gcd n d) (by omega) hg
    have b2 := tdiv_small (n := 0 - d) (g := Int.gcd n d) (by omega) hg
    simp only [bc_n hg2, true_and, and_true, tdiv_neg']
    rw [w64 (by omega) (by omega), w64 (by omega) (by omega)]
    show _ = _
    rw [low, if_pos h]
  · have b1 := tdiv_small (n := n) (g := Int.gcd n d) hn hg
    have b2 := tdiv_small (n := d) (g := Int.gcd n d) hd hg
    simp only [bc_n hg', true_and, and_true]
    rw [w64 (by omega) (by omega), w64 (by omega) (by omega)]
    show _ = _
    rw [low, if_neg h]
theorem gcd_sw (a b : Int) : Int.gcd a b = Int.gcd b a := Int.gcd_comm a b
theorem conDv (a b : Int) (ha : -4611686018427387904 ≤ a ∧ a ≤ 4611686018427387904) (hb : -4611686018427387904 ≤ b ∧ b ≤ 4611686018427387904) : C5 118 [dI a, dI b] [dI (Int.gcd a b)] := by
  let inv : Int × Int → Prop := fun x => (-4611686018427387904 ≤ x.1 ∧ x.1 ≤ 4611686018427387904) ∧ (-4611686018427387904 ≤ x.2 ∧ x.2 ≤ 4611686018427387904) ∧ Int.gcd x.1 x.2 = Int.gcd a b
  let st : Int × Int → Slots × Blocks := fun x => zDv1 x.1 x.2
  refine con_of (L := fun _ s b => ∃ x, inv x ∧ st x = (s, b)) hokE mixed Try.func118 rfl (by show 0 ≤ 400; omega) rfl (ids := [0]) (by kernel_rfl) rfl (fun caps => ?_) (fun id hid => ?_)
  · show gDv _ _ a b _
    rw [gDv_text]
    exact ⟨(a, b), ⟨ha, hb, rfl⟩, rfl⟩
  · obtain rfl := List.mem_singleton.1 hid
    refine ⟨Int × Int, st, inv, fun x => x.1.natAbs, ⟨fun s b h => h, by kernel_rfl, ?_⟩⟩
    rintro ⟨x, y⟩ ⟨hx, hy, hg⟩
    simp only at hx hy hg
    show rDv1 _ _ x y _ _ _
    rw [rDv1_text]
    refine bc_bne (fun h => ?_) (fun h => ?_)
    · simp only [bc_n h, true_and, and_true]
      have hlt := gcd_step_lt (a := y) h
      have hst := gcd_step y x
      refine ⟨(y.tmod x, x), ⟨?_, hx, ?_⟩, hlt, rfl⟩
      · show -4611686018427387904 ≤ y.tmod x ∧ y.tmod x ≤ 4611686018427387904
        have : (y.tmod x).natAbs < x.natAbs := hlt
        omega
      · show Int.gcd (y.tmod x) x = _
        rw [gcd_sw (y.tmod x) x, ← hg, gcd_sw x y]; omega
    · show (if 0 = 0 then _ else _)
      rw [if_pos rfl]
      show nDv2 _ _ y _
      rw [nDv2_text, w64 (by omega) (by omega)]
      subst h
      have := gcd_end y
      show [dI _] = [dI _]
      rw [show ((Int.gcd a b : Nat) : Int) = (Int.gcd y 0 : Nat) by rw [← hg, gcd_sw 0 y], this]
      have e : (if 0 - y > y then 0 - y else y) = (if y < 0 then -y else y) := by split <;> split <;> omega
      rw [e]
theorem conLT (n d : Int) (hn : -4611686018427387904 ≤ n ∧ n ≤ 4611686018427387904) (hd : -4611686018427387904 ≤ d ∧ d ≤ 4611686018427387904) (h0 : 0 < d) : C5 66 [dI n, dI d] [.agg [dI (low n d).1, dI (low n d).2]] := by
  refine con_flat hok mixed Try.func66 rfl (by show 0 ≤ 400; omega) rfl (by kernel_rfl) (fun caps => ?_)
  show gLT _ _ n d _
  rw [gLT_text]
  have hg := gcd_pos (a := n) (b := d) (.inr (by omega))
  have hg' : ((Int.gcd n d : Nat) : Int) ≠ 0 := by omega
  have b1 := tdiv_small (n := n) (g := Int.gcd n d) hn hg
  have b2 := tdiv_small (n := d) (g := Int.gcd n d) hd hg
  refine ⟨_, ⟨conDv n d hn hd⟩, ?_⟩
  simp only [bc_n hg', true_and, and_true]
  rw [w64 (by omega) (by omega), w64 (by omega) (by omega)]
  show _ = _
  rw [low, if_neg (by omega)]
/-! ### sums -/
def sumI : List Int → Int
  | [] => 0
  | x :: r => x + sumI r
theorem sum_bd {B : Int} : ∀ {l : List Int}, (∀ z ∈ l, -B ≤ z ∧ z ≤ B) → -(B * l.length) ≤ sumI l ∧ sumI l ≤ B * l.length
  | [], _ => by simp [sumI]
  | x :: r, h => by
    have h1 := h x (List.mem_cons_self ..)
    have h2 := sum_bd (l := r) fun z hz => h z (List.mem_cons_of_mem _ hz)
    have e : B * ((x :: r).length : Int) = B * r.length + B := by rw [List.length_cons]; push_cast; rw [Int.mul_add, Int.mul_one]
    rw [e, sumI]; omega
theorem sum_take : ∀ (l : List Int) (i : Nat), sumI (l.take i) + sumI (l.drop i) = sumI l
  | [], i => by simp [sumI]
  | x :: r, 0 => by simp [sumI]
  | x :: r, i + 1 => by
    have := sum_take r i
    simp only [List.take_succ_cons, List.drop_succ_cons, sumI]; omega
theorem sum_tk {l : List Int} {i : Nat} (h : i < l.length) : sumI (l.take (i + 1)) = sumI (l.take i) + l[i] := by
  have h1 := sum_take l (i + 1)
  have h2 := sum_take l i
  rw [List.drop_eq_getElem_cons h, sumI] at h2
  omega
theorem conSu (l : List Int) (hl : l.length ≤ 1000) (hb : ∀ z ∈ l, -1000000000 ≤ z ∧ z ≤ 1000000000) : C5 72 [.sl l.length 1 (vi l)] [dI (sumI l)] := by
  let inv : Nat × Nat → Prop := fun x => x.1 ≤ l.length
  let st : Nat × Nat → Slots × Blocks := fun x => zSu1 (sumI (l.take x.1)) l.length x.2 l.length x.1 (vi l)
  refine con_of (L := fun _ s b => ∃ x, inv x ∧ st x = (s, b)) hok mixed Try.func72 rfl (by show 1 ≤ 400; omega) rfl (ids := [0]) (by kernel_rfl) rfl (fun caps => ?_) (fun id hid => ?_)
  · show gSu _ _ l.length (caps 500) (vi l) _
    rw [gSu_text]
    exact ⟨(0, caps 500), Nat.zero_le _, rfl⟩
  · obtain rfl := List.mem_singleton.1 hid
    refine ⟨Nat × Nat, st, inv, fun x => l.length - x.1, ⟨fun s b h => h, by kernel_rfl, ?_⟩⟩
    rintro ⟨i, cap⟩ hi
    have hi : i ≤ l.length := hi
    show rSu1 _ _ (sumI (l.take i)) l.length cap l.length i (vi l) _ _ _
    rw [rSu1_text]
    refine bc_dec (fun h => ?_) (fun h => ?_)
    · have hi' : i < l.length := by omega
      have hq := sum_bd (B := 1000000000) (l := l.take (i + 1)) fun z hz => hb z (List.mem_of_mem_take hz)
      have hlt : (l.take (i + 1)).length ≤ 1000 := by rw [List.length_take]; omega
      rw [sum_tk hi'] at hq
      simp only [bc_t h, bc_t (show (0 : Int) ≤ (i : Int) by omega), Int.toNat_natCast, at1 (vi_at l i hi')]
      refine ⟨(i + 1, cap), hi', by show l.length - (i + 1) < l.length - i; omega, ?_⟩
      rw [w64 (z := (i : Int) + 1) (by omega) (by omega), w64 (by omega) (by omega), ← sum_tk hi']; rfl
    · show (if 0 = 0 then _ else _)
      rw [if_pos rfl]
      show nSu2 _ _ (sumI (l.take i)) _
      rw [nSu2_text, List.take_of_length_le (by omega)]
theorem conRS (l : List Int) (hl : l.length ≤ 1000) (hb : ∀ z ∈ l, -1000000000 ≤ z ∧ z ≤ 1000000000) : C5 74 [.sl l.length 1 (vi l)] [dI (sumI l)] := by
  let inv : Nat × Nat → Prop := fun x => x.1 ≤ l.length
  let st : Nat × Nat → Slots × Blocks := fun x => zRS1 l.length x.2 (sumI (l.take x.1)) x.1 (vi l)
  refine con_of (L := fun _ s b => ∃ x, inv x ∧ st x = (s, b)) hok mixed Try.func74 rfl (by show 1 ≤ 400; omega) rfl (ids := [0]) (by kernel_rfl) rfl (fun caps => ?_) (fun id hid => ?_)
  · show gRS _ _ l.length (caps 500) (vi l) _
    rw [gRS_text]
    exact ⟨(0, caps 500), Nat.zero_le _, rfl⟩
  · obtain rfl := List.mem_singleton.1 hid
    refine ⟨Nat × Nat, st, inv, fun x => l.length - x.1, ⟨fun s b h => h, by kernel_rfl, ?_⟩⟩
    rintro ⟨i, cap⟩ hi
    have hi : i ≤ l.length := hi
    show rRS1 _ _ l.length cap (sumI (l.take i)) i (vi l) _ _ _
    rw [rRS1_text]
    refine bc_dec (fun h => ?_) (fun h => ?_)
    · have hi' : i < l.length := by omega
      have hq := sum_bd (B := 1000000000) (l := l.take (i + 1)) fun z hz => hb z (List.mem_of_mem_take hz)
      have hlt : (l.take (i + 1)).length ≤ 1000 := by rw [List.length_take]; omega
      rw [sum_tk hi'] at hq
      simp only [bc_t h, bc_t (show (0 : Int) ≤ (i : Int) by omega), Int.toNat_natCast, at1 (vi_at l i hi')]
      refine ⟨(i + 1, cap), hi', by show l.length - (i + 1) < l.length - i; omega, ?_⟩
      rw [w64 (z := (i : Int) + 1) (by omega) (by omega), w64 (by omega) (by omega), ← sum_tk hi']; rfl
    · show (if 0 = 0 then _ else _)
      rw [if_pos rfl]
      show nRS2 _ _ (sumI (l.take i)) _
      rw [nRS2_text, List.take_of_length_le (by omega)]
end Go.Proofs.G5f

/- Chapter 7: what the frames of the laws share. -/
namespace Go.Proofs.Ytpjfmeijfkbfaaa.K
open Go Go.Abs Go.RowKit Go.ChangeShapes Go.WideShapes Go.ChangeAt Go.Proofs Go.Flat
set_option maxRecDepth 100000
theorem own : ownKnob Try.prog.godebug = none := by kernel_rfl
theorem laidP : laidOutB Try.prog = true := by kernel_rfl
theorem mapsP : mapsRowed Try.prog = true := by kernel_rfl
theorem slicesP : ∀ t e, t < Try.prog.types.size → Try.prog.underlying t = some (.slice e) → 0 < Try.prog.cellsOf e := slices_full_of Try.prog (by kernel_rfl)
theorem tsP {l : List TypeId} (h : l.all (fun t => decide (t < Try.prog.types.size)) = true) : ∀ t ∈ l, t < Try.prog.types.size := fun t ht => of_decide_eq_true (List.all_eq_true.1 h t ht)
theorem flat_vi : ∀ l : List Int, (l.flatMap fun a => [Value.int .i64 a]) = vi l
  | [] => rfl
  | a :: r => by rw [List.flatMap_cons, flat_vi r]; rfl
/-- lists of whole numbers -/
theorem leaf_ints {t e : TypeId} {d : D} (ht : Try.prog.underlying t = some (.slice e)) (he : leaves Try.prog 10 e = some [.int .i64]) (h : LeafD Try.prog t d) : d = .nil ∨ ∃ l : List Int, d = .sl l.length 1 (vi l) := by
  unfold LeafD at h
  rw [ht] at h
  simp only at h
  rcases h with h | ⟨n, cs, L, rfl, hL, hn, hl, hc⟩
  · exact .inl h
  · rw [he] at hL
    obtain rfl := Option.some.inj hL
    simp only [List.length_cons, List.length_nil, Nat.zero_add] at hl hc ⊢
    obtain ⟨ps, hp, rfl⟩ := chunks_of (f := fun a : Int => [Value.int .i64 a]) (k := 1) (fun _ => rfl) n cs hl (fun i hi => by
      have := hc i hi
      generalize (cs.drop (i * 1)).take 1 = x at this ⊢
      cases this with
      | cons h t => cases t; obtain ⟨a, rfl, _⟩ := h; exact ⟨a, rfl⟩)
    refine .inr ⟨ps, ?_⟩
    rw [hp]
    rw [flat_vi]
theorem leaf_int {t : TypeId} {d : D} (ht : Try.prog.underlying t = some (.int .i64)) (h : LeafD Try.prog t d) : ∃ n : Int, d = dI n ∧ (-9223372036854775808 ≤ n ∧ n ≤ 9223372036854775807) := by
  unfold LeafD at h
  rw [ht] at h
  obtain ⟨n, rfl, hw⟩ := h
  exact ⟨n, rfl, wf64 hw⟩
end Go.Proofs.Ytpjfmeijfkbfaaa.K
namespace Go.Proofs.Ytpjfmeijfkbfaaa.K
open Go Go.Abs Go.RowKit Go.ChangeShapes Go.WideShapes Go.ChangeAt Go.Proofs Go.Flat
set_option maxRecDepth 100000
theorem flat_vp : ∀ l : List (Int × Int), (l.flatMap fun p => [Value.int .i64 p.1, Value.int .i64 p.2]) = vp l
  | [] => rfl
  | a :: r => by rw [List.flatMap_cons, flat_vp r]; rfl
/-- lists of pairs of whole numbers, each of them of 64 bits -/
theorem leaf_prs {t e : TypeId} {d : D} (ht : Try.prog.underlying t = some (.slice e)) (he : leaves Try.prog 10 e = some [.int .i64, .int .i64]) (h : LeafD Try.prog t d) : d = .nil ∨ ∃ l : List (Int × Int), d = .sl l.length 2 (vp l) ∧ ∀ f ∈ l, (-9223372036854775808 ≤ f.1 ∧ f.1 ≤ 9223372036854775807) ∧ (-9223372036854775808 ≤ f.2 ∧ f.2 ≤ 9223372036854775807) := by
  unfold LeafD at h
  rw [ht] at h
  simp only at h
  rcases h with h | ⟨n, cs, L, rfl, hL, hn, hl, hc⟩
  · exact .inl h
  · rw [he] at hL
    obtain rfl := Option.some.inj hL
    simp only [List.length_cons, List.length_nil, Nat.zero_add] at hl hc ⊢
    have hc2 : ∀ i, i < n → ∃ p : Int × Int, (cs.drop (i * 2)).take 2 = [Value.int .i64 p.1, Value.int .i64 p.2] ∧ (-9223372036854775808 ≤ p.1 ∧ p.1 ≤ 9223372036854775807) ∧ (-9223372036854775808 ≤ p.2 ∧ p.2 ≤ 9223372036854775807) := by
      intro i hi
      have := hc i hi
      generalize (cs.drop (i * 2)).take 2 = x at this ⊢
      cases this with
      | cons h1 t =>
        cases t with
        | cons h2 t =>
          cases t
          obtain ⟨a, rfl, ha⟩ := h1
          obtain ⟨b, rfl, hb⟩ := h2
          exact ⟨(a, b), rfl, wf64 ha, wf64 hb⟩
    obtain ⟨ps, hp, rfl⟩ := chunks_of (f := fun p : Int × Int => [Value.int .i64 p.1, Value.int .i64 p.2]) (k := 2) (fun _ => rfl) n cs hl (fun i hi => by
      obtain ⟨p, hp, _⟩ := hc2 i hi
      exact ⟨p, hp⟩)
    refine .inr ⟨ps, by rw [hp, flat_vp], ?_⟩
    intro f hf
    obtain ⟨i, hi, rfl⟩ := List.mem_iff_getElem.1 hf
    obtain ⟨p, hp2, hw⟩ := hc2 i (by omega)
    rw [flat_vp] at hp2
    have := vp_two ps i hi
    rw [Nat.zero_add] at this
    have e := this.eq.symm.trans hp2
    simp only [List.cons.injEq, Value.int.injEq, true_and, and_true] at e
    rw [e.1, e.2]; exact hw
end Go.Proofs.Ytpjfmeijfkbfaaa.K

/- Chapter 7: a step of heat, in data. -/
namespace Go.Proofs.G5f
open Go Go.Abs Go.Proofs Go.Proofs.G7
set_option maxRecDepth 100000
abbrev Hot (t : List Int) : Prop := ∀ z ∈ t, -100000 ≤ z ∧ z ≤ 100000
theorem mul_le {a b A B : Int} (ha : -A ≤ a ∧ a ≤ A) (hb : 0 ≤ b ∧ b ≤ B) : -(A * B) ≤ a * b ∧ a * b ≤ A * B := by
  have hA : 0 ≤ A := by omega
  have e1 : a * b ≤ A * b := Int.mul_le_mul_of_nonneg_right ha.2 hb.1
  have e2 : A * b ≤ A * B := Int.mul_le_mul_of_nonneg_left hb.2 hA
  have e3 : -A * b ≤ a * b := Int.mul_le_mul_of_nonneg_right ha.1 hb.1
  have e4 : -A * b = -(A * b) := Int.neg_mul ..
  omega
/-- rates and surroundings -/
structure Hr (ar c b : Int) : Prop where
  a : -100000 ≤ ar ∧ ar ≤ 100000
  c : 0 ≤ c ∧ c ≤ 1000
  b : 0 ≤ b ∧ b ≤ 1000
/-- the temperatures that are found so far -/
abbrev hvs (ar c b : Int) (t : List Int) (n : Nat) : List Int := (List.range n).map (hv ar c b t)
theorem rg_snoc (f : Nat → Int) (n : Nat) : vi ((List.range n).map f) ++ [vI (f n)] = vi ((List.range (n + 1)).map f) := by
  rw [List.range_succ, List.map_append, vi, vi, List.map_append]; rfl
theorem rg_take (f : Nat → Int) (n : Nat) : List.take (n * 1) (List.drop 0 (vi ((List.range n).map f))) = vi ((List.range n).map f) := by
  rw [List.drop_zero, List.take_of_length_le (by simp)]
end Go.Proofs.G5f

/- Chapter 7: temperatures after steps, in data. -/
namespace Go.Proofs.G5f
open Go Go.Abs Go.Proofs Go.Proofs.G7
set_option maxRecDepth 100000
theorem m5 : (-(99999 + 1) : Int) = -100000 := by decide
theorem wit2_say {lo hi e x y : Int} : Says witC 0 [dI lo, dI hi, dI e, .sl 2 1 [vI x, vI y]] [dI (if (lo ≤ x ∧ x ≤ hi) ∧ (lo ≤ y ∧ y ≤ hi) then 0 else e)] := ⟨by
  show (if (lo ≤ x ∧ x ≤ hi) ∧ (lo ≤ y ∧ y ≤ hi) then 0 else e) = witE lo hi e [.int .i64 x, .int .i64 y]
  simp only [witE]
  repeat' split
  all_goals first | rfl | omega⟩
instance hotD (t : List Int) : Decidable (Hot t) := inferInstanceAs (Decidable (∀ z ∈ t, -100000 ≤ z ∧ z ≤ 100000))
structure HV (t : List Int) (ar c b s : Int) : Prop where
  n : 2 ≤ t.length ∧ t.length ≤ 9
  t : Hot t
  h : Hr ar c b
  r : Rt c b
  s : 0 ≤ s ∧ s ≤ 200
theorem fst0_zero : ∀ {l : List Int}, fst0 l = 0 ↔ ∀ z ∈ l, z = 0
  | [] => by simp [fst0]
  | x :: r => by
    rw [fst0, List.forall_mem_cons (p := fun z => z = 0), ← fst0_zero (l := r)]
    split
    · rename_i h; simp [h]
    · rename_i h; simp [h]
theorem cntE_ok {n a b : Int} : cntE n a b = 0 ↔ a ≤ n ∧ n ≤ b := by
  unfold cntE; split
  · omega
  · split <;> omega
theorem ite0 {p : Prop} [Decidable p] {e : Int} (he : e ≠ 0) : (if p then 0 else e) = 0 ↔ p := by
  split
  · rename_i h; simp [h]
  · rename_i h; simp [h, he]
end Go.Proofs.G5f

/- Chapter 7: temperatures after steps by the definition, in data. -/
namespace Go.Proofs.G5f
open Go Go.Abs Go.Proofs Go.Proofs.G7
set_option maxRecDepth 100000
/-- what a round needs of the temperatures -/
structure Rd (u : List Int) (ar c b : Int) (i : Nat) : Prop where
  e0 : IntKind.wrap .i64 (IntKind.wrap .i64 (ar - gt u i) * c) = (ar - gt u i) * c
  e1 : ∀ p, IntKind.wrap .i64 (IntKind.wrap .i64 (gt u p - gt u i) * b) = (gt u p - gt u i) * b
  s1 : ∀ p, IntKind.wrap .i64 ((ar - gt u i) * c + (gt u p - gt u i) * b) = (ar - gt u i) * c + (gt u p - gt u i) * b
  s2 : ∀ p q, IntKind.wrap .i64 ((ar - gt u i) * c + (gt u p - gt u i) * b + (gt u q - gt u i) * b) = (ar - gt u i) * c + (gt u p - gt u i) * b + (gt u q - gt u i) * b
  g : -600000000 ≤ gain ar c b u i ∧ gain ar c b u i ≤ 600000000
  wv : IntKind.wrap .i64 (gt u i + gain ar c b u i / 1000) = hv ar c b u i
  f : C5 109 [dI (gain ar c b u i), dI 1000] [dI (gain ar c b u i / 1000)]
theorem at_gt {u : List Int} {i : Nat} (h : i < u.length) : At (vi u) (0 + i * 1) 1 [vI (gt u i)] := by rw [← gt_at h]; exact vi_at u i h
end Go.Proofs.G5f
