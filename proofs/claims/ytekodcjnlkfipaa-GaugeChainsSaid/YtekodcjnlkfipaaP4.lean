/- Texts of the proof, put together: AbsFrame, AbsState, AbsJ3, GbT1, AbsSame, AbsX, AbsPairs, GbW, GbT2, G5S, G5B. -/
import Derived.Test.YtekodcjnlkfipaaP3
import Derived.Test.YtekodcjnlkfipaaProg
/- A call that is met by what it does to the blocks that it reaches: it is sound. -/
namespace Go.Abs
open Go.RowKit
variable {P : Program} {ρ : Ren} {w0 : Start} {w : World} {H : Heap}

/-- A call, by the blocks that its arguments reach. -/
def CallS (P : Program) (f : FuncId) (args : List Value) (bs : Blocks) (K : Value → Blocks → Prop) : Prop :=
  ∀ (w0 : Start) (ρ : Ren) (w : World) (args' : Array Value) (n : Nat), Gam w0 ρ (heapOf bs) w → LR ρ args args'.toList →
    CallsIn Fence.wide n P f args' w fun e w' => ∃ v bs' ρ' v', K v bs' ∧ e = .returned v' ∧ VR ρ' v v' ∧ Gam w0 ρ' (heapOf bs') w'

/-! ### Renaming, once more (numbers change anyhow; the globals stay) -/
structure MuS (μ : Mu) : Prop where
  snd : (μ.map (·.2)).Nodup
  glb : ∀ i j, (i, j) ∈ μ → i < abase → j = i
variable {μ : Mu}
theorem mapV_S (ok : MuS μ) : ∀ (n : Nat) (v v' : Value), VR ρ v v' → VR (μ.ren ρ) (mapV μ n v) v'
  | 0, v, v', _ => .unknown _ _
  | n + 1, v, v', h => by
    have ih := mapV_S ok n
    cases h with
    | bool b => exact .bool b
    | int k n => exact .int k n
    | float k n => exact .float k n
    | complex k n m => exact .complex k n m
    | string s => exact .string s
    | nilFunc => exact .nilFunc
    | nilIface => exact .nilIface
    | nilPtr => exact .nilPtr
    | nilSlice l c => exact .nilSlice l c
    | nilMap => exact .nilMap
    | unknown r v => unfold mapV; exact .unknown _ _
    | glob g k hg =>
      simp only [mapV]
      cases hm : μ.find g with
      | none => exact .unknown _ _
      | some j =>
        have hj : j = g := ok.glb _ _ (Mu.find_mem hm) hg
        subst hj
        exact .glob _ k hg
    | ptr i k m hm =>
      simp only [mapV]
      cases hf : μ.find i with
      | none => exact .unknown _ _
      | some j => exact .ptr j k m (by rw [Mu.ren_of ok.snd (Mu.find_mem hf)]; exact hm)
    | map i m hm =>
      simp only [mapV]
      cases hf : μ.find i with
      | none => exact .unknown _ _
      | some j => exact .map j m (by rw [Mu.ren_of ok.snd (Mu.find_mem hf)]; exact hm)
    | slice i k len cap m hm ho hl =>
      simp only [mapV]
      cases hf : μ.find i with
      | none => exact .unknown _ _
      | some j => exact .slice j k len cap m (by rw [Mu.ren_of ok.snd (Mu.find_mem hf)]; exact hm) ho hl
    | opened i k len cap capC m hm ho hc hs hl =>
      simp only [mapV]
      cases hf : μ.find i with
      | none => exact .unknown _ _
      | some j => exact .opened j k len cap capC m (by rw [Mu.ren_of ok.snd (Mu.find_mem hf)]; exact hm) ho hc hs hl
    | empty i k off m hm ho hz =>
      simp only [mapV]
      cases hf : μ.find i with
      | none => exact .unknown _ _
      | some j => exact .empty j k off m (by rw [Mu.ren_of ok.snd (Mu.find_mem hf)]; exact hm) ho hz
    | func f a b a' b' ha hb ra rb =>
      simp only [mapV]
      refine VR.func' ?_ ?_
      · simpa using LR.map_left ih (LR.of_arr ha ra)
      · simpa using LR.map_left ih (LR.of_arr hb rb)
    | yield l m hm => unfold mapV; exact .unknown _ _
    | iface t v v' hv => exact .iface t _ _ (ih _ _ hv)
    | agg a a' ha ra =>
      simp only [mapV]
      refine VR.agg' ?_
      simpa using LR.map_left ih (LR.of_arr ha ra)
    | tuple a a' ha ra =>
      simp only [mapV]
      refine VR.tuple' ?_
      simpa using LR.map_left ih (LR.of_arr ha ra)
theorem mapO_S (ok : MuS μ) {m : Meta} {o o2 : AObj} (h : mapO μ o = some o2) (r : ObjR ρ w m o) : ObjR (μ.ren ρ) w m o2 ∧ o2.alive = o.alive := by
  cases o with
  | cells cs ty opn es =>
    simp only [mapO, Option.some.injEq] at h
    subst h
    obtain ⟨a, b, c, d, e, f, g, i⟩ := r
    exact ⟨⟨by simpa using a, b, c, d, e, f, g, by simpa using LR.map_left (mapV_S ok 8) i⟩, rfl⟩
  | sym cs opn es =>
    simp only [mapO, Option.some.injEq] at h
    subst h
    obtain ⟨⟨a, b, c, d, e, z, f, g, i⟩, j⟩ := r
    exact ⟨⟨⟨a, b, c, d, e, z, f, g, i.plain_any (fun v hv => cellP_plain (j v hv))⟩, j⟩, rfl⟩
  | map es c =>
    simp only [mapO] at h
    split at h
    · simp only [Option.some.injEq] at h
      subst h
      obtain ⟨es', h1, h2⟩ := r
      exact ⟨⟨es', h1, ER.map_val (mapV_S ok 8) h2⟩, rfl⟩
    · cases h
  | deferred => simp only [mapO, Option.some.injEq] at h; subst h; exact ⟨r, rfl⟩
  | taken => simp only [mapO, Option.some.injEq] at h; subst h; exact ⟨r, rfl⟩
  | dead _ _ _ => cases h
  | loop _ => cases h
  | siter _ _ => cases h
theorem LR.map_S (ok : MuS μ) {l l' : List Value} (h : LR ρ l l') : LR (μ.ren ρ) (l.map (mapV μ 8)) l' := LR.map_left (mapV_S ok 8) h

/-! ### What is reached has its place -/
def Placed (ρ : Ren) (i : Nat) : Prop := i < abase ∨ ∃ m, ρ i = some m
theorem LR.placed {f : Value → List Nat} (hf : ∀ v v', VR ρ v v' → ∀ i ∈ f v, Placed ρ i) : ∀ {l l' : List Value}, LR ρ l l' → ∀ i ∈ l.flatMap f, Placed ρ i
  | _, _, .nil, i, h => by cases h
  | _, _, .cons h t, i, hi => by
    rw [List.flatMap_cons] at hi
    rcases List.mem_append.1 hi with h1 | h1
    · exact hf _ _ h i h1
    · exact LR.placed hf t i h1
theorem blocksV_placed : ∀ (n : Nat) (v v' : Value), VR ρ v v' → ∀ i ∈ blocksV n v, Placed ρ i
  | 0, _, _, _, i, h => by simp [blocksV] at h
  | n + 1, v, v', hv, i, h => by
    have ih : ∀ (v v' : Value), VR ρ v v' → ∀ i ∈ blocksV n v, Placed ρ i := blocksV_placed n
    cases hv with
    | glob g k hg => simp only [blocksV, List.mem_singleton] at h; subst h; exact .inl hg
    | ptr j k m hm => simp only [blocksV, List.mem_singleton] at h; subst h; exact .inr ⟨m, hm⟩
    | map j m hm => simp only [blocksV, List.mem_singleton] at h; subst h; exact .inr ⟨m, hm⟩
    | slice j k len cap m hm ho => simp only [blocksV, List.mem_singleton] at h; subst h; exact .inr ⟨m, hm⟩
    | opened j k len cap capC m hm ho hc hs => simp only [blocksV, List.mem_singleton] at h; subst h; exact .inr ⟨m, hm⟩
    | empty j k off m hm ho hz => simp only [blocksV, List.mem_singleton] at h; subst h; exact .inr ⟨m, hm⟩
    | func f a b a' b' ha hb ra rb =>
      simp only [blocksV] at h
      rcases List.mem_append.1 h with h | h
      · exact LR.placed ih (LR.of_arr ha ra) i h
      · exact LR.placed ih (LR.of_arr hb rb) i h
    | iface t v v' hv => exact ih _ _ hv i (by simpa [blocksV] using h)
    | agg a a' ha ra => exact LR.placed ih (LR.of_arr ha ra) i (by simpa [blocksV] using h)
    | tuple a a' ha ra => exact LR.placed ih (LR.of_arr ha ra) i (by simpa [blocksV] using h)
    | _ => simp [blocksV] at h
theorem ER.placed : ∀ {l l' : List MapEntry}, ER ρ l l' → ∀ i ∈ l.flatMap (fun e => blocksV 8 e.val), Placed ρ i
  | _, _, .nil, i, h => by cases h
  | _, _, .cons k kk v b t, i, hi => by
    rw [List.flatMap_cons] at hi
    rcases List.mem_append.1 hi with h1 | h1
    · exact blocksV_placed 8 _ _ v i h1
    · exact ER.placed t i h1
theorem blocksO_placed {m : Meta} {o : AObj} (r : ObjR ρ w m o) : ∀ i ∈ blocksO o, Placed ρ i := by
  intro i h
  cases o with
  | cells cs ty opn es =>
    obtain ⟨_, _, _, _, _, _, _, hl⟩ := r
    exact LR.placed (blocksV_placed 8) hl i (by simpa [blocksO] using h)
  | map es c =>
    obtain ⟨es', _, h2⟩ := r
    exact ER.placed h2 i (by simpa [blocksO] using h)
  | _ => simp [blocksO] at h
theorem reachC_placed (g : Gam w0 ρ H w) : ∀ (f : Nat) (work : List Nat) (μ : Mu) (ro mu : Nat), (∀ i ∈ work, Placed ρ i) → (∀ p ∈ μ, Placed ρ p.1) → ∀ p ∈ reachC H f work μ ro mu, Placed ρ p.1
  | 0, _, μ, _, _, _, h => by simpa [reachC] using h
  | f + 1, [], μ, _, _, _, h => by simpa [reachC] using h
  | f + 1, i :: work, μ, ro, mu, hw, h => by
    have hw2 : ∀ j ∈ work, Placed ρ j := fun j hj => hw j (List.mem_cons_of_mem _ hj)
    have hi := hw i (List.mem_cons_self ..)
    unfold reachC
    split
    · exact reachC_placed g f work μ ro mu hw2 h
    · split
      · exact reachC_placed g f work μ ro mu hw2 h
      · rename_i o ho
        have hpl : ∀ j ∈ work ++ blocksO o, Placed ρ j := by
          intro j hj
          rcases List.mem_append.1 hj with hj | hj
          · exact hw2 j hj
          · have hm : ∃ m, ρ i = some m := by
              rcases hi with hlt | hm
              · exact g.gmap i (.inl hlt) (by rw [ho]; simp)
              · exact hm
            obtain ⟨m, hm⟩ := hm
            exact blocksO_placed (g.obj i m o hm ho) j hj
        have hadd : ∀ q, ∀ p ∈ μ ++ [(i, q)], Placed ρ p.1 := by
          intro q p hp
          rcases List.mem_append.1 hp with hp | hp
          · exact h p hp
          · rw [List.mem_singleton.1 hp]; exact hi
        split
        · exact reachC_placed g f _ _ _ _ hpl (hadd _)
        · exact reachC_placed g f _ _ _ _ hpl (hadd _)

/-! ### The call's own view -/
structure CallOK (μ : Mu) (H : Heap) : Prop where
  fst : (μ.map (·.1)).Nodup
  snd : (μ.map (·.2)).Nodup
  lo : ∀ i j, (i, j) ∈ μ → abase ≤ i ∧ abase ≤ j ∧ j < gbase
  mb : ∀ i j, (i, j) ∈ μ → (mbase ≤ i ↔ mbase ≤ j)
  live : ∀ i j, (i, j) ∈ μ → ∃ o o2, H.get i = some o ∧ mapO μ o = some o2 ∧ o.alive = true
theorem mapO_alive {o o2 : AObj} (h : mapO μ o = some o2) (ht : o2 ≠ .taken) : o.alive = true := by
  cases o with
  | taken => simp only [mapO, Option.some.injEq] at h; exact absurd h.symm ht
  | dead _ _ _ => cases h
  | _ => rfl
theorem callGood_ok (h : callGood μ H = true) : CallOK μ H := by
  simp only [callGood, Bool.and_eq_true] at h
  have hall := fun p hp => List.all_eq_true.1 h.2 p hp
  have each : ∀ i j, (i, j) ∈ μ → abase ≤ i ∧ (abase ≤ j ∧ j < gbase) ∧ (mbase ≤ i ↔ mbase ≤ j) ∧ ∃ o o2, H.get i = some o ∧ mapO μ o = some o2 ∧ o.alive = true := by
    intro i j hij
    have := hall _ hij
    simp only [Bool.and_eq_true, decide_eq_true_eq] at this
    obtain ⟨⟨h1, h2⟩, h3⟩ := this
    have h4 : (abase ≤ j ∧ j < gbase) ∧ (mbase ≤ i ↔ mbase ≤ j) := by
      split at h2
      · rename_i hlt
        simp only [Bool.and_eq_true, decide_eq_true_eq] at h2
        refine ⟨⟨h2.1, ?_⟩, by omega⟩
        have : mbase ≤ gbase := by decide
        omega
      · rename_i hge
        simp only [Bool.and_eq_true, decide_eq_true_eq] at h2
        refine ⟨⟨?_, h2.2⟩, by omega⟩
        have : abase ≤ mbase := by decide
        omega
    refine ⟨h1, h4.1, h4.2, ?_⟩
    cases hg : H.get i with
    | none => simp [hg] at h3
    | some o =>
      simp only [hg] at h3
      cases hm : mapO μ o with
      | none => simp [hm] at h3
      | some o2 =>
        refine ⟨o, o2, rfl, hm, mapO_alive hm (fun e => ?_)⟩
        subst e
        simp [hm] at h3
  exact ⟨nodupB_spec h.1.1, nodupB_spec h.1.2, fun i j hij => ⟨(each i j hij).1, (each i j hij).2.1⟩, fun i j hij => (each i j hij).2.2.1, fun i j hij => (each i j hij).2.2.2⟩
theorem CallOK.toS (ok : CallOK μ H) : MuS μ := ⟨ok.snd, fun i j hij hlt => by have := (ok.lo i j hij).1; omega⟩

theorem callGam (g : Gam w0 ρ H w) (ok : CallOK μ H) (hp : ∀ p ∈ μ, Placed ρ p.1) : Gam ⟨w, μ.ren ρ⟩ (μ.ren ρ) (heapOf (gcB H μ μ)) w := by
  have hsnd : ∀ {i i' j : Nat}, (i, j) ∈ μ → (i', j) ∈ μ → i = i' := fun h1 h2 => by have := nodup_inj ok.snd h1 h2 rfl; cases this; rfl
  have hfst : ∀ {i j j' : Nat}, (i, j) ∈ μ → (i, j') ∈ μ → j = j' := fun h1 h2 => by have := nodup_inj ok.fst h1 h2 rfl; cases this; rfl
  have hget : ∀ {j : Nat} {o : AObj}, (heapOf (gcB H μ μ)).get j = some o → ∃ i o', (i, j) ∈ μ ∧ H.get i = some o' ∧ mapO μ o' = some o := fun h => gcB_mem (heapOf_get h)
  have obj : ∀ i m o, μ.ren ρ i = some m → (heapOf (gcB H μ μ)).get i = some o → ObjR (μ.ren ρ) w m o ∧ ∃ i0 o0, (i0, i) ∈ μ ∧ ρ i0 = some m ∧ H.get i0 = some o0 ∧ o.alive = o0.alive := by
    intro i m o hm ho
    obtain ⟨i0, hi0, hr0⟩ := Mu.ren_some hm
    obtain ⟨i1, o1, hi1, hg1, hmo⟩ := hget ho
    obtain rfl := hsnd hi0 hi1
    obtain ⟨r1, r2⟩ := mapO_S ok.toS hmo (g.obj _ m _ hr0 hg1)
    exact ⟨r1, i0, o1, hi0, hr0, hg1, r2⟩
  refine ⟨Nat.le_add_right _ _, ?_, .refl _ _, ?_, ?_, ?_, fun i m o hm ho => (obj i m o hm ho).1, ?_, fun i m _ _ h => h⟩
  · intro i hi
    cases hr : μ.ren ρ i with
    | none => rfl
    | some m =>
      obtain ⟨i0, hi0, _⟩ := Mu.ren_some hr
      have := (ok.lo _ _ hi0).2.2
      have h5 : gbase ≤ i := Nat.le_trans (Nat.le_add_right _ _) hi
      omega
  · intro j m hm
    obtain ⟨i, hi, hr⟩ := Mu.ren_some hm
    have h1 := (g.own i m hr).1
    have := (ok.lo _ _ hi).2.2
    exact ⟨h1, fun h => by omega, fun _ => h1⟩
  · intro j m hm hj
    obtain ⟨i, hi, hr⟩ := Mu.ren_some hm
    have := (ok.lo _ _ hi).2.1
    omega
  · rintro i j mi mj hgi ⟨oi, gi, ai⟩ ⟨oj, gj, aj⟩ ei ej hb
    obtain ⟨_, i0, oi0, hi0, ri0, gi0, hai⟩ := obj i mi oi ei gi
    obtain ⟨_, j0, oj0, hj0, rj0, gj0, haj⟩ := obj j mj oj ej gj
    have := g.inj i0 j0 mi mj ((ok.mb _ _ hi0).2 hgi) ⟨oi0, gi0, by rw [← hai]; exact ai⟩ ⟨oj0, gj0, by rw [← haj]; exact aj⟩ ri0 rj0 hb
    subst this
    exact hfst hi0 hj0
  · intro j hj hn
    cases ho : (heapOf (gcB H μ μ)).get j with
    | none => exact absurd ho hn
    | some o =>
      obtain ⟨i, o', hi, hg, _⟩ := hget ho
      rcases hp _ hi with h | ⟨m, hm⟩
      · have := (ok.lo _ _ hi).1; simp only at h; omega
      · exact ⟨m, by rw [Mu.ren_of ok.snd hi]; exact hm⟩

/-! ### Back at the caller -/
theorem numFrom_mem : ∀ {l : List Nat} {n j q : Nat}, (j, q) ∈ numFrom l n → j ∈ l ∧ n ≤ q ∧ q < n + l.length
  | [], _, _, _, h => by cases h
  | i :: r, n, j, q, h => by
    unfold numFrom at h
    rcases List.mem_cons.1 h with h | h
    · cases h; exact ⟨List.mem_cons_self .., Nat.le_refl _, by simp⟩
    · obtain ⟨h1, h2, h3⟩ := numFrom_mem h
      exact ⟨List.mem_cons_of_mem _ h1, by omega, by simp only [List.length_cons]; omega⟩
theorem numFrom_snd : ∀ (l : List Nat) (n : Nat), ((numFrom l n).map (·.2)).Nodup
  | [], _ => List.nodup_nil
  | i :: r, n => by
    unfold numFrom
    simp only [List.map_cons, List.nodup_cons]
    refine ⟨fun h => ?_, numFrom_snd r (n + 1)⟩
    obtain ⟨p, hp, e⟩ := List.mem_map.1 h
    obtain ⟨j, q⟩ := p
    have := (numFrom_mem hp).2.1
    simp only at e
    omega
theorem numFrom_fst : ∀ (l : List Nat) (n : Nat), (numFrom l n).map (·.1) = l
  | [], _ => rfl
  | i :: r, n => by unfold numFrom; simp only [List.map_cons, numFrom_fst r]
theorem numFrom_at : ∀ {l : List Nat} {n q : Nat}, n ≤ q → q < n + l.length → ∃ j, (j, q) ∈ numFrom l n
  | [], n, q, h1, h2 => by simp at h2; omega
  | i :: r, n, q, h1, h2 => by
    unfold numFrom
    by_cases e : q = n
    · exact ⟨i, by rw [e]; exact List.mem_cons_self ..⟩
    · obtain ⟨j, hj⟩ := numFrom_at (l := r) (n := n + 1) (q := q) (by omega) (by simp only [List.length_cons] at h2; omega)
      exact ⟨j, List.mem_cons_of_mem _ hj⟩
variable {β : Mu} {bs : Blocks}
theorem mergeP_next : ∀ (l : Mu) (H : Heap), (mergeP β bs l H).next = H.next
  | [], _ => rfl
  | p :: r, H => by
    unfold mergeP
    rw [mergeP_next r]
    split <;> rfl
theorem mergeP_out {i : Nat} : ∀ (l : Mu) (H : Heap), (∀ j, (i, j) ∈ l → ¬ mbase ≤ j) → (mergeP β bs l H).get i = H.get i
  | [], _, _ => rfl
  | p :: r, H, h => by
    unfold mergeP
    rw [mergeP_out r _ (fun j hj => h j (List.mem_cons_of_mem _ hj))]
    split
    · rename_i hm
      rw [Heap.get_set, if_neg (fun e => h p.2 (by rw [e]; exact List.mem_cons_self ..) hm)]
    · rfl
theorem mergeP_in {i j : Nat} : ∀ (l : Mu) (H : Heap), (l.map (·.1)).Nodup → (i, j) ∈ l → mbase ≤ j → (mergeP β bs l H).get i = some (objAt β bs j)
  | [], _, _, h, _ => by cases h
  | p :: r, H, hn, h, hj => by
    simp only [List.map_cons, List.nodup_cons] at hn
    unfold mergeP
    rcases List.mem_cons.1 h with h | h
    · subst h
      rw [mergeP_out r _ (fun q hq => absurd (List.mem_map.2 ⟨_, hq, rfl⟩) hn.1), if_pos hj, Heap.get_set, if_pos rfl]
    · exact mergeP_in r _ hn.2 h hj
theorem mergeN_next : ∀ (l : List Nat) (H : Heap), (mergeN β bs l H).next = H.next + l.length
  | [], _ => rfl
  | j :: r, H => by unfold mergeN; rw [mergeN_next r]; simp only [Heap.next_new, List.length_cons]; omega
theorem mergeN_old {i : Nat} : ∀ (l : List Nat) (H : Heap), i < H.next → (mergeN β bs l H).get i = H.get i
  | [], _, _ => rfl
  | j :: r, H, h => by
    unfold mergeN
    rw [mergeN_old r _ (by simp only [Heap.next_new]; omega), Heap.get_new, if_neg (by omega)]
theorem mergeN_new {i j : Nat} : ∀ (l : List Nat) (H : Heap), (j, i) ∈ numFrom l H.next → (mergeN β bs l H).get i = some (objAt β bs j)
  | [], _, h => by cases h
  | q :: r, H, h => by
    unfold numFrom at h
    unfold mergeN
    rcases List.mem_cons.1 h with h | h
    · cases h
      rw [mergeN_old r _ (by simp only [Heap.next_new]; omega), Heap.get_new, if_pos rfl]
    · exact mergeN_new r (H.new (objAt β bs q)) (by simpa only [Heap.next_new] using h)

theorem mergeGam {ρ' : Ren} {w' : World} (g : Gam w0 ρ H w) (ok : CallOK μ H) (hp : ∀ p ∈ μ, Placed ρ p.1) (g' : Gam ⟨w, μ.ren ρ⟩ ρ' (heapOf bs) w') (hnd : ((newsOf bs).map (·.1)).Nodup) :
    ∃ ρm, Gam w0 ρm (merged μ bs H) w' ∧ Ext ρ ρm H (merged μ bs H) ∧ ∀ v v', VR ρ' v v' → VR ρm (mapV (backMu μ H.next bs) 8 v) v' := by
  let news := (newsOf bs).map (·.1)
  let β := backMu μ H.next bs
  have place : ∀ {i j : Nat}, (i, j) ∈ μ → ∃ m, ρ i = some m := by
    intro i j hij
    rcases hp _ hij with h | h
    · have := (ok.lo _ _ hij).1; simp only at h; omega
    · exact h
  have ilt : ∀ {i j : Nat}, (i, j) ∈ μ → i < H.next := fun hij => let ⟨m, hm⟩ := place hij; g.lt hm
  have newge : ∀ j ∈ news, gbase ≤ j := by
    intro j hj
    obtain ⟨p, hp, rfl⟩ := List.mem_map.1 hj
    simpa using (List.mem_filter.1 hp).2
  have βmem : ∀ {j i : Nat}, (j, i) ∈ β → ((i, j) ∈ μ) ∨ (j, i) ∈ numFrom news H.next := by
    intro j i h
    rcases List.mem_append.1 h with h | h
    · obtain ⟨p, hp, e⟩ := List.mem_map.1 h
      cases e; exact .inl hp
    · exact .inr h
  have βS : MuS β := by
    refine ⟨?_, fun j i h hj => ?_⟩
    · show ((μ.map (fun p => (p.2, p.1)) ++ numFrom news H.next).map (·.2)).Nodup
      rw [List.map_append, List.map_map]
      refine List.nodup_append.2 ⟨ok.fst, numFrom_snd _ _, ?_⟩
      intro a ha b hb e
      subst e
      obtain ⟨p, hp1, rfl⟩ := List.mem_map.1 ha
      obtain ⟨q, hq, e⟩ := List.mem_map.1 hb
      obtain ⟨j, i⟩ := q
      have h1 := (numFrom_mem hq).2.1
      have h2 : p.1 < H.next := ilt (j := p.2) hp1
      simp only [Function.comp] at e
      omega
    · rcases βmem h with h | h
      · have := (ok.lo _ _ h).2.1; omega
      · have := newge j (numFrom_mem h).1
        unfold gbase at this; unfold abase at hj; omega
  let ρm : Ren := fun i => if i < H.next then ρ i else β.ren ρ' i
  have ρlt : ∀ {i : Nat}, i < H.next → ρm i = ρ i := fun h => if_pos h
  have ρge : ∀ {i : Nat}, ¬ i < H.next → ρm i = β.ren ρ' i := fun h => if_neg h
  -- what was handed lies where it lay
  have pinned : ∀ {i j : Nat} {m : Meta}, (i, j) ∈ μ → ρ' j = some m → ρ i = some m := by
    intro i j m hij hj
    have h1 := ok.lo _ _ hij
    have := g'.pins j m h1.2.1 h1.2.2 hj
    simp only at this
    rwa [Mu.ren_of ok.snd hij] at this
  have hle : (β.ren ρ').le ρm := by
    intro i m hm
    obtain ⟨j, hj, hr⟩ := Mu.ren_some hm
    rcases βmem hj with h | h
    · rw [ρlt (ilt h)]; exact pinned h hr
    · rw [ρge (by have := (numFrom_mem h).2.1; omega)]; exact hm
  have objR : ∀ {j : Nat} {m : Meta}, ρ' j = some m → ObjR ρm w' m (objAt β bs j) := by
    intro j m hj
    unfold objAt
    cases hg : (heapOf bs).get j with
    | none => trivial
    | some o =>
      simp only [Option.bind_some]
      cases hm : mapO β o with
      | none => trivial
      | some o2 => exact (mapO_S βS hm (g'.obj j m o hj hg)).1.mono hle (fun _ => rfl)
  have objA : ∀ {j : Nat}, (objAt β bs j).alive = true → (heapOf bs).live j := by
    intro j h
    unfold objAt at h
    cases hg : (heapOf bs).get j with
    | none => rw [hg] at h; cases h
    | some o =>
      rw [hg] at h
      simp only [Option.bind_some] at h
      cases hm : mapO β o with
      | none => rw [hm] at h; cases h
      | some o2 =>
        rw [hm] at h
        refine ⟨o, hg, ?_⟩
        by_cases hj : ∃ m, ρ' j = some m
        · obtain ⟨m, hj⟩ := hj
          rw [← (mapO_S βS hm (g'.obj j m o hj hg)).2]; exact h
        · refine mapO_alive hm (fun e => ?_)
          subst e; cases h
  have hnx : (merged μ bs H).next = H.next + news.length := by
    show (mergeN β bs news (mergeP β bs μ H)).next = _
    rw [mergeN_next, mergeP_next]
  have getOut : ∀ {i : Nat}, i < H.next → (∀ j, (i, j) ∈ μ → ¬ mbase ≤ j) → (merged μ bs H).get i = H.get i := by
    intro i hi h
    show (mergeN β bs news (mergeP β bs μ H)).get i = _
    rw [mergeN_old _ _ (by rw [mergeP_next]; exact hi), mergeP_out _ _ h]
  have getIn : ∀ {i j : Nat}, (i, j) ∈ μ → mbase ≤ j → (merged μ bs H).get i = some (objAt β bs j) := by
    intro i j hij hj
    show (mergeN β bs news (mergeP β bs μ H)).get i = _
    rw [mergeN_old _ _ (by rw [mergeP_next]; exact ilt hij), mergeP_in _ _ ok.fst hij hj]
  have getNew : ∀ {i j : Nat}, (j, i) ∈ numFrom news H.next → (merged μ bs H).get i = some (objAt β bs j) := by
    intro i j h
    exact mergeN_new _ _ (by rw [mergeP_next]; exact h)
  have newOf : ∀ {i : Nat} {m : Meta}, ¬ i < H.next → ρm i = some m → ∃ j, (j, i) ∈ numFrom news H.next ∧ ρ' j = some m ∧ gbase ≤ j := by
    intro i m hi hm
    rw [ρge hi] at hm
    obtain ⟨j, hj, hr⟩ := Mu.ren_some hm
    rcases βmem hj with h | h
    · exact absurd (ilt h) hi
    · exact ⟨j, h, hr, newge j (numFrom_mem h).1⟩
  -- what may have been written
  have mayOf : ∀ {k : Nat}, (Start.mk w (μ.ren ρ)).may k → ∃ i j m, (i, j) ∈ μ ∧ mbase ≤ i ∧ mbase ≤ j ∧ ρ i = some m ∧ m.b = k ∧ H.live i := by
    rintro k ⟨j, m, h1, h2, h3, h4⟩
    obtain ⟨i, hij, hr⟩ := Mu.ren_some h3
    obtain ⟨o, _, ho, _, ha⟩ := ok.live _ _ hij
    exact ⟨i, j, m, hij, (ok.mb _ _ hij).2 h1, h1, hr, h4, o, ho, ha⟩
  have liveOld : ∀ {i : Nat}, i < H.next → (merged μ bs H).live i → H.live i ∧ ∀ j, (i, j) ∈ μ → mbase ≤ j → (heapOf bs).live j := by
    rintro i hi ⟨o, ho, ha⟩
    by_cases h : ∃ j, (i, j) ∈ μ ∧ mbase ≤ j
    · obtain ⟨j, hij, hj⟩ := h
      obtain ⟨o1, _, h1, _, h2⟩ := ok.live _ _ hij
      refine ⟨⟨o1, h1, h2⟩, fun j' hij' hj' => ?_⟩
      rw [getIn hij' hj'] at ho
      cases ho
      exact objA ha
    · rw [getOut hi (fun j hij hj => h ⟨j, hij, hj⟩)] at ho
      exact ⟨⟨o, ho, ha⟩, fun j hij hj => absurd ⟨j, hij, hj⟩ h⟩
  have hsz : w.heap.size ≤ w'.heap.size := g'.below.size
  refine ⟨ρm, ⟨by rw [hnx]; exact Nat.le_trans g.gb (Nat.le_add_right _ _), ?_, ?_, ?_, ?_, ?_, ?_, ?_, ?_⟩, ⟨?_, by rw [hnx]; exact Nat.le_add_right _ _, ?_⟩, fun v v' hv => (mapV_S βS 8 v v' hv).mono hle⟩
  · -- fresh
    intro i hi
    rw [hnx] at hi
    cases hr : ρm i with
    | none => rfl
    | some m =>
      obtain ⟨j, hj, _⟩ := newOf (by omega) hr
      have := (numFrom_mem hj).2.2
      omega
  · -- below
    refine ⟨g'.below.os.trans g.below.os, g'.below.tape.trans g.below.tape, g'.below.output.trans g.below.output, Nat.le_trans g.below.size hsz, fun k hk hm => ?_⟩
    refine (g'.below.block k (Nat.lt_of_lt_of_le hk g.below.size) (fun hmay => ?_)).trans (g.below.block k hk hm)
    obtain ⟨i, j, m, hij, hi, hj, hr, rfl, _⟩ := mayOf hmay
    rcases Nat.lt_or_ge i gbase with hl | hl
    · exact hm ⟨i, m, hi, hl, g.pins i m (ok.lo _ _ hij).1 hl hr, rfl⟩
    · have := (g.own i m hr).2.1 hl
      omega
  · -- own
    intro i m hm
    by_cases hi : i < H.next
    · rw [ρlt hi] at hm
      have := g.own i m hm
      exact ⟨by omega, this.2⟩
    · obtain ⟨j, hj, hr, hge⟩ := newOf hi hm
      have := g'.own j m hr
      have h1 := this.2.1 hge
      simp only at h1
      have h2 := g.below.size
      have h3 := g.gb
      exact ⟨this.1, fun _ => by omega, fun h => by omega⟩
  · -- glob
    intro i m hm hi
    rw [ρlt (by have := g.gb; unfold gbase at this; unfold abase at hi; omega)] at hm
    exact g.glob i m hm hi
  · -- inj
    intro i j mi mj hgi hi hj ei ej hb
    by_cases h1 : i < H.next
    · rw [ρlt h1] at ei
      by_cases h2 : j < H.next
      · rw [ρlt h2] at ej
        exact g.inj i j mi mj hgi (liveOld h1 hi).1 (liveOld h2 hj).1 ei ej hb
      · obtain ⟨q, hq, hr, hge⟩ := newOf h2 ej
        have a1 := (g.own i mi ei).1
        have a2 := (g'.own q mj hr).2.1 hge
        simp only at a2
        omega
    · obtain ⟨p, hp1, hr1, hge1⟩ := newOf h1 ei
      by_cases h2 : j < H.next
      · rw [ρlt h2] at ej
        have a1 := (g.own j mj ej).1
        have a2 := (g'.own p mi hr1).2.1 hge1
        simp only at a2
        omega
      · obtain ⟨q, hq, hr2, hge2⟩ := newOf h2 ej
        obtain ⟨oi, hoi, hai⟩ := hi
        obtain ⟨oj, hoj, haj⟩ := hj
        rw [getNew hp1] at hoi
        rw [getNew hq] at hoj
        cases hoi
        cases hoj
        have := g'.inj p q mi mj (mb_of hge1) (objA hai) (objA haj) hr1 hr2 hb
        subst this
        have hnf : ((numFrom news H.next).map (·.1)).Nodup := by rw [numFrom_fst]; exact hnd
        have := nodup_inj hnf hp1 hq rfl
        cases this
        rfl
  · -- objects
    intro i m o hm ho
    by_cases hi : i < H.next
    · rw [ρlt hi] at hm
      by_cases h : ∃ j, (i, j) ∈ μ ∧ mbase ≤ j
      · obtain ⟨j, hij, hj⟩ := h
        rw [getIn hij hj] at ho
        cases ho
        cases hg : (heapOf bs).get j with
        | none => unfold objAt; rw [hg]; trivial
        | some ob =>
          obtain ⟨m', hm'⟩ := g'.gmap j (.inr ⟨hj, (ok.lo _ _ hij).2.2⟩) (by rw [hg]; simp)
          have := pinned hij hm'
          rw [hm] at this
          cases this
          exact objR hm'
      · have hout : ∀ j, (i, j) ∈ μ → ¬ mbase ≤ j := fun j hij hj => h ⟨j, hij, hj⟩
        rw [getOut hi hout] at ho
        refine (g.obj i m o hm ho).mono (fun q n hq => by rw [ρlt (g.lt hq)]; exact hq) (fun hal => ?_)
        refine g'.below.block m.b (g.own i m hm).1 (fun hmay => ?_)
        obtain ⟨i2, j2, m2, hij2, hi2, hj2, hr2, hb2, hl2⟩ := mayOf hmay
        have := g.inj i2 i m2 m hi2 hl2 ⟨o, ho, hal⟩ hr2 hm hb2
        subst this
        exact hout _ hij2 hj2
    · obtain ⟨j, hj, hr, _⟩ := newOf hi hm
      rw [getNew hj] at ho
      cases ho
      exact objR hr
  · -- gmap
    intro i hi hn
    have hlt : i < H.next := by
      have := g.gb
      rcases hi with h | h
      · unfold gbase at this; unfold abase at h; omega
      · omega
    rw [ρlt hlt]
    by_cases h : ∃ j, (i, j) ∈ μ ∧ mbase ≤ j
    · obtain ⟨j, hij, _⟩ := h
      exact place hij
    · rw [getOut hlt (fun j hij hj => h ⟨j, hij, hj⟩)] at hn
      exact g.gmap i hi hn
  · -- pins
    intro i m ha hi hm
    rw [ρlt (by have := g.gb; omega)] at hm
    exact g.pins i m ha hi hm
  · -- le
    intro i m hm
    rw [ρlt (g.lt hm)]; exact hm
  · -- keep
    intro i hi hn
    refine ⟨by rw [ρlt hi]; exact hn, getOut hi (fun j hij _ => ?_)⟩
    obtain ⟨m, hm⟩ := place hij
    rw [hn] at hm; cases hm

theorem wpState_call {sp : SpecS} {f : FuncId} (hs : ∀ args bs K, sp args bs K → CallS P f args bs K) {args : Array Value} {k : Value → Heap → Prop} (hk : wpState sp args H k) : CallH P f args H k := by
  intro w0 ρ w args' n g ha
  unfold wpState at hk
  obtain ⟨hgood, hk⟩ := bcase_out hk
  have ok := callGood_ok hgood
  have hp : ∀ p ∈ callMu args.toList H, Placed ρ p.1 := reachC_placed g _ _ _ _ _ (LR.placed (blocksV_placed 8) ha) (fun p hp => by cases hp)
  have gC := callGam g ok hp
  refine (hs _ _ _ hk ⟨w, (callMu args.toList H).ren ρ⟩ _ w args' n gC (LR.map_S ok.toS ha)).mono ?_
  rintro e w' ⟨v, bs, ρ', v', hK, rfl, hv, g'⟩
  obtain ⟨hnd, hK⟩ := bcase_out hK
  obtain ⟨ρm, gm, ext, hvr⟩ := mergeGam g ok hp g' (nodupB_spec hnd)
  exact ⟨_, _, ρm, v', hK, rfl, hvr _ _ hv, gm, ext⟩
theorem handlerQ_ok {sp : FuncId → Option SpecS} {base : Handler} (hs : ∀ f s, sp f = some s → ∀ args bs K, s args bs K → CallS P f args bs K) (hb : HandlerOK P base) : HandlerOK P (handlerQ sp base) := by
  intro g args ats H k hk
  unfold handlerQ at hk
  split at hk
  · rename_i s he
    exact wpState_call (hs g s he) hk
  · exact hb g args ats H k hk
end Go.Abs

/- State contracts: a function whose body has been walked. -/
namespace Go.Abs
open Go.RowKit
variable {P : Program} {ρ : Ren} {w0 : Start} {w : World} {H : Heap} {h : Handler} {L : AtLoop}

theorem stateK_out (g : Gam w0 ρ H w) {v v' : Value} (hv : VR ρ v v') {K : Value → Blocks → Prop} (hk : stateK K v H) : ∃ v2 bs ρ2, K v2 bs ∧ VR ρ2 v2 v' ∧ Gam w0 ρ2 (heapOf bs) w := by
  unfold stateK at hk
  obtain ⟨hgood, hk⟩ := bcase_out hk
  let A : AAct := ⟨.leaf, 0, []⟩
  let a : Act := ⟨#[], []⟩
  have ra : ActR ρ A a := ⟨rfl, fun t => by
    have e1 : A.slot t = undef := rfl
    have e2 : a.tmps.getD t undef = undef := rfl
    rw [e1, e2]; exact VR.undef _, ⟨rfl, fun j D e => by simp [A] at e⟩⟩
  obtain ⟨g2, _⟩ := gc_sub g ra rfl (keep := []) hgood
  exact ⟨_, _, _, hk, mapV_VR (gcGood_ok hgood) 8 _ _ hv, g2⟩

/-- A loop of a function, whatever its end is. -/
structure LoopGoodF (P : Program) (h : Handler) (L : AtLoop) (f : FuncId) (c : Code) (lv : Lv) (id : Nat) (F : Value → Heap → Prop) (X : Type) (st : X → Slots × Blocks) (inv : X → Prop) (m : X → Nat) : Prop where
  head : ∀ s b, L id s b → ∃ x, inv x ∧ st x = (s, b)
  flat : ((findLoop c lv id).map fun r => loopIds r.1) = some []
  round : ∀ x, inv x → wpRound P h L f id (st x).1 (st x).2 (fun s b => ∃ y, inv y ∧ m y < m x ∧ st y = (s, b))
    (fun i s b => if i = id then wpNext P h L f id .normal s b F else wpNext P h L f id (.exit i) s b F) F

theorem loopsOK_good (hh : HandlerOK P h) (hmix : P.follows .mixedOrders = true) {f : FuncId} {fn : Func} {c : Code} (hf : P.funcs[f]? = some fn) (hc : fn.body = some c) {F : Value → Heap → Prop} {ids : List Nat} (hids : loopIds c = ids) (hn : nodupB ids = true)
    (hl : ∀ id ∈ ids, ∃ X st inv m, LoopGoodF P h L f c (fnLv fn) id F X st inv m) : loopsOK P h L (fnSize fn) c (fnLv fn) (fnK P fn F) := by
  subst hids
  refine loopsOK_of c hn ?_
  intro id body l' hfl s bl hs
  obtain ⟨X, st, inv, m, hg⟩ := hl id (findLoop_ids c _ id hfl)
  obtain ⟨x, hx, he⟩ := hg.head s bl hs
  have e1 : (st x).1 = s := congrArg Prod.fst he
  have e2 : (st x).2 = bl := congrArg Prod.snd he
  have hin : loopIds body = [] := by have := hg.flat; rw [hfl] at this; simpa using this
  have := loop_rule (P := P) (h := h) (L := L) (sz := fnSize fn) hh hmix st inv m (id := id) (body := body) (l' := l') (k := fun e A H => wpAfter P h L c (fnLv fn) id e A H (fnK P fn F)) (R := fnK P fn F) hin
    (fun x hx => by
      have := hg.round x hx
      unfold wpRound at this
      simp only [hf, hc, hfl] at this
      have e : ∀ i s b, (if i = id then wpNext P h L f id .normal s b F else wpNext P h L f id (.exit i) s b F) = (if i = id then wpAfter P h L c (fnLv fn) id .normal (actOf (fnSize fn) s) (heapOf b) (fnK P fn F) else wpAfter P h L c (fnLv fn) id (.exit i) (actOf (fnSize fn) s) (heapOf b) (fnK P fn F)) := by
        intro i s b
        simp only [wpNext, hf, hc]
      simpa only [e] using this)
    (fun e A H he hR => by subst he; exact wpAfter_ret c (by rw [hfl]; rfl) hR)
    (fun e A H h1 h2 hR => by cases e <;> first | exact h1 rfl | exact h2 rfl | exact hR)
    x hx
  rw [e1, e2] at this
  exact this

/-- A FUNCTION IS PROVED, by what it does to the blocks that it reaches. -/
theorem callS_ofG (hh : HandlerOK P h) (hmix : P.follows .mixedOrders = true) {f : FuncId} {fn : Func} {c : Code} (hf : P.funcs[f]? = some fn) (hc : fn.body = some c) {args : List Value} {bs : Blocks} {K : Value → Blocks → Prop} (hsz2 : max args.toArray.size fn.ntmps = fnSize fn) {ids : List Nat} (hids : loopIds c = ids) (hn : nodupB ids = true)
    (hk : wpFn P h L 0 f args.toArray (heapOf bs) (stateK K))
    (hl : ∀ id ∈ ids, ∃ X st inv m, LoopGoodF P h L f c (fnLv fn) id (stateK K) X st inv m) : CallS P f args bs K := by
  intro w0 ρ w args' n g ha
  refine (wpFn_run (u := 0) (b := false) hh hmix (fun _ => rfl) hf hc hk (fun _ => by rw [hsz2]; exact loopsOK_good hh hmix hf hc hids hn hl) g n (by simpa using ha)).mono ?_
  rintro e w' ⟨v, H', ρ', v', hkv, rfl, hv, g', _⟩
  obtain ⟨v2, bs', ρ2, h1, h2, h3⟩ := stateK_out g' hv hkv
  exact ⟨v2, bs', ρ2, v', h1, rfl, h2, h3⟩
theorem callS_of (hh : HandlerOK P h) (hmix : P.follows .mixedOrders = true) {f : FuncId} {fn : Func} {c : Code} (hf : P.funcs[f]? = some fn) (hc : fn.body = some c) {args : List Value} {bs : Blocks} {K : Value → Blocks → Prop} (hsz : args.length = fn.params.size) {ids : List Nat} (hids : loopIds c = ids) (hn : nodupB ids = true)
    (hk : wpFn P h L 0 f args.toArray (heapOf bs) (stateK K))
    (hl : ∀ id ∈ ids, ∃ X st inv m, LoopGoodF P h L f c (fnLv fn) id (stateK K) X st inv m) : CallS P f args bs K :=
  callS_ofG hh hmix hf hc (by simp [fnSize, hsz]) hids hn hk hl
theorem callS_flat (hh : HandlerOK P h) (hmix : P.follows .mixedOrders = true) {f : FuncId} {fn : Func} {c : Code} (hf : P.funcs[f]? = some fn) (hc : fn.body = some c) {args : List Value} {bs : Blocks} {K : Value → Blocks → Prop} (hsz : args.length = fn.params.size) (hn : loopIds c = [])
    (hk : wpFn P h (fun _ _ _ => False) 0 f args.toArray (heapOf bs) (stateK K)) : CallS P f args bs K :=
  callS_of hh hmix hf hc hsz hn rfl hk (fun id hid => by cases hid)
end Go.Abs

/- Functions with cuts, and loops within loops: by what is left to show of each part. -/
namespace Go.Abs
open Go.RowKit
variable {P : Program} {ρ : Ren} {w0 : Start} {w : World} {H : Heap} {h : Handler} {L : AtLoop} {J : List Nat}

theorem jFn_run (hh : HandlerOK P h) (hmix : P.follows .mixedOrders = true) {f : FuncId} {fn : Func} {c : Code} (hf : P.funcs[f]? = some fn) (hc : fn.body = some c) {args : Array Value} {k : Value → Heap → Prop}
    (hk : jFn P h L J f args H k) (hl : ptsOK P h L J (max args.size fn.ntmps) c (fnLv fn) (fnK P fn k))
    (g : Gam w0 ρ H w) {args' : Array Value} (n : Nat) (ha : LR ρ args.toList args'.toList) :
    CallsIn Fence.wide n P f args' w fun e w' => ∃ v H' ρ' v', k v H' ∧ e = .returned v' ∧ VR ρ' v v' ∧ Gam w0 ρ' H' w' := by
  unfold jFn at hk
  simp only [hf, hc] at hk
  refine callsIn_of_wp_marks hf hc trivial ?_
  refine wpIn_mono (wpJ_sound hh hmix c hk hl w0 ρ w _ n g (initial_act ha fn.ntmps) rfl) ?_
  rintro e a1 w1 ⟨A1, H1, ρ1, k1, s1, ra1, g1, _⟩
  have fin : ∀ {v : Value}, A1.defers = [] → resultsA P H1 fn A1 = some v → k v H1 → LeavesInM Fence.wide n P fn a1.tmps (fun e w' => ∃ v H' ρ' v', k v H' ∧ e = .returned v' ∧ VR ρ' v v' ∧ Gam w0 ρ' H' w') a1.defers .returning w1 := by
    intro v hd hr hkv
    have hdd := ra1.defers
    rw [hd] at hdd
    refine leaves_R (P := P) (ρ := ρ1) (w0 := w0) [] a1.defers rfl g1 hdd (fun w2 g2 ext2 => ?_)
    obtain ⟨v', hv, hrun⟩ := resultsA_sound g2 ra1 hr
    exact ⟨v', hrun, v, H1, ρ1, v', hkv, rfl, hv, g2⟩
  cases e with
  | normal =>
    simp only [fnK] at k1
    split at k1
    · rename_i hd
      split at k1
      · rename_i v hr; exact fin hd hr k1
      · cases k1
    · cases k1
  | ret =>
    simp only [fnK] at k1
    split at k1
    · rename_i hd
      split at k1
      · rename_i v hr; exact fin hd hr k1
      · cases k1
    · cases k1
  | _ => exact k1.elim

abbrev Kx := Slots → Blocks → Prop
abbrev Xk := Nat → Slots → Blocks → Prop
/-- A loop within a round of a loop: its points are cuts. -/
structure LoopJ2 (P : Program) (h : Handler) (J : List Nat) (f : FuncId) (c : Code) (lv : Lv) (id id2 : Nat) (L : AtLoop) (B : Kx) (X : Xk) (F : Value → Heap → Prop) : Type 1 where
  Y : Type
  st : Y → Slots × Blocks
  inv : Y → Prop
  m : Y → Nat
  head : ∀ s b, L id2 s b → ∃ y, inv y ∧ st y = (s, b)
  pts : List Nat
  is : ((findLoop c lv id).bind fun r => (findLoop r.1 r.2 id2).map fun q => (ptIds J q.1, loopIds q.1)) = some (pts, [])
  nd : nodupB pts = true
  round : ∀ y, inv y → ∃ L2 : AtLoop,
    jRound2 P h L2 J f id id2 (st y).1 (st y).2 (fun s b => ∃ z, inv z ∧ m z < m y ∧ st z = (s, b)) (fun i s b => if i = id2 then jIn P h L J f id id2 .normal s b B X F else jIn P h L J f id id2 (.exit i) s b B X F) F ∧
    ∀ id3 ∈ pts, ∀ s b, L2 id3 s b → jIn2 P h L2 J f id id2 id3 .normal s b (fun s b => ∃ z, inv z ∧ m z < m y ∧ st z = (s, b)) (fun i s b => if i = id2 then jIn P h L J f id id2 .normal s b B X F else jIn P h L J f id id2 (.exit i) s b B X F) F
/-- A loop of a function. -/
structure LoopJ (P : Program) (h : Handler) (J : List Nat) (f : FuncId) (c : Code) (lv : Lv) (id : Nat) (L : AtLoop) (F : Value → Heap → Prop) : Type 1 where
  Y : Type
  st : Y → Slots × Blocks
  inv : Y → Prop
  m : Y → Nat
  head : ∀ s b, L id s b → ∃ y, inv y ∧ st y = (s, b)
  pts : List Nat
  loops : List Nat
  is : ((findLoop c lv id).map fun r => (ptIds J r.1, loopIds r.1)) = some (pts, loops)
  nd : nodupB pts = true
  round : ∀ y, inv y → ∃ L2 : AtLoop,
    jRound P h L2 J f id (st y).1 (st y).2 (fun s b => ∃ z, inv z ∧ m z < m y ∧ st z = (s, b)) (fun i s b => if i = id then jNext P h L J f id .normal s b F else jNext P h L J f id (.exit i) s b F) F ∧
    (∀ id2 ∈ pts, id2 ∉ loops → ∀ s b, L2 id2 s b → jIn P h L2 J f id id2 .normal s b (fun s b => ∃ z, inv z ∧ m z < m y ∧ st z = (s, b)) (fun i s b => if i = id then jNext P h L J f id .normal s b F else jNext P h L J f id (.exit i) s b F) F) ∧
    (∀ id2 ∈ loops, Nonempty (LoopJ2 P h J f c lv id id2 L2 (fun s b => ∃ z, inv z ∧ m z < m y ∧ st z = (s, b)) (fun i s b => if i = id then jNext P h L J f id .normal s b F else jNext P h L J f id (.exit i) s b F) F))

theorem roundK_ret {body : Code} {l : Lv} {B : Kx} {X : Xk} {R : Cont} {A : AAct} {H : Heap} : roundK body l B X R .ret A H = R .ret A H := rfl

theorem loopJ2_holds (hh : HandlerOK P h) (hmix : P.follows .mixedOrders = true) {f : FuncId} {fn : Func} {c : Code} (hf : P.funcs[f]? = some fn) (hc : fn.body = some c) {id id2 : Nat} {F : Value → Heap → Prop} {B : Kx} {X : Xk} {body : Code} {l' : Lv} (hfl : findLoop c (fnLv fn) id = some (body, l')) {body2 : Code} {l2 : Lv} (hf2 : findLoop body l' id2 = some (body2, l2))
    (g : LoopJ2 P h J f c (fnLv fn) id id2 L B X F) {s : Slots} {b : Blocks} (hs : L id2 s b) :
    Holds P false (fnSize fn) (.block id2 (.loop body2)) (actOf (fnSize fn) s) (heapOf b) (fun e A H => aftJ P h L J body l' id2 e A H (roundK body l' B X (fnK P fn F))) := by
  obtain ⟨y, hy, he⟩ := g.head s b hs
  have e1 : (g.st y).1 = s := congrArg Prod.fst he
  have e2 : (g.st y).2 = b := congrArg Prod.snd he
  have his := g.is
  rw [hfl] at his
  simp only [Option.bind_some, hf2, Option.map_some, Option.some.injEq, Prod.mk.injEq] at his
  have eqX : ∀ (B : Kx) (X : Xk) i s b, (if i = id2 then jIn P h L J f id id2 .normal s b B X F else jIn P h L J f id id2 (.exit i) s b B X F) = (if i = id2 then aftJ P h L J body l' id2 .normal (actOf (fnSize fn) s) (heapOf b) (roundK body l' B X (fnK P fn F)) else aftJ P h L J body l' id2 (.exit i) (actOf (fnSize fn) s) (heapOf b) (roundK body l' B X (fnK P fn F))) := by
    intro B X i s b
    simp only [jIn, hf, hc, hfl]
  have := loop_ruleJ (P := P) (h := h) (J := J) (sz := fnSize fn) hh hmix g.st g.inv g.m (id := id2) (body := body2) (l' := l2) (k := fun e A H => aftJ P h L J body l' id2 e A H (roundK body l' B X (fnK P fn F))) (R := fnK P fn F)
    (fun y hy => by
      obtain ⟨L2, h1, h2⟩ := g.round y hy
      refine ⟨L2, ?_, ptsOK_of body2 (by rw [his.1]; exact g.nd) (fun id3 b3 l3 hf3 => ?_) (fun id3 hi3 hf3 s b hs3 => ?_)⟩
      · unfold jRound2 at h1
        simp only [hf, hc, hfl, hf2, eqX] at h1
        exact h1
      · have := findLoop_ids _ _ _ hf3
        rw [his.2] at this
        cases this
      · have h3 := h2 id3 (by rw [his.1] at hi3; exact hi3) s b hs3
        unfold jIn2 at h3
        simp only [hf, hc, hfl, hf2, eqX] at h3
        exact h3)
    (fun e A H he hR => by subst he; exact aftJ_ret body (findLoop_pt body l' id2 hf2) hR)
    (fun e A H h1 h2 hR => by cases e <;> first | exact h1 rfl | exact h2 rfl | exact hR)
    y hy
  rw [e1, e2] at this
  exact this

theorem loopJ_holds (hh : HandlerOK P h) (hmix : P.follows .mixedOrders = true) {f : FuncId} {fn : Func} {c : Code} (hf : P.funcs[f]? = some fn) (hc : fn.body = some c) {id : Nat} {F : Value → Heap → Prop} {body : Code} {l' : Lv} (hfl : findLoop c (fnLv fn) id = some (body, l'))
    (g : LoopJ P h J f c (fnLv fn) id L F) {s : Slots} {b : Blocks} (hs : L id s b) :
    Holds P false (fnSize fn) (.block id (.loop body)) (actOf (fnSize fn) s) (heapOf b) (fun e A H => aftJ P h L J c (fnLv fn) id e A H (fnK P fn F)) := by
  obtain ⟨y, hy, he⟩ := g.head s b hs
  have e1 : (g.st y).1 = s := congrArg Prod.fst he
  have e2 : (g.st y).2 = b := congrArg Prod.snd he
  have his := g.is
  rw [hfl] at his
  simp only [Option.map_some, Option.some.injEq, Prod.mk.injEq] at his
  have eqX : ∀ i s b, (if i = id then jNext P h L J f id .normal s b F else jNext P h L J f id (.exit i) s b F) = (if i = id then aftJ P h L J c (fnLv fn) id .normal (actOf (fnSize fn) s) (heapOf b) (fnK P fn F) else aftJ P h L J c (fnLv fn) id (.exit i) (actOf (fnSize fn) s) (heapOf b) (fnK P fn F)) := by
    intro i s b
    simp only [jNext, hf, hc]
  have := loop_ruleJ (P := P) (h := h) (J := J) (sz := fnSize fn) hh hmix g.st g.inv g.m (id := id) (body := body) (l' := l') (k := fun e A H => aftJ P h L J c (fnLv fn) id e A H (fnK P fn F)) (R := fnK P fn F)
    (fun y hy => by
      obtain ⟨L2, h1, h2, h3⟩ := g.round y hy
      refine ⟨L2, ?_, ptsOK_of body (by rw [his.1]; exact g.nd) (fun id2 b2 l2 hf2 s b hs2 => ?_) (fun id2 hi2 hf2 s b hs2 => ?_)⟩
      · unfold jRound at h1
        simp only [hf, hc, hfl, eqX] at h1
        exact h1
      · have hm : id2 ∈ g.loops := by rw [← his.2]; exact findLoop_ids _ _ _ hf2
        obtain ⟨g2⟩ := h3 id2 hm
        have := loopJ2_holds hh hmix hf hc hfl hf2 g2 hs2
        simp only [eqX] at this
        exact this
      · have hnl : id2 ∉ g.loops := by
          intro hm
          rw [← his.2] at hm
          have := findLoop_some body l' id2 hm
          rw [hf2] at this
          cases this
        have h4 := h2 id2 (by rw [his.1] at hi2; exact hi2) hnl s b hs2
        unfold jIn at h4
        simp only [hf, hc, hfl, eqX] at h4
        exact h4)
    (fun e A H he hR => by subst he; exact aftJ_ret c (findLoop_pt c _ id hfl) hR)
    (fun e A H h1 h2 hR => by cases e <;> first | exact h1 rfl | exact h2 rfl | exact hR)
    y hy
  rw [e1, e2] at this
  exact this

theorem ptsOK_good (hh : HandlerOK P h) (hmix : P.follows .mixedOrders = true) {f : FuncId} {fn : Func} {c : Code} (hf : P.funcs[f]? = some fn) (hc : fn.body = some c) {F : Value → Heap → Prop} {pts loops : List Nat} (his : (ptIds J c, loopIds c) = (pts, loops)) (hn : nodupB pts = true)
    (hcut : ∀ id ∈ pts, id ∉ loops → ∀ s b, L id s b → jNext P h L J f id .normal s b F)
    (hl : ∀ id ∈ loops, Nonempty (LoopJ P h J f c (fnLv fn) id L F)) : ptsOK P h L J (fnSize fn) c (fnLv fn) (fnK P fn F) := by
  simp only [Prod.mk.injEq] at his
  refine ptsOK_of c (by rw [his.1]; exact hn) (fun id body l' hfl s b hs => ?_) (fun id hi hfl s b hs => ?_)
  · obtain ⟨g⟩ := hl id (by rw [← his.2]; exact findLoop_ids _ _ _ hfl)
    exact loopJ_holds hh hmix hf hc hfl g hs
  · have hnl : id ∉ loops := by
      intro hm
      rw [← his.2] at hm
      have := findLoop_some c (fnLv fn) id hm
      rw [hfl] at this
      cases this
    have h4 := hcut id (by rw [his.1] at hi; exact hi) hnl s b hs
    unfold jNext at h4
    simp only [hf, hc] at h4
    exact h4

/-- A FUNCTION IS PROVED, with cuts and loops within loops: a contract in data. -/
theorem con_J (hh : HandlerOK P h) (hmix : P.follows .mixedOrders = true) (J : List Nat) {L : AtLoop} {f : FuncId} {fn : Func} {c : Code} (hf : P.funcs[f]? = some fn) (hc : fn.body = some c) {ds rs : List D} (hcount : countV ds ≤ 400) (hsz : ds.length = fn.params.size) {pts loops : List Nat} (his : (ptIds J c, loopIds c) = (pts, loops)) (hn : nodupB pts = true)
    (hk : ∀ caps, capsL 40 (layVals caps 500 ds).1 → jFn P h L J f (layVals caps 500 ds).1.toArray (heapOf (layVals caps 500 ds).2) (dataK (· = rs)))
    (hcut : ∀ id ∈ pts, id ∉ loops → ∀ s b, L id s b → jNext P h L J f id .normal s b (dataK (· = rs)))
    (hl : ∀ id ∈ loops, Nonempty (LoopJ P h J f c (fnLv fn) id L (dataK (· = rs)))) : Con P f ds rs := by
  intro w args hr
  obtain ⟨caps, ρ, hst, g, ha⟩ := lay_gam hr hcount
  have hsz2 : max (layVals caps 500 ds).1.toArray.size fn.ntmps = fnSize fn := by simp [fnSize, layVals_len, hsz]
  refine callsIn_wide.1 ((jFn_run hh hmix hf hc (hk caps (capsL_of 40 ha)) (by rw [hsz2]; exact ptsOK_good hh hmix hf hc his hn hcut hl) g 0 (by simpa using ha)).mono ?_)
  rintro e w' ⟨v, H', ρ', v', hkv, rfl, hv, g'⟩
  obtain ⟨vs, ds', u, rfl, h1, rfl⟩ := dataK_out g' hv hkv
  exact ⟨⟨vs, u, rfl, h1⟩, g'.below.below hst⟩
/-- A FUNCTION IS PROVED, with cuts and loops within loops: by what it does to the blocks that it reaches. -/
theorem callS_J (hh : HandlerOK P h) (hmix : P.follows .mixedOrders = true) (J : List Nat) {L : AtLoop} {f : FuncId} {fn : Func} {c : Code} (hf : P.funcs[f]? = some fn) (hc : fn.body = some c) {args : List Value} {bs : Blocks} {K : Value → Blocks → Prop} (hsz : args.length = fn.params.size) {pts loops : List Nat} (his : (ptIds J c, loopIds c) = (pts, loops)) (hn : nodupB pts = true)
    (hk : jFn P h L J f args.toArray (heapOf bs) (stateK K))
    (hcut : ∀ id ∈ pts, id ∉ loops → ∀ s b, L id s b → jNext P h L J f id .normal s b (stateK K))
    (hl : ∀ id ∈ loops, Nonempty (LoopJ P h J f c (fnLv fn) id L (stateK K))) : CallS P f args bs K := by
  intro w0 ρ w args' n g ha
  have hsz2 : max args.toArray.size fn.ntmps = fnSize fn := by simp [fnSize, hsz]
  refine (jFn_run hh hmix hf hc hk (by rw [hsz2]; exact ptsOK_good hh hmix hf hc his hn hcut hl) g n (by simpa using ha)).mono ?_
  rintro e w' ⟨v, H', ρ', v', hkv, rfl, hv, g'⟩
  obtain ⟨v2, bs', ρ2, h1, h2, h3⟩ := stateK_out g' hv hkv
  exact ⟨v2, bs', ρ2, v', h1, rfl, h2, h3⟩
end Go.Abs

/- What is left to show of each function, written out; the kernel reckons it. -/
namespace Go.Proofs.G5b
open Go Go.Abs Go.Proofs
set_option maxRecDepth 100000
set_option linter.unusedVariables false
abbrev Ct := FuncId → List D → List D → Prop
abbrev Bx := Slots → Blocks → Prop
abbrev Xx := Nat → Slots → Blocks → Prop
abbrev vI (n : Int) : Value := .int .i64 n
abbrev P1 (b o : Nat) : Value := .pointer (some ⟨b, o, none⟩)
abbrev hF : Handler := fun _ _ _ _ _ => False
abbrev wl (lo hi e : Int) : Blocks := [(901, .cells [vI lo, vI hi] 56 false 1), (902, .cells [vI e] 30 false 1)]
abbrev wm (lo hi e : Int) : Blocks := [(900, .cells [vI lo, vI hi] 56 false 1), (901, .cells [vI e] 30 false 1)]
def wt1 (cap : Nat) (lo hi e x : Int) (K : Value → Blocks → Prop) : Prop := wpFn Try.prog hF (fun _ _ _ => False) 6 66 #[.slice (some ⟨900, 0, none⟩) 1 cap, P1 901 0, P1 902 0] (heapOf ((900, .cells [vI x] 3 false 1) :: wl lo hi e)) (stateK K)
theorem wt1_text (cap : Nat) (lo : Int) (hi : Int) (e : Int) (x : Int) (K : Go.Value → Blocks → Prop) : wt1 cap lo hi e x K =
 (bcase (decide (x < lo))
 (K (Go.Value.int Go.IntKind.i64 (e)) [(Prod.mk 900 (AObj.cells [(Go.Value.int Go.IntKind.i64 (x))] 3 false 1)), (Prod.mk 901 (AObj.cells [(Go.Value.int Go.IntKind.i64 (lo)), (Go.Value.int Go.IntKind.i64 (hi))] 56 false 1)), (Prod.mk 902 (AObj.cells [(Go.Value.int Go.IntKind.i64 (e))] 30 false 1))])
 (bcase (decide (x > hi))
 (K (Go.Value.int Go.IntKind.i64 (e)) [(Prod.mk 900 (AObj.cells [(Go.Value.int Go.IntKind.i64 (x))] 3 false 1)), (Prod.mk 901 (AObj.cells [(Go.Value.int Go.IntKind.i64 (lo)), (Go.Value.int Go.IntKind.i64 (hi))] 56 false 1)), (Prod.mk 902 (AObj.cells [(Go.Value.int Go.IntKind.i64 (e))] 30 false 1))])
 (K (Go.Value.int Go.IntKind.i64 (0 : Int)) [(Prod.mk 900 (AObj.cells [(Go.Value.int Go.IntKind.i64 (x))] 3 false 1)), (Prod.mk 901 (AObj.cells [(Go.Value.int Go.IntKind.i64 (lo)), (Go.Value.int Go.IntKind.i64 (hi))] 56 false 1)), (Prod.mk 902 (AObj.cells [(Go.Value.int Go.IntKind.i64 (e))] 30 false 1))]))) := by kernel_rfl
def wt2 (cap : Nat) (lo hi e x y : Int) (K : Value → Blocks → Prop) : Prop := wpFn Try.prog hF (fun _ _ _ => False) 6 66 #[.slice (some ⟨900, 0, none⟩) 2 cap, P1 901 0, P1 902 0] (heapOf ((900, .cells [vI x, vI y] 3 false 1) :: wl lo hi e)) (stateK K)
theorem wt2_text (cap : Nat) (lo : Int) (hi : Int) (e : Int) (x : Int) (y : Int) (K : Go.Value → Blocks → Prop) : wt2 cap lo hi e x y K =
 (bcase (decide (x < lo))
 (K (Go.Value.int Go.IntKind.i64 (e)) [(Prod.mk 900 (AObj.cells [(Go.Value.int Go.IntKind.i64 (x)), (Go.Value.int Go.IntKind.i64 (y))] 3 false 1)), (Prod.mk 901 (AObj.cells [(Go.Value.int Go.IntKind.i64 (lo)), (Go.Value.int Go.IntKind.i64 (hi))] 56 false 1)), (Prod.mk 902 (AObj.cells [(Go.Value.int Go.IntKind.i64 (e))] 30 false 1))])
 (bcase (decide (x > hi))
 (K (Go.Value.int Go.IntKind.i64 (e)) [(Prod.mk 900 (AObj.cells [(Go.Value.int Go.IntKind.i64 (x)), (Go.Value.int Go.IntKind.i64 (y))] 3 false 1)), (Prod.mk 901 (AObj.cells [(Go.Value.int Go.IntKind.i64 (lo)), (Go.Value.int Go.IntKind.i64 (hi))] 56 false 1)), (Prod.mk 902 (AObj.cells [(Go.Value.int Go.IntKind.i64 (e))] 30 false 1))])
 (bcase (decide (y < lo))
 (K (Go.Value.int Go.IntKind.i64 (e)) [(Prod.mk 900 (AObj.cells [(Go.Value.int Go.IntKind.i64 (x)), (Go.Value.int Go.IntKind.i64 (y))] 3 false 1)), (Prod.mk 901 (AObj.cells [(Go.Value.int Go.IntKind.i64 (lo)), (Go.Value.int Go.IntKind.i64 (hi))] 56 false 1)), (Prod.mk 902 (AObj.cells [(Go.Value.int Go.IntKind.i64 (e))] 30 false 1))])
 (bcase (decide (y > hi))
 (K (Go.Value.int Go.IntKind.i64 (e)) [(Prod.mk 900 (AObj.cells [(Go.Value.int Go.IntKind.i64 (x)), (Go.Value.int Go.IntKind.i64 (y))] 3 false 1)), (Prod.mk 901 (AObj.cells [(Go.Value.int Go.IntKind.i64 (lo)), (Go.Value.int Go.IntKind.i64 (hi))] 56 false 1)), (Prod.mk 902 (AObj.cells [(Go.Value.int Go.IntKind.i64 (e))] 30 false 1))])
 (K (Go.Value.int Go.IntKind.i64 (0 : Int)) [(Prod.mk 900 (AObj.cells [(Go.Value.int Go.IntKind.i64 (x)), (Go.Value.int Go.IntKind.i64 (y))] 3 false 1)), (Prod.mk 901 (AObj.cells [(Go.Value.int Go.IntKind.i64 (lo)), (Go.Value.int Go.IntKind.i64 (hi))] 56 false 1)), (Prod.mk 902 (AObj.cells [(Go.Value.int Go.IntKind.i64 (e))] 30 false 1))]))))) := by kernel_rfl
def wt3 (cap : Nat) (lo hi e x y z : Int) (K : Value → Blocks → Prop) : Prop := wpFn Try.prog hF (fun _ _ _ => False) 6 66 #[.slice (some ⟨900, 0, none⟩) 3 cap, P1 901 0, P1 902 0] (heapOf ((900, .cells [vI x, vI y, vI z] 3 false 1) :: wl lo hi e)) (stateK K)
theorem wt3_text (cap : Nat) (lo : Int) (hi : Int) (e : Int) (x : Int) (y : Int) (z : Int) (K : Go.Value → Blocks → Prop) : wt3 cap lo hi e x y z K =
 (bcase (decide (x < lo))
 (K (Go.Value.int Go.IntKind.i64 (e)) [(Prod.mk 900 (AObj.cells [(Go.Value.int Go.IntKind.i64 (x)), (Go.Value.int Go.IntKind.i64 (y)), (Go.Value.int Go.IntKind.i64 (z))] 3 false 1)), (Prod.mk 901 (AObj.cells [(Go.Value.int Go.IntKind.i64 (lo)), (Go.Value.int Go.IntKind.i64 (hi))] 56 false 1)), (Prod.mk 902 (AObj.cells [(Go.Value.int Go.IntKind.i64 (e))] 30 false 1))])
 (bcase (decide (x > hi))
 (K (Go.Value.int Go.IntKind.i64 (e)) [(Prod.mk 900 (AObj.cells [(Go.Value.int Go.IntKind.i64 (x)), (Go.Value.int Go.IntKind.i64 (y)), (Go.Value.int Go.IntKind.i64 (z))] 3 false 1)), (Prod.mk 901 (AObj.cells [(Go.Value.int Go.IntKind.i64 (lo)), (Go.Value.int Go.IntKind.i64 (hi))] 56 false 1)), (Prod.mk 902 (AObj.cells [(Go.Value.int Go.IntKind.i64 (e))] 30 false 1))])
 (bcase (decide (y < lo))
 (K (Go.Value.int Go.IntKind.i64 (e)) [(Prod.mk 900 (AObj.cells [(Go.Value.int Go.IntKind.i64 (x)), (Go.Value.int Go.IntKind.i64 (y)), (Go.Value.int Go.IntKind.i64 (z))] 3 false 1)), (Prod.mk 901 (AObj.cells [(Go.Value.int Go.IntKind.i64 (lo)), (Go.Value.int Go.IntKind.i64 (hi))] 56 false 1)), (Prod.mk 902 (AObj.cells [(Go.Value.int Go.IntKind.i64 (e))] 30 false 1))])
 (bcase (decide (y > hi))
 (K (Go.Value.int Go.IntKind.i64 (e)) [(Prod.mk 900 (AObj.cells [(Go.Value.int Go.IntKind.i64 (x)), (Go.Value.int Go.IntKind.i64 (y)), (Go.Value.int Go.IntKind.i64 (z))] 3 false 1)), (Prod.mk 901 (AObj.cells [(Go.Value.int Go.IntKind.i64 (lo)), (Go.Value.int Go.IntKind.i64 (hi))] 56 false 1)), (Prod.mk 902 (AObj.cells [(Go.Value.int Go.IntKind.i64 (e))] 30 false 1))])
 (bcase (decide (z < lo))
 (K (Go.Value.int Go.IntKind.i64 (e)) [(Prod.mk 900 (AObj.cells [(Go.Value.int Go.IntKind.i64 (x)), (Go.Value.int Go.IntKind.i64 (y)), (Go.Value.int Go.IntKind.i64 (z))] 3 false 1)), (Prod.mk 901 (AObj.cells [(Go.Value.int Go.IntKind.i64 (lo)), (Go.Value.int Go.IntKind.i64 (hi))] 56 false 1)), (Prod.mk 902 (AObj.cells [(Go.Value.int Go.IntKind.i64 (e))] 30 false 1))])
 (bcase (decide (z > hi))
 (K (Go.Value.int Go.IntKind.i64 (e)) [(Prod.mk 900 (AObj.cells [(Go.Value.int Go.IntKind.i64 (x)), (Go.Value.int Go.IntKind.i64 (y)), (Go.Value.int Go.IntKind.i64 (z))] 3 false 1)), (Prod.mk 901 (AObj.cells [(Go.Value.int Go.IntKind.i64 (lo)), (Go.Value.int Go.IntKind.i64 (hi))] 56 false 1)), (Prod.mk 902 (AObj.cells [(Go.Value.int Go.IntKind.i64 (e))] 30 false 1))])
 (K (Go.Value.int Go.IntKind.i64 (0 : Int)) [(Prod.mk 900 (AObj.cells [(Go.Value.int Go.IntKind.i64 (x)), (Go.Value.int Go.IntKind.i64 (y)), (Go.Value.int Go.IntKind.i64 (z))] 3 false 1)), (Prod.mk 901 (AObj.cells [(Go.Value.int Go.IntKind.i64 (lo)), (Go.Value.int Go.IntKind.i64 (hi))] 56 false 1)), (Prod.mk 902 (AObj.cells [(Go.Value.int Go.IntKind.i64 (e))] 30 false 1))]))))))) := by kernel_rfl
def wt4 (cap : Nat) (lo hi e x y z u : Int) (K : Value → Blocks → Prop) : Prop := wpFn Try.prog hF (fun _ _ _ => False) 6 66 #[.slice (some ⟨900, 0, none⟩) 4 cap, P1 901 0, P1 902 0] (heapOf ((900, .cells [vI x, vI y, vI z, vI u] 3 false 1) :: wl lo hi e)) (stateK K)
theorem wt4_text (cap : Nat) (lo : Int) (hi : Int) (e : Int) (x : Int) (y : Int) (z : Int) (u : Int) (K : Go.Value → Blocks → Prop) : wt4 cap lo hi e x y z u K =
 (bcase (decide (x < lo))
 (K (Go.Value.int Go.IntKind.i64 (e)) [(Prod.mk 900 (AObj.cells [(Go.Value.int Go.IntKind.i64 (x)), (Go.Value.int Go.IntKind.i64 (y)), (Go.Value.int Go.IntKind.i64 (z)), (Go.Value.int Go.IntKind.i64 (u))] 3 false 1)), (Prod.mk 901 (AObj.cells [(Go.Value.int Go.IntKind.i64 (lo)), (Go.Value.int Go.IntKind.i64 (hi))] 56 false 1)), (Prod.mk 902 (AObj.cells [(Go.Value.int Go.IntKind.i64 (e))] 30 false 1))])
 (bcase (decide (x > hi))
 (K (Go.Value.int Go.IntKind.i64 (e)) [(Prod.mk 900 (AObj.cells [(Go.Value.int Go.IntKind.i64 (x)), (Go.Value.int Go.IntKind.i64 (y)), (Go.Value.int Go.IntKind.i64 (z)), (Go.Value.int Go.IntKind.i64 (u))] 3 false 1)), (Prod.mk 901 (AObj.cells [(Go.Value.int Go.IntKind.i64 (lo)), (Go.Value.int Go.IntKind.i64 (hi))] 56 false 1)), (Prod.mk 902 (AObj.cells [(Go.Value.int Go.IntKind.i64 (e))] 30 false 1))])
 (bcase (decide (y < lo))
 (K (Go.Value.int Go.IntKind.i64 (e)) [(Prod.mk 900 (AObj.cells [(Go.Value.int Go.IntKind.i64 (x)), (Go.Value.int Go.IntKind.i64 (y)), (Go.Value.int Go.IntKind.i64 (z)), (Go.Value.int Go.IntKind.i64 (u))] 3 false 1)), (Prod.mk 901 (AObj.cells [(Go.Value.int Go.IntKind.i64 (lo)), (Go.Value.int Go.IntKind.i64 (hi))] 56 false 1)), (Prod.mk 902 (AObj.cells [(Go.Value.int Go.IntKind.i64 (e))] 30 false 1))])
 (bcase (decide (y > hi))
 (K (Go.Value.int Go.IntKind.i64 (e)) [(Prod.mk 900 (AObj.cells [(Go.Value.int Go.IntKind.i64 (x)), (Go.Value.int Go.IntKind.i64 (y)), (Go.Value.int Go.IntKind.i64 (z)), (Go.Value.int Go.IntKind.i64 (u))] 3 false 1)), (Prod.mk 901 (AObj.cells [(Go.Value.int Go.IntKind.i64 (lo)), (Go.Value.int Go.IntKind.i64 (hi))] 56 false 1)), (Prod.mk 902 (AObj.cells [(Go.Value.int Go.IntKind.i64 (e))] 30 false 1))])
 (bcase (decide (z < lo))
 (K (Go.Value.int Go.IntKind.i64 (e)) [(Prod.mk 900 (AObj.cells [(Go.Value.int Go.IntKind.i64 (x)), (Go.Value.int Go.IntKind.i64 (y)), (Go.Value.int Go.IntKind.i64 (z)), (Go.Value.int Go.IntKind.i64 (u))] 3 false 1)), (Prod.mk 901 (AObj.cells [(Go.Value.int Go.IntKind.i64 (lo)), (Go.Value.int Go.IntKind.i64 (hi))] 56 false 1)), (Prod.mk 902 (AObj.cells [(Go.Value.int Go.IntKind.i64 (e))] 30 false 1))])
 (bcase (decide (z > hi))
 (K (Go.Value.int Go.IntKind.i64 (e)) [(Prod.mk 900 (AObj.cells [(Go.Value.int Go.IntKind.i64 (x)), (Go.Value.int Go.IntKind.i64 (y)), (Go.Value.int Go.IntKind.i64 (z)), (Go.Value.int Go.IntKind.i64 (u))] 3 false 1)), (Prod.mk 901 (AObj.cells [(Go.Value.int Go.IntKind.i64 (lo)), (Go.Value.int Go.IntKind.i64 (hi))] 56 false 1)), (Prod.mk 902 (AObj.cells [(Go.Value.int Go.IntKind.i64 (e))] 30 false 1))])
 (bcase (decide (u < lo))
 (K (Go.Value.int Go.IntKind.i64 (e)) [(Prod.mk 900 (AObj.cells [(Go.Value.int Go.IntKind.i64 (x)), (Go.Value.int Go.IntKind.i64 (y)), (Go.Value.int Go.IntKind.i64 (z)), (Go.Value.int Go.IntKind.i64 (u))] 3 false 1)), (Prod.mk 901 (AObj.cells [(Go.Value.int Go.IntKind.i64 (lo)), (Go.Value.int Go.IntKind.i64 (hi))] 56 false 1)), (Prod.mk 902 (AObj.cells [(Go.Value.int Go.IntKind.i64 (e))] 30 false 1))])
 (bcase (decide (u > hi))
 (K (Go.Value.int Go.IntKind.i64 (e)) [(Prod.mk 900 (AObj.cells [(Go.Value.int Go.IntKind.i64 (x)), (Go.Value.int Go.IntKind.i64 (y)), (Go.Value.int Go.IntKind.i64 (z)), (Go.Value.int Go.IntKind.i64 (u))] 3 false 1)), (Prod.mk 901 (AObj.cells [(Go.Value.int Go.IntKind.i64 (lo)), (Go.Value.int Go.IntKind.i64 (hi))] 56 false 1)), (Prod.mk 902 (AObj.cells [(Go.Value.int Go.IntKind.i64 (e))] 30 false 1))])
 (K (Go.Value.int Go.IntKind.i64 (0 : Int)) [(Prod.mk 900 (AObj.cells [(Go.Value.int Go.IntKind.i64 (x)), (Go.Value.int Go.IntKind.i64 (y)), (Go.Value.int Go.IntKind.i64 (z)), (Go.Value.int Go.IntKind.i64 (u))] 3 false 1)), (Prod.mk 901 (AObj.cells [(Go.Value.int Go.IntKind.i64 (lo)), (Go.Value.int Go.IntKind.i64 (hi))] 56 false 1)), (Prod.mk 902 (AObj.cells [(Go.Value.int Go.IntKind.i64 (e))] 30 false 1))]))))))))) := by kernel_rfl
def wt5 (cap : Nat) (lo hi e x y z u v : Int) (K : Value → Blocks → Prop) : Prop := wpFn Try.prog hF (fun _ _ _ => False) 6 66 #[.slice (some ⟨900, 0, none⟩) 5 cap, P1 901 0, P1 902 0] (heapOf ((900, .cells [vI x, vI y, vI z, vI u, vI v] 3 false 1) :: wl lo hi e)) (stateK K)
theorem wt5_text (cap : Nat) (lo : Int) (hi : Int) (e : Int) (x : Int) (y : Int) (z : Int) (u : Int) (v : Int) (K : Go.Value → Blocks → Prop) : wt5 cap lo hi e x y z u v K =
 (bcase (decide (x < lo))
 (K (Go.Value.int Go.IntKind.i64 (e)) [(Prod.mk 900 (AObj.cells [(Go.Value.int Go.IntKind.i64 (x)), (Go.Value.int Go.IntKind.i64 (y)), (Go.Value.int Go.IntKind.i64 (z)), (Go.Value.int Go.IntKind.i64 (u)), (Go.Value.int Go.IntKind.i64 (v))] 3 false 1)), (Prod.mk 901 (AObj.cells [(Go.Value.int Go.IntKind.i64 (lo)), (Go.Value.int Go.IntKind.i64 (hi))] 56 false 1)), (Prod.mk 902 (AObj.cells [(Go.Value.int Go.IntKind.i64 (e))] 30 false 1))])
 (bcase (decide (x > hi))
 (K (Go.Value.int Go.IntKind.i64 (e)) [(Prod.mk 900 (AObj.cells [(Go.Value.int Go.IntKind.i64 (x)), (Go.Value.int Go.IntKind.i64 (y)), (Go.Value.int Go.IntKind.i64 (z)), (Go.Value.int Go.IntKind.i64 (u)), (Go.Value.int Go.IntKind.i64 (v))] 3 false 1)), (Prod.mk 901 (AObj.cells [(Go.Value.int Go.IntKind.i64 (lo)), (Go.Value.int Go.IntKind.i64 (hi))] 56 false 1)), (Prod.mk 902 (AObj.cells [(Go.Value.int Go.IntKind.i64 (e))] 30 false 1))])
 (bcase (decide (y < lo))
 (K (Go.Value.int Go.IntKind.i64 (e)) [(Prod.mk 900 (AObj.cells [(Go.Value.int Go.IntKind.i64 (x)), (Go.Value.int Go.IntKind.i64 (y)), (Go.Value.int Go.IntKind.i64 (z)), (Go.Value.int Go.IntKind.i64 (u)), (Go.Value.int Go.IntKind.i64 (v))] 3 false 1)), (Prod.mk 901 (AObj.cells [(Go.Value.int Go.IntKind.i64 (lo)), (Go.Value.int Go.IntKind.i64 (hi))] 56 false 1)), (Prod.mk 902 (AObj.cells [(Go.Value.int Go.IntKind.i64 (e))] 30 false 1))])
 (bcase (decide (y > hi))
 (K (Go.Value.int Go.IntKind.i64 (e)) [(Prod.mk 900 (AObj.cells [(Go.Value.int Go.IntKind.i64 (x)), (Go.Value.int Go.IntKind.i64 (y)), (Go.Value.int Go.IntKind.i64 (z)), (Go.Value.int Go.IntKind.i64 (u)), (Go.Value.int Go.IntKind.i64 (v))] 3 false 1)), (Prod.mk 901 (AObj.cells [(Go.Value.int Go.IntKind.i64 (lo)), (Go.Value.int Go.IntKind.i64 (hi))] 56 false 1)), (Prod.mk 902 (AObj.cells [(Go.Value.int Go.IntKind.i64 (e))] 30 false 1))])
 (bcase (decide (z < lo))
 (K (Go.Value.int Go.IntKind.i64 (e)) [(Prod.mk 900 (AObj.cells [(Go.Value.int Go.IntKind.i64 (x)), (Go.Value.int Go.IntKind.i64 (y)), (Go.Value.int Go.IntKind.i64 (z)), (Go.Value.int Go.IntKind.i64 (u)), (Go.Value.int Go.IntKind.i64 (v))] 3 false 1)), (Prod.mk 901 (AObj.cells [(Go.Value.int Go.IntKind.i64 (lo)), (Go.Value.int Go.IntKind.i64 (hi))] 56 false 1)), (Prod.mk 902 (AObj.cells [(Go.Value.int Go.IntKind.i64 (e))] 30 false 1))])
 (bcase (decide (z > hi))
 (K (Go.Value.int Go.IntKind.i64 (e)) [(Prod.mk 900 (AObj.cells [(Go.Value.int Go.IntKind.i64 (x)), (Go.Value.int Go.IntKind.i64 (y)), (Go.Value.int Go.IntKind.i64 (z)), (Go.Value.int Go.IntKind.i64 (u)), (Go.Value.int Go.IntKind.i64 (v))] 3 false 1)), (Prod.mk 901 (AObj.cells [(Go.Value.int Go.IntKind.i64 (lo)), (Go.Value.int Go.IntKind.i64 (hi))] 56 false 1)), (Prod.mk 902 (AObj.cells [(Go.Value.int Go.IntKind.i64 (e))] 30 false 1))])
 (bcase (decide (u < lo))
 (K (Go.Value.int Go.IntKind.i64 (e)) [(Prod.mk 900 (AObj.cells [(Go.Value.int Go.IntKind.i64 (x)), (Go.Value.int Go.IntKind.i64 (y)), (Go.Value.int Go.IntKind.i64 (z)), (Go.Value.int Go.IntKind.i64 (u)), (Go.Value.int Go.IntKind.i64 (v))] 3 false 1)), (Prod.mk 901 (AObj.cells [(Go.Value.int Go.IntKind.i64 (lo)), (Go.Value.int Go.IntKind.i64 (hi))] 56 false 1)), (Prod.mk 902 (AObj.cells [(Go.Value.int Go.IntKind.i64 (e))] 30 false 1))])
 (bcase (decide (u > hi))
 (K (Go.Value.int Go.IntKind.i64 (e)) [(Prod.mk 900 (AObj.cells [(Go.Value.int Go.IntKind.i64 (x)), (Go.Value.int Go.IntKind.i64 (y)), (Go.Value.int Go.IntKind.i64 (z)), (Go.Value.int Go.IntKind.i64 (u)), (Go.Value.int Go.IntKind.i64 (v))] 3 false 1)), (Prod.mk 901 (AObj.cells [(Go.Value.int Go.IntKind.i64 (lo)), (Go.Value.int Go.IntKind.i64 (hi))] 56 false 1)), (Prod.mk 902 (AObj.cells [(Go.Value.int Go.IntKind.i64 (e))] 30 false 1))])
 (bcase (decide (v < lo))
 (K (Go.Value.int Go.IntKind.i64 (e)) [(Prod.mk 900 (AObj.cells [(Go.Value.int Go.IntKind.i64 (x)), (Go.Value.int Go.IntKind.i64 (y)), (Go.Value.int Go.IntKind.i64 (z)), (Go.Value.int Go.IntKind.i64 (u)), (Go.Value.int Go.IntKind.i64 (v))] 3 false 1)), (Prod.mk 901 (AObj.cells [(Go.Value.int Go.IntKind.i64 (lo)), (Go.Value.int Go.IntKind.i64 (hi))] 56 false 1)), (Prod.mk 902 (AObj.cells [(Go.Value.int Go.IntKind.i64 (e))] 30 false 1))])
 (bcase (decide (v > hi))
 (K (Go.Value.int Go.IntKind.i64 (e)) [(Prod.mk 900 (AObj.cells [(Go.Value.int Go.IntKind.i64 (x)), (Go.Value.int Go.IntKind.i64 (y)), (Go.Value.int Go.IntKind.i64 (z)), (Go.Value.int Go.IntKind.i64 (u)), (Go.Value.int Go.IntKind.i64 (v))] 3 false 1)), (Prod.mk 901 (AObj.cells [(Go.Value.int Go.IntKind.i64 (lo)), (Go.Value.int Go.IntKind.i64 (hi))] 56 false 1)), (Prod.mk 902 (AObj.cells [(Go.Value.int Go.IntKind.i64 (e))] 30 false 1))])
 (K (Go.Value.int Go.IntKind.i64 (0 : Int)) [(Prod.mk 900 (AObj.cells [(Go.Value.int Go.IntKind.i64 (x)), (Go.Value.int Go.IntKind.i64 (y)), (Go.Value.int Go.IntKind.i64 (z)), (Go.Value.int Go.IntKind.i64 (u)), (Go.Value.int Go.IntKind.i64 (v))] 3 false 1)), (Prod.mk 901 (AObj.cells [(Go.Value.int Go.IntKind.i64 (lo)), (Go.Value.int Go.IntKind.i64 (hi))] 56 false 1)), (Prod.mk 902 (AObj.cells [(Go.Value.int Go.IntKind.i64 (e))] 30 false 1))]))))))))))) := by kernel_rfl
def wt0 (lo hi e : Int) (K : Value → Blocks → Prop) : Prop := wpFn Try.prog hF (fun _ _ _ => False) 6 66 #[.slice none 0 0, P1 900 0, P1 901 0] (heapOf (wm lo hi e)) (stateK K)
theorem wt0_text (lo : Int) (hi : Int) (e : Int) (K : Go.Value → Blocks → Prop) : wt0 lo hi e K =
 (K (Go.Value.int Go.IntKind.i64 (0 : Int)) [(Prod.mk 900 (AObj.cells [(Go.Value.int Go.IntKind.i64 (lo)), (Go.Value.int Go.IntKind.i64 (hi))] 56 false 1)), (Prod.mk 901 (AObj.cells [(Go.Value.int Go.IntKind.i64 (e))] 30 false 1))]) := by kernel_rfl
def wtH (L : AtLoop) (lo hi e : Int) (n cap : Nat) (l : List Value) (K : Value → Blocks → Prop) : Prop := wpFn Try.prog hF L 0 66 #[.slice (some ⟨500, 0, none⟩) n cap, P1 900 0, P1 901 0] (heapOf ((500, .sym l false 1) :: wm lo hi e)) (stateK K)
theorem wtH_text (L : AtLoop) (lo : Int) (hi : Int) (e : Int) (n : Nat) (cap : Nat) (l : List Go.Value) (K : Go.Value → Blocks → Prop) : wtH L lo hi e n cap l K =
 (L 0 [(Prod.mk 1 (Go.Value.pointer (Option.some (Go.Addr.mk 900 0 Option.none)))), (Prod.mk 2 (Go.Value.pointer (Option.some (Go.Addr.mk 901 0 Option.none)))), (Prod.mk 7 (Go.Value.slice (Option.some (Go.Addr.mk 500 0 Option.none)) (n) (cap))), (Prod.mk 8 (Go.Value.int Go.IntKind.i64 ((↑n : Int)))), (Prod.mk 9 (Go.Value.int Go.IntKind.i64 (0 : Int)))] [(Prod.mk 900 (AObj.cells [(Go.Value.int Go.IntKind.i64 (lo)), (Go.Value.int Go.IntKind.i64 (hi))] 56 false 1)), (Prod.mk 901 (AObj.cells [(Go.Value.int Go.IntKind.i64 (e))] 30 false 1)), (Prod.mk 500 (AObj.sym (l) false 1))]) := by kernel_rfl
def wtO (L : AtLoop) (lo hi e : Int) (n cap : Nat) (l : List Value) (K : Value → Blocks → Prop) : Prop := wpFn Try.prog hF L 0 66 #[.slice (some ⟨900, 0, none⟩) n cap, P1 901 0, P1 902 0] (heapOf ((900, .sym l true 1) :: wl lo hi e)) (stateK K)
theorem wtO_text (L : AtLoop) (lo : Int) (hi : Int) (e : Int) (n : Nat) (cap : Nat) (l : List Go.Value) (K : Go.Value → Blocks → Prop) : wtO L lo hi e n cap l K =
 (L 0 [(Prod.mk 1 (Go.Value.pointer (Option.some (Go.Addr.mk 901 0 Option.none)))), (Prod.mk 2 (Go.Value.pointer (Option.some (Go.Addr.mk 902 0 Option.none)))), (Prod.mk 7 (Go.Value.slice (Option.some (Go.Addr.mk 900 0 Option.none)) (n) (cap))), (Prod.mk 8 (Go.Value.int Go.IntKind.i64 ((↑n : Int)))), (Prod.mk 9 (Go.Value.int Go.IntKind.i64 (0 : Int)))] [(Prod.mk 901 (AObj.cells [(Go.Value.int Go.IntKind.i64 (lo)), (Go.Value.int Go.IntKind.i64 (hi))] 56 false 1)), (Prod.mk 902 (AObj.cells [(Go.Value.int Go.IntKind.i64 (e))] 30 false 1)), (Prod.mk 900 (AObj.sym (l) true 1))]) := by kernel_rfl
def sWH (n cap : Nat) (i : Int) : Slots := [(1, P1 900 0), (2, P1 901 0), (7, .slice (some ⟨500, 0, none⟩) n cap), (8, .int .i64 n), (9, vI i)]
def bWH (lo hi e : Int) (l : List Value) : Blocks := [(900, .cells [vI lo, vI hi] 56 false 1), (901, .cells [vI e] 30 false 1), (500, .sym l false 1)]
def rWH (L : AtLoop) (lo hi e : Int) (n cap : Nat) (l : List Value) (i : Int) (B : Bx) (X : Xx) (K : Value → Blocks → Prop) : Prop := wpRound Try.prog hF L 66 0 (sWH n cap i) (bWH lo hi e l) B X (stateK K)
theorem rWH_text (L : AtLoop) (lo : Int) (hi : Int) (e : Int) (n : Nat) (cap : Nat) (l : List Go.Value) (i : Int) (B : Bx) (X : Xx) (K : Go.Value → Blocks → Prop) : rWH L lo hi e n cap l i B X K =
 (bcase (decide (i < (↑n : Int)))
 (bcase (decide (0 ≤ i))
 (bcase (decide (i < (↑n : Int)))
 (∃ n1 : Int,
 ((At (l) (0 + Int.toNat i * 1) 1 [(Go.Value.int Go.IntKind.i64 (n1))]) ∧
 (bcase (decide (n1 < lo))
 (K (Go.Value.int Go.IntKind.i64 (e)) [(Prod.mk 900 (AObj.cells [(Go.Value.int Go.IntKind.i64 (lo)), (Go.Value.int Go.IntKind.i64 (hi))] 56 false 1)), (Prod.mk 901 (AObj.cells [(Go.Value.int Go.IntKind.i64 (e))] 30 false 1))])
 (bcase (decide (n1 > hi))
 (K (Go.Value.int Go.IntKind.i64 (e)) [(Prod.mk 900 (AObj.cells [(Go.Value.int Go.IntKind.i64 (lo)), (Go.Value.int Go.IntKind.i64 (hi))] 56 false 1)), (Prod.mk 901 (AObj.cells [(Go.Value.int Go.IntKind.i64 (e))] 30 false 1))])
 (B [(Prod.mk 1 (Go.Value.pointer (Option.some (Go.Addr.mk 900 0 Option.none)))), (Prod.mk 2 (Go.Value.pointer (Option.some (Go.Addr.mk 901 0 Option.none)))), (Prod.mk 7 (Go.Value.slice (Option.some (Go.Addr.mk 500 0 Option.none)) (n) (cap))), (Prod.mk 8 (Go.Value.int Go.IntKind.i64 ((↑n : Int)))), (Prod.mk 9 (Go.Value.int Go.IntKind.i64 (Go.IntKind.wrap Go.IntKind.i64 (i + 1))))] [(Prod.mk 900 (AObj.cells [(Go.Value.int Go.IntKind.i64 (lo)), (Go.Value.int Go.IntKind.i64 (hi))] 56 false 1)), (Prod.mk 901 (AObj.cells [(Go.Value.int Go.IntKind.i64 (e))] 30 false 1)), (Prod.mk 500 (AObj.sym (l) false 1))])))))
 False)
 False)
 (X 0 [] [(Prod.mk 900 (AObj.cells [(Go.Value.int Go.IntKind.i64 (lo)), (Go.Value.int Go.IntKind.i64 (hi))] 56 false 1)), (Prod.mk 901 (AObj.cells [(Go.Value.int Go.IntKind.i64 (e))] 30 false 1))])) := by kernel_rfl
def nWH (L : AtLoop) (lo hi e : Int) (K : Value → Blocks → Prop) : Prop := wpNext Try.prog hF L 66 0 .normal [] (wm lo hi e) (stateK K)
theorem nWH_text (L : AtLoop) (lo : Int) (hi : Int) (e : Int) (K : Go.Value → Blocks → Prop) : nWH L lo hi e K =
 (K (Go.Value.int Go.IntKind.i64 (0 : Int)) [(Prod.mk 900 (AObj.cells [(Go.Value.int Go.IntKind.i64 (lo)), (Go.Value.int Go.IntKind.i64 (hi))] 56 false 1)), (Prod.mk 901 (AObj.cells [(Go.Value.int Go.IntKind.i64 (e))] 30 false 1))]) := by kernel_rfl
def sWO (n cap : Nat) (i : Int) : Slots := [(1, P1 901 0), (2, P1 902 0), (7, .slice (some ⟨900, 0, none⟩) n cap), (8, .int .i64 n), (9, vI i)]
def bWO (lo hi e : Int) (l : List Value) : Blocks := [(901, .cells [vI lo, vI hi] 56 false 1), (902, .cells [vI e] 30 false 1), (900, .sym l true 1)]
def rWO (L : AtLoop) (lo hi e : Int) (n cap : Nat) (l : List Value) (i : Int) (B : Bx) (X : Xx) (K : Value → Blocks → Prop) : Prop := wpRound Try.prog hF L 66 0 (sWO n cap i) (bWO lo hi e l) B X (stateK K)
theorem rWO_text (L : AtLoop) (lo : Int) (hi : Int) (e : Int) (n : Nat) (cap : Nat) (l : List Go.Value) (i : Int) (B : Bx) (X : Xx) (K : Go.Value → Blocks → Prop) : rWO L lo hi e n cap l i B X K =
 (bcase (decide (i < (↑n : Int)))
 (bcase (decide (0 ≤ i))
 (bcase (decide (i < (↑n : Int)))
 (∃ n1 : Int,
 ((At (l) (0 + Int.toNat i * 1) 1 [(Go.Value.int Go.IntKind.i64 (n1))]) ∧
 (bcase (decide (n1 < lo))
 (K (Go.Value.int Go.IntKind.i64 (e)) [(Prod.mk 900 (AObj.sym (l) true 1)), (Prod.mk 901 (AObj.cells [(Go.Value.int Go.IntKind.i64 (lo)), (Go.Value.int Go.IntKind.i64 (hi))] 56 false 1)), (Prod.mk 902 (AObj.cells [(Go.Value.int Go.IntKind.i64 (e))] 30 false 1))])
 (bcase (decide (n1 > hi))
 (K (Go.Value.int Go.IntKind.i64 (e)) [(Prod.mk 900 (AObj.sym (l) true 1)), (Prod.mk 901 (AObj.cells [(Go.Value.int Go.IntKind.i64 (lo)), (Go.Value.int Go.IntKind.i64 (hi))] 56 false 1)), (Prod.mk 902 (AObj.cells [(Go.Value.int Go.IntKind.i64 (e))] 30 false 1))])
 (B [(Prod.mk 1 (Go.Value.pointer (Option.some (Go.Addr.mk 901 0 Option.none)))), (Prod.mk 2 (Go.Value.pointer (Option.some (Go.Addr.mk 902 0 Option.none)))), (Prod.mk 7 (Go.Value.slice (Option.some (Go.Addr.mk 900 0 Option.none)) (n) (cap))), (Prod.mk 8 (Go.Value.int Go.IntKind.i64 ((↑n : Int)))), (Prod.mk 9 (Go.Value.int Go.IntKind.i64 (Go.IntKind.wrap Go.IntKind.i64 (i + 1))))] [(Prod.mk 901 (AObj.cells [(Go.Value.int Go.IntKind.i64 (lo)), (Go.Value.int Go.IntKind.i64 (hi))] 56 false 1)), (Prod.mk 902 (AObj.cells [(Go.Value.int Go.IntKind.i64 (e))] 30 false 1)), (Prod.mk 900 (AObj.sym (l) true 1))])))))
 False)
 False)
 (X 0 [] [(Prod.mk 900 (AObj.sym (l) true 1)), (Prod.mk 901 (AObj.cells [(Go.Value.int Go.IntKind.i64 (lo)), (Go.Value.int Go.IntKind.i64 (hi))] 56 false 1)), (Prod.mk 902 (AObj.cells [(Go.Value.int Go.IntKind.i64 (e))] 30 false 1))])) := by kernel_rfl
def nWO (L : AtLoop) (lo hi e : Int) (l : List Value) (K : Value → Blocks → Prop) : Prop := wpNext Try.prog hF L 66 0 .normal [] ((900, .sym l true 1) :: wl lo hi e) (stateK K)
theorem nWO_text (L : AtLoop) (lo : Int) (hi : Int) (e : Int) (l : List Go.Value) (K : Go.Value → Blocks → Prop) : nWO L lo hi e l K =
 (K (Go.Value.int Go.IntKind.i64 (0 : Int)) [(Prod.mk 900 (AObj.sym (l) true 1)), (Prod.mk 901 (AObj.cells [(Go.Value.int Go.IntKind.i64 (lo)), (Go.Value.int Go.IntKind.i64 (hi))] 56 false 1)), (Prod.mk 902 (AObj.cells [(Go.Value.int Go.IntKind.i64 (e))] 30 false 1))]) := by kernel_rfl
end Go.Proofs.G5b

/- A call that gives back what it was handed: it holds. -/
namespace Go.Abs
open Go.RowKit
variable {P : Program} {H : Heap}
theorem layC_out : ∀ (ds : List D) {H : Heap} {k : List Value → Heap → Prop}, layC ds H k → ∃ vs H', LaidC H ds vs H' ∧ k vs H'
  | [], H, k, h => ⟨_, _, .nil H, h⟩
  | .nil :: r, H, k, h => by
    obtain ⟨vs, H', h1, h2⟩ := layC_out r h
    exact ⟨_, _, .nilS h1, h2⟩
  | .sl n es cs :: r, H, k, h => by
    obtain ⟨vs, H', h1, h2⟩ := layC_out r h
    exact ⟨_, _, .sl n es cs h1, h2⟩
  | .val v :: r, H, k, h => by
    unfold layC at h
    split at h
    · cases h
    · rename_i hv
      obtain ⟨vs, H', h1, h2⟩ := layC_out r h
      exact ⟨_, _, .val _ (fun cs e => hv cs e) h1, h2⟩
  | .agg _ :: _, H, k, h => by cases h
theorem layV_out : ∀ (ds : List D) {H : Heap} {k : List Value → Heap → Prop}, layV ds H k → ∃ vs H', LaidV H ds vs H' ∧ k vs H'
  | [], H, k, h => ⟨_, _, .nil H, h⟩
  | d :: r, H, k, h => by
    unfold layV at h
    split at h
    · rename_i e; cases e
    · rename_i e; cases e
      obtain ⟨vs, H1, h1, h⟩ := layC_out _ h
      obtain ⟨us, H2, h2, h3⟩ := layV_out _ h
      exact ⟨_, _, .agg h1 h2, h3⟩
    · rename_i e; cases e
      obtain ⟨vs, H1, h1, h⟩ := layC_out _ h
      split at h
      · obtain ⟨us, H2, h2, h3⟩ := layV_out _ h
        exact ⟨_, _, .one h1 h2, h3⟩
      · cases h
theorem wpSame_call {C : FuncId → List D → List D → Prop} (hC : ∀ f ds rs, C f ds rs → Con P f ds rs) {f : FuncId} {args : Array Value} {k : Value → Heap → Prop} (hk : wpSame C f args H k) : CallH P f args H k := by
  intro w0 ρ w args' n g ha
  obtain ⟨ds, hr, hs, hk⟩ := readVals_out g _ ha hk
  obtain ⟨vs, H', hl, hk⟩ := layV_out ds hk
  refine callsIn_wide.2 ((hC f ds ds hs.out w args' hr).mono ?_)
  rintro e w' ⟨⟨vs', u, rfl, hg⟩, hb⟩
  obtain ⟨ρ', g', l', e', _⟩ := laidV_sound hl (g.grow hb) g.below.size (fun i m hm => .inl (g.own i m hm).1) hg
  exact ⟨_, H', ρ', _, hk, rfl, tupleOf_R l', g', e'⟩
theorem handlerS_ok {C : FuncId → List D → List D → Prop} (hC : ∀ f ds rs, C f ds rs → Con P f ds rs) {same : FuncId → Bool} {base : Handler} (hb : HandlerOK P base) : HandlerOK P (handlerS C same base) := by
  intro g args ats H k hk
  unfold handlerS at hk
  split at hk
  · exact wpSame_call hC hk
  · exact hb g args ats H k hk
theorem wpFix_call {C : FuncId → List D → List D → Prop} (hC : ∀ f ds rs, C f ds rs → Con P f ds rs) {f : FuncId} {fix : List D → Option (List D)} {args : Array Value} {k : Value → Heap → Prop} (hk : wpFix C f fix args H k) : CallH P f args H k := by
  intro w0 ρ w args' n g ha
  obtain ⟨ds, hr, hk⟩ := readVals_out g _ ha hk
  split at hk
  · rename_i rs _
    obtain ⟨hs, hk⟩ := hk
    obtain ⟨vs, H', hl, hk⟩ := layV_out rs hk
    refine callsIn_wide.2 ((hC f ds rs hs.out w args' hr).mono ?_)
    rintro e w' ⟨⟨vs', u, rfl, hg⟩, hb⟩
    obtain ⟨ρ', g', l', e', _⟩ := laidV_sound hl (g.grow hb) g.below.size (fun i m hm => .inl (g.own i m hm).1) hg
    exact ⟨_, H', ρ', _, hk, rfl, tupleOf_R l', g', e'⟩
  · exact hk.elim
theorem handlerF_ok {C : FuncId → List D → List D → Prop} (hC : ∀ f ds rs, C f ds rs → Con P f ds rs) {fix : FuncId → Option (List D → Option (List D))} {base : Handler} (hb : HandlerOK P base) : HandlerOK P (handlerF C fix base) := by
  intro g args ats H k hk
  unfold handlerF at hk
  split at hk
  · exact wpFix_call hC hk
  · exact hb g args ats H k hk
end Go.Abs

/- Handlers by a table hold if each entry does. -/
namespace Go.Abs
open Go.RowKit
variable {P : Program}
theorem saidH_ok {C : FuncId → List D → List D → Prop} (hC : ∀ f ds rs, C f ds rs → Con P f ds rs) : HandlerOK P (saidH P C) := by
  intro g args ats H k hk
  unfold saidH at hk
  split at hk
  · exact wpSaid_call hC hk
  · exact hk.elim
theorem sameH_ok {C : FuncId → List D → List D → Prop} (hC : ∀ f ds rs, C f ds rs → Con P f ds rs) : HandlerOK P (sameH C) := fun _ _ _ _ _ hk => wpSame_call hC hk
theorem fixH_ok {C : FuncId → List D → List D → Prop} (hC : ∀ f ds rs, C f ds rs → Con P f ds rs) {fix : List D → Option (List D)} : HandlerOK P (fixH C fix) := fun _ _ _ _ _ hk => wpFix_call hC hk
/-- (a state contract speaks of one function) -/
def PreOK (P : Program) (pre : FuncId → Option Handler) : Prop := ∀ g h, pre g = some h → ∀ args ats H k, h g args ats H k → CallH P g args H k
theorem handlerX_ok (hmix : P.follows .mixedOrders = true) {pre : FuncId → Option Handler} (hp : PreOK P pre) {u : Nat} (hu : u ≠ 0) : ∀ n, HandlerOK P (handlerX P pre u n)
  | 0 => fun _ _ _ _ _ h => h.elim
  | n + 1 => fun g args ats H k hk => by
    simp only [handlerX] at hk
    split at hk
    · rename_i h he
      exact hp g h he args ats H k hk
    · exact wpFn_call (handlerX_ok hmix hp hu n) hmix hu hk
theorem limC_of {g : FuncId} {lo hi e : Int} {n es : Nat} {cs : List Value} (h : e = limE lo hi cs) : limC g [.val (.int .i64 lo), .val (.int .i64 hi), .sl n es cs] [.val (.int .i64 e)] := h
theorem limC_out {g : FuncId} {lo hi e : Int} {n es : Nat} {cs : List Value} (h : Says limC g [.val (.int .i64 lo), .val (.int .i64 hi), .sl n es cs] [.val (.int .i64 e)]) : e = limE lo hi cs := h.out
theorem falseH_ok : HandlerOK P (fun _ _ _ _ _ => False) := fun _ _ _ _ _ h => h.elim
/-- A function whose loops are walked round by round. -/
theorem callS_walk {h : Handler} (hh : HandlerOK P h) (hmix : P.follows .mixedOrders = true) {u : Nat} (hu : u ≠ 0) {f : FuncId} {fn : Func} {c : Code} (hf : P.funcs[f]? = some fn) (hc : fn.body = some c) {args : List Value} {bs : Blocks} {K : Value → Blocks → Prop}
    (hk : wpFn P h (fun _ _ _ => False) u f args.toArray (heapOf bs) (stateK K)) : CallS P f args bs K := by
  intro w0 ρ w args' n g ha
  refine (wpFn_run (u := u) (b := false) hh hmix (fun h0 => absurd h0 hu) hf hc hk (fun h0 => absurd h0 hu) g n (by simpa using ha)).mono ?_
  rintro e w' ⟨v, H', ρ', v', hkv, rfl, hv, g', _⟩
  obtain ⟨v2, bs', ρ2, h1, h2, h3⟩ := stateK_out g' hv hkv
  exact ⟨v2, bs', ρ2, v', h1, rfl, h2, h3⟩
/-- The same, with data. -/
theorem con_walk {h : Handler} (hh : HandlerOK P h) (hmix : P.follows .mixedOrders = true) {u : Nat} (hu : u ≠ 0) {f : FuncId} {fn : Func} {c : Code} (hf : P.funcs[f]? = some fn) (hc : fn.body = some c) {ds rs : List D} (hcount : countV ds ≤ 400)
    (hk : ∀ caps, wpFn P h (fun _ _ _ => False) u f (layVals caps 500 ds).1.toArray (heapOf (layVals caps 500 ds).2) (dataK (· = rs))) : Con P f ds rs := by
  intro w args hr
  obtain ⟨caps, ρ, hst, g, ha⟩ := lay_gam hr hcount
  refine callsIn_wide.1 ((wpFn_run (u := u) (b := false) hh hmix (fun h0 => absurd h0 hu) hf hc (hk caps) (fun h0 => absurd h0 hu) g 0 (by simpa using ha)).mono ?_)
  rintro e w' ⟨v, H', ρ', v', hkv, rfl, hv, g', _⟩
  obtain ⟨vs, ds', u, rfl, h1, rfl⟩ := dataK_out g' hv hkv
  exact ⟨⟨vs, u, rfl, h1⟩, g'.below.below hst⟩
theorem callS_mono {f : FuncId} {args : List Value} {bs : Blocks} {K K' : Value → Blocks → Prop} (h : CallS P f args bs K) (hk : ∀ v b, K v b → K' v b) : CallS P f args bs K' := by
  intro w0 ρ w args' n g ha
  refine (h w0 ρ w args' n g ha).mono ?_
  rintro e w' ⟨v2, bs', ρ2, v', h1, h2, h3, h4⟩
  exact ⟨v2, bs', ρ2, v', hk _ _ h1, h2, h3, h4⟩
abbrev limBs (ti : TypeId) (cs : List Value) (lo hi : Int) : Blocks := [(900, .cells cs ti false 1), (901, .cells [.int .i64 lo] ti false 1), (902, .cells [.int .i64 hi] ti false 1)]
abbrev limArgs (n cap : Nat) : List Value := [.slice (some ⟨900, 0, none⟩) n cap, .pointer (some ⟨901, 0, none⟩), .pointer (some ⟨902, 0, none⟩)]
/-- What is left to show of the function that limit returns. -/
def limGoal (P : Program) (f : FuncId) (ti : TypeId) (n : Nat) (cs : List Value) (cap : Nat) (lo hi : Int) (K : Value → Blocks → Prop) : Prop :=
  wpFn P (fun _ _ _ _ _ => False) (fun _ _ _ => False) 6 f (limArgs n cap).toArray (heapOf (limBs ti cs lo hi)) (stateK K)
structure LimGood (P : Program) (f : FuncId) (ti : TypeId) : Prop where
  mix : P.follows .mixedOrders = true
  fn : ∃ fn c, P.funcs[f]? = some fn ∧ fn.body = some c
  one : ∀ cap lo hi x, limGoal P f ti 1 [.int .i64 x] cap lo hi (fun v b => v = .int .i64 (limE lo hi [.int .i64 x]) ∧ b = limBs ti [.int .i64 x] lo hi)
  two : ∀ cap lo hi x y, limGoal P f ti 2 [.int .i64 x, .int .i64 y] cap lo hi (fun v b => v = .int .i64 (limE lo hi [.int .i64 x, .int .i64 y]) ∧ b = limBs ti [.int .i64 x, .int .i64 y] lo hi)
  three : ∀ cap lo hi x y z, limGoal P f ti 3 [.int .i64 x, .int .i64 y, .int .i64 z] cap lo hi (fun v b => v = .int .i64 (limE lo hi [.int .i64 x, .int .i64 y, .int .i64 z]) ∧ b = limBs ti [.int .i64 x, .int .i64 y, .int .i64 z] lo hi)
  four : ∀ cap lo hi x y z u, limGoal P f ti 4 [.int .i64 x, .int .i64 y, .int .i64 z, .int .i64 u] cap lo hi (fun v b => v = .int .i64 (limE lo hi [.int .i64 x, .int .i64 y, .int .i64 z, .int .i64 u]) ∧ b = limBs ti [.int .i64 x, .int .i64 y, .int .i64 z, .int .i64 u] lo hi)
theorem lim_ok {f : FuncId} {ti : TypeId} (g : LimGood P f ti) {args : List Value} {bs : Blocks} {K : Value → Blocks → Prop} (hk : limAll ti args bs K) : CallS P f args bs K := by
  obtain ⟨fn, c, hf, hc⟩ := g.fn
  have run : ∀ {n : Nat} {cs : List Value} {cap : Nat} {lo hi : Int}, limGoal P f ti n cs cap lo hi (fun v b => v = .int .i64 (limE lo hi cs) ∧ b = limBs ti cs lo hi) → limOut lo hi cs (limBs ti cs lo hi) K → CallS P f (limArgs n cap) (limBs ti cs lo hi) K := by
    intro n cs cap lo hi h1 h2
    refine callS_mono (callS_walk falseH_ok g.mix (by decide) hf hc h1) ?_
    rintro v b ⟨rfl, rfl⟩
    obtain ⟨e, he, hK⟩ := h2
    rw [← limC_out he]; exact hK
  unfold limAll at hk
  split at hk
  · unfold limSpec at hk
    split at hk
    · rename_i e2
      split at hk
      · rename_i hc
        simp only [Bool.and_eq_true, beq_iff_eq] at hc
        obtain ⟨⟨⟨⟨⟨⟨⟨⟨⟨⟨⟨⟨⟨⟨⟨⟨rfl, rfl⟩, rfl⟩, rfl⟩, rfl⟩, rfl⟩, rfl⟩, rfl⟩, rfl⟩, rfl⟩, rfl⟩, rfl⟩, rfl⟩, rfl⟩, rfl⟩, hm⟩, hl⟩ := hc
        rw [e2]
        split at hk
        · subst hm; exact run (g.one _ _ _ _) hk
        · subst hm; exact run (g.two _ _ _ _ _) hk
        · subst hm; exact run (g.three _ _ _ _ _ _) hk
        · subst hm; exact run (g.four _ _ _ _ _ _ _) hk
        · exact hk.elim
      · exact hk.elim
    · exact hk.elim
  · exact hk.elim
end Go.Abs

/- Pairs of whole numbers as cells. -/
namespace Go.Abs
theorem bc_t {p : Prop} [Decidable p] {x y : Prop} (h : p) : bcase (decide p) x y = x := by rw [decide_eq_true h]; rfl
theorem bc_f {p : Prop} [Decidable p] {x y : Prop} (h : ¬ p) : bcase (decide p) x y = y := by rw [decide_eq_false h]; rfl
/-- pairs of whole numbers as cells -/
def vp : List (Int × Int) → List Value
  | [] => []
  | p :: r => .int .i64 p.1 :: .int .i64 p.2 :: vp r
@[simp] theorem vp_length : ∀ l : List (Int × Int), (vp l).length = l.length * 2
  | [] => rfl
  | p :: r => by simp only [vp, List.length_cons, vp_length r]; omega
theorem vp_drop : ∀ (l : List (Int × Int)) (i : Nat), (vp l).drop (i * 2) = vp (l.drop i)
  | l, 0 => by simp
  | [], i + 1 => by simp [vp]
  | p :: r, i + 1 => by
    rw [Nat.add_mul]
    simp only [vp, Nat.one_mul, List.drop_succ_cons]
    exact vp_drop r i
theorem vp_two (l : List (Int × Int)) (i : Nat) (h : i < l.length) : At (vp l) (0 + i * 2) 2 [.int .i64 l[i].1, .int .i64 l[i].2] := by
  refine ⟨by rw [vp_length]; omega, ?_⟩
  rw [Nat.zero_add, vp_drop, List.drop_eq_getElem_cons h]
  rfl
theorem vp_one (l : List (Int × Int)) (i : Nat) (h : i < l.length) : At (vp l) (0 + i * 2) 1 [.int .i64 l[i].1] := by
  refine ⟨by rw [vp_length]; omega, ?_⟩
  rw [Nat.zero_add, vp_drop, List.drop_eq_getElem_cons h]
  rfl
theorem vp_snd (l : List (Int × Int)) (i : Nat) (h : i < l.length) : At (vp l) (0 + i * 2 + 1) 1 [.int .i64 l[i].2] := by
  refine ⟨by rw [vp_length]; omega, ?_⟩
  rw [Nat.zero_add, ← List.drop_drop, vp_drop, List.drop_eq_getElem_cons h]
  rfl
theorem vp_whole (l : List (Int × Int)) : List.take (l.length * 2) (List.drop 0 (vp l)) = vp l := by simp [List.take_of_length_le]
theorem load2 {ps : List Value} {k : Nat} {a b : Int} (h : At ps k 2 [.int .i64 a, .int .i64 b]) : (∃ n5 : Int, ∃ n6 : Int, At ps k 2 [.int .i64 n5, .int .i64 n6] ∧ (Value.agg [.int .i64 n5, .int .i64 n6].toArray = Value.agg [.int .i64 a, .int .i64 b].toArray)) = True :=
  eq_true ⟨a, b, h, rfl⟩
theorem bc_n {a b : Int} {x y : Prop} (h : a ≠ b) : bcase (a != b) x y = x := by rw [show (a != b) = true by simpa using h]; rfl
/-- what is loaded is what is there -/
theorem at1 {l : List Value} {k : Nat} {a : Int} (h : At l k 1 [.int .i64 a]) {Q : Int → Prop} : (∃ n : Int, At l k 1 [.int .i64 n] ∧ Q n) = Q a := by
  apply propext
  constructor
  · rintro ⟨n, hn, hq⟩
    have e := hn.eq.symm.trans h.eq
    simp only [List.cons.injEq, Value.int.injEq, true_and, and_true] at e
    rw [← e]; exact hq
  · intro hq; exact ⟨a, h, hq⟩
theorem at2 {l : List Value} {k : Nat} {a b : Int} (h : At l k 2 [.int .i64 a, .int .i64 b]) {Q : Int → Int → Prop} : (∃ n : Int, ∃ m : Int, At l k 2 [.int .i64 n, .int .i64 m] ∧ Q n m) = Q a b := by
  apply propext
  constructor
  · rintro ⟨n, m, hn, hq⟩
    have e := hn.eq.symm.trans h.eq
    simp only [List.cons.injEq, Value.int.injEq, true_and, and_true] at e
    obtain ⟨rfl, rfl⟩ := e; exact hq
  · intro hq; exact ⟨a, b, h, hq⟩
theorem vp_sndA (l : List (Int × Int)) (i : Nat) (h : i < l.length) (b : Nat) : At (vp l) (Addr.off ⟨b, 0 + i * 2, none⟩ + 1) 1 [.int .i64 l[i].2] := vp_snd l i h
abbrev dI (n : Int) : D := .val (.int .i64 n)
/-- the first number that is not naught -/
def fst0 : List Int → Int
  | [] => 0
  | p :: r => if p = 0 then fst0 r else p
theorem fst0_two (a b : Int) : fst0 [a, b] = if a = 0 then b else a := by
  simp only [fst0]
  split
  · split
    · omega
    · rfl
  · rfl
end Go.Abs

/- The closure of within: whatever it is handed. -/
namespace Go.Proofs.G5b
open Go Go.Abs Go.Proofs
set_option maxRecDepth 100000
theorem mixed : Try.prog.follows .mixedOrders = true := by kernel_rfl
theorem witC_out {g : FuncId} {lo hi e r : Int} {n es : Nat} {cs : List Value} (h : Says witC g [.val (.int .i64 lo), .val (.int .i64 hi), .val (.int .i64 e), .sl n es cs] [.val (.int .i64 r)]) : r = witE lo hi e cs := h.out
theorem witC_of {lo hi e : Int} {n : Nat} {cs : List Value} : Says witC 0 [.val (.int .i64 lo), .val (.int .i64 hi), .val (.int .i64 e), .sl n 1 cs] [.val (.int .i64 (witE lo hi e cs))] := ⟨rfl⟩
abbrev WK (lo hi e : Int) (cs : List Value) (bs : Blocks) : Value → Blocks → Prop := fun v b => v = .int .i64 (witE lo hi e cs) ∧ b = bs
theorem wit1 (cap : Nat) (lo hi e x : Int) : wt1 cap lo hi e x (WK lo hi e [vI x] ((900, .cells [vI x] 3 false 1) :: wl lo hi e)) := by
  rw [wt1_text]; unfold WK
  repeat' refine bc_dec (fun _ => ?_) (fun _ => ?_)
  all_goals refine ⟨congrArg (Value.int .i64) ?_, rfl⟩
  all_goals (simp only [witE]; repeat' split)
  all_goals first | rfl | omega
theorem wit2 (cap : Nat) (lo hi e x y : Int) : wt2 cap lo hi e x y (WK lo hi e [vI x, vI y] ((900, .cells [vI x, vI y] 3 false 1) :: wl lo hi e)) := by
  rw [wt2_text]; unfold WK
  repeat' refine bc_dec (fun _ => ?_) (fun _ => ?_)
  all_goals refine ⟨congrArg (Value.int .i64) ?_, rfl⟩
  all_goals (simp only [witE]; repeat' split)
  all_goals first | rfl | omega
theorem wit3 (cap : Nat) (lo hi e x y z : Int) : wt3 cap lo hi e x y z (WK lo hi e [vI x, vI y, vI z] ((900, .cells [vI x, vI y, vI z] 3 false 1) :: wl lo hi e)) := by
  rw [wt3_text]; unfold WK
  repeat' refine bc_dec (fun _ => ?_) (fun _ => ?_)
  all_goals refine ⟨congrArg (Value.int .i64) ?_, rfl⟩
  all_goals (simp only [witE]; repeat' split)
  all_goals first | rfl | omega
theorem wit4 (cap : Nat) (lo hi e x y z u : Int) : wt4 cap lo hi e x y z u (WK lo hi e [vI x, vI y, vI z, vI u] ((900, .cells [vI x, vI y, vI z, vI u] 3 false 1) :: wl lo hi e)) := by
  rw [wt4_text]; unfold WK
  repeat' refine bc_dec (fun _ => ?_) (fun _ => ?_)
  all_goals refine ⟨congrArg (Value.int .i64) ?_, rfl⟩
  all_goals (simp only [witE]; repeat' split)
  all_goals first | rfl | omega
theorem wit5 (cap : Nat) (lo hi e x y z u v : Int) : wt5 cap lo hi e x y z u v (WK lo hi e [vI x, vI y, vI z, vI u, vI v] ((900, .cells [vI x, vI y, vI z, vI u, vI v] 3 false 1) :: wl lo hi e)) := by
  rw [wt5_text]; unfold WK
  repeat' refine bc_dec (fun _ => ?_) (fun _ => ?_)
  all_goals refine ⟨congrArg (Value.int .i64) ?_, rfl⟩
  all_goals (simp only [witE]; repeat' split)
  all_goals first | rfl | omega
theorem wit0 (lo hi e : Int) : wt0 lo hi e (fun v b => v = .int .i64 0 ∧ b = wm lo hi e) := by
  rw [wt0_text]; exact ⟨rfl, rfl⟩
theorem witE_drop {lo hi e : Int} (l : List Int) (i : Nat) (h : i < l.length) : witE lo hi e (vi (l.drop i)) = if l[i] < lo ∨ l[i] > hi then e else witE lo hi e (vi (l.drop (i + 1))) := by
  rw [List.drop_eq_getElem_cons h]; rfl
theorem witH (cap : Nat) (lo hi e : Int) (l : List Int) (hlen : l.length < 1000000000) : CallS Try.prog 66 [.slice (some ⟨500, 0, none⟩) l.length cap, P1 900 0, P1 901 0] ((500, .sym (vi l) false 1) :: wm lo hi e) (WK lo hi e (vi l) (wm lo hi e)) := by
  let inv : Nat → Prop := fun i => i ≤ l.length ∧ witE lo hi e (vi l) = witE lo hi e (vi (l.drop i))
  let st : Nat → Slots × Blocks := fun i => (sWH l.length cap i, bWH lo hi e (vi l))
  refine callS_ofG (L := fun _ s b => ∃ x, inv x ∧ st x = (s, b)) falseH_ok mixed Try.func66 rfl rfl (ids := [0]) (by kernel_rfl) rfl ?_ (fun id hid => ?_)
  · show wtH _ lo hi e l.length cap (vi l) _
    rw [wtH_text]
    exact ⟨0, ⟨Nat.zero_le _, rfl⟩, rfl⟩
  · obtain rfl := List.mem_singleton.1 hid
    refine ⟨_, st, inv, fun i => l.length - i, ⟨fun s b h => h, by kernel_rfl, ?_⟩⟩
    rintro i ⟨hi', hm⟩
    show rWH _ lo hi e l.length cap (vi l) (i : Int) _ _ _
    rw [rWH_text]
    refine bc_dec (fun h => ?_) (fun h => ?_)
    · have hi2 : i < l.length := by omega
      rw [witE_drop l i hi2] at hm
      simp only [bc_t h, bc_t (show (0 : Int) ≤ (i : Int) by omega), Int.toNat_natCast, at1 (vi_at l i hi2)]
      refine bc_dec (fun h1 => ?_) (fun h1 => bc_dec (fun h2 => ?_) (fun h2 => ?_))
      · rw [if_pos (.inl h1)] at hm; exact ⟨by rw [hm], rfl⟩
      · rw [if_pos (.inr h2)] at hm; exact ⟨by rw [hm], rfl⟩
      · rw [if_neg (by omega)] at hm
        refine ⟨i + 1, ⟨hi2, hm⟩, by omega, ?_⟩
        rw [w64 (by omega) (by omega)]; rfl
    · show (if 0 = 0 then _ else _)
      rw [if_pos rfl]
      show nWH _ lo hi e _
      rw [nWH_text]
      have : i = l.length := by omega
      rw [this, List.drop_length] at hm
      exact ⟨by rw [hm]; rfl, rfl⟩
theorem witO (cap : Nat) (lo hi e : Int) (l : List Int) (hlen : l.length < 1000000000) : CallS Try.prog 66 [.slice (some ⟨900, 0, none⟩) l.length cap, P1 901 0, P1 902 0] ((900, .sym (vi l) true 1) :: wl lo hi e) (WK lo hi e (vi l) ((900, .sym (vi l) true 1) :: wl lo hi e)) := by
  let inv : Nat → Prop := fun i => i ≤ l.length ∧ witE lo hi e (vi l) = witE lo hi e (vi (l.drop i))
  let st : Nat → Slots × Blocks := fun i => (sWO l.length cap i, bWO lo hi e (vi l))
  refine callS_ofG (L := fun _ s b => ∃ x, inv x ∧ st x = (s, b)) falseH_ok mixed Try.func66 rfl rfl (ids := [0]) (by kernel_rfl) rfl ?_ (fun id hid => ?_)
  · show wtO _ lo hi e l.length cap (vi l) _
    rw [wtO_text]
    exact ⟨0, ⟨Nat.zero_le _, rfl⟩, rfl⟩
  · obtain rfl := List.mem_singleton.1 hid
    refine ⟨_, st, inv, fun i => l.length - i, ⟨fun s b h => h, by kernel_rfl, ?_⟩⟩
    rintro i ⟨hi', hm⟩
    show rWO _ lo hi e l.length cap (vi l) (i : Int) _ _ _
    rw [rWO_text]
    refine bc_dec (fun h => ?_) (fun h => ?_)
    · have hi2 : i < l.length := by omega
      rw [witE_drop l i hi2] at hm
      simp only [bc_t h, bc_t (show (0 : Int) ≤ (i : Int) by omega), Int.toNat_natCast, at1 (vi_at l i hi2)]
      refine bc_dec (fun h1 => ?_) (fun h1 => bc_dec (fun h2 => ?_) (fun h2 => ?_))
      · rw [if_pos (.inl h1)] at hm; exact ⟨by rw [hm], rfl⟩
      · rw [if_pos (.inr h2)] at hm; exact ⟨by rw [hm], rfl⟩
      · rw [if_neg (by omega)] at hm
        refine ⟨i + 1, ⟨hi2, hm⟩, by omega, ?_⟩
        rw [w64 (by omega) (by omega)]; rfl
    · show (if 0 = 0 then _ else _)
      rw [if_pos rfl]
      show nWO _ lo hi e (vi l) _
      rw [nWO_text]
      have : i = l.length := by omega
      rw [this, List.drop_length] at hm
      exact ⟨by rw [hm]; rfl, rfl⟩
theorem wit_run {args : List Value} {bs : Blocks} {lo hi e : Int} {n : Nat} {cs : List Value} {bs' : Blocks} {K : Value → Blocks → Prop} (h1 : CallS Try.prog 66 args bs (WK lo hi e cs bs')) (h2 : witOut lo hi e n cs bs' K) : CallS Try.prog 66 args bs K := by
  refine callS_mono h1 ?_
  rintro v b ⟨rfl, rfl⟩
  obtain ⟨r, hr, hK⟩ := h2
  rw [← witC_out hr]; exact hK
theorem wit_ok {args : List Value} {bs : Blocks} {K : Value → Blocks → Prop} (hk : witAll 3 56 30 args bs K) : CallS Try.prog 66 args bs K := by
  have wk : ∀ {args : List Value} {bs : Blocks} {K : Value → Blocks → Prop}, wpFn Try.prog hF (fun _ _ _ => False) 6 66 args.toArray (heapOf bs) (stateK K) → CallS Try.prog 66 args bs K := fun h => callS_walk falseH_ok mixed (by decide) Try.func66 rfl h
  unfold witAll at hk
  split at hk
  · split at hk
    · rename_i hc
      simp only [Bool.and_eq_true, beq_iff_eq] at hc
      obtain ⟨⟨⟨⟨⟨⟨⟨⟨rfl, rfl⟩, rfl⟩, rfl⟩, rfl⟩, rfl⟩, rfl⟩, rfl⟩, rfl⟩ := hc
      split at hk
      · split at hk
        · rename_i hd
          simp only [Bool.and_eq_true, beq_iff_eq] at hd
          obtain ⟨⟨⟨⟨⟨⟨rfl, rfl⟩, rfl⟩, rfl⟩, rfl⟩, rfl⟩, hm⟩ := hd
          split at hk
          · subst hm; exact wit_run (wk (wit1 _ _ _ _ _)) hk
          · subst hm; exact wit_run (wk (wit2 _ _ _ _ _ _)) hk
          · subst hm; exact wit_run (wk (wit3 _ _ _ _ _ _ _)) hk
          · subst hm; exact wit_run (wk (wit4 _ _ _ _ _ _ _ _)) hk
          · subst hm; exact wit_run (wk (wit5 _ _ _ _ _ _ _ _ _)) hk
          · exact hk.elim
        · exact hk.elim
      · split at hk
        · rename_i hd
          simp only [Bool.and_eq_true, beq_iff_eq] at hd
          obtain ⟨⟨⟨⟨rfl, rfl⟩, rfl⟩, rfl⟩, rfl⟩ := hd
          obtain ⟨l, rfl, rfl, hl, hk⟩ := hk
          exact wit_run (witH _ _ _ _ l hl) hk
        · split at hk
          · rename_i hd
            simp only [Bool.and_eq_true, beq_iff_eq] at hd
            obtain ⟨⟨⟨⟨rfl, rfl⟩, rfl⟩, rfl⟩, rfl⟩ := hd
            obtain ⟨l, rfl, rfl, hl, hk⟩ := hk
            exact wit_run (witO _ _ _ _ l hl) hk
          · exact hk.elim
      · exact hk.elim
    · exact hk.elim
  · split at hk
    · rename_i hc
      simp only [Bool.and_eq_true, beq_iff_eq] at hc
      obtain ⟨⟨⟨⟨⟨⟨⟨⟨⟨rfl, rfl⟩, rfl⟩, rfl⟩, rfl⟩, rfl⟩, rfl⟩, rfl⟩, rfl⟩, rfl⟩ := hc
      refine callS_mono (wk (wit0 _ _ _)) ?_
      rintro v b ⟨rfl, rfl⟩
      exact hk
    · exact hk.elim
  · exact hk.elim
end Go.Proofs.G5b

/- What is left to show of each function, written out; the kernel reckons it. -/
namespace Go.Proofs.G5b
open Go Go.Abs Go.Proofs
set_option maxRecDepth 100000
set_option linter.unusedVariables false
abbrev S500 (n cap : Nat) : Value := .slice (some ⟨500, 0, none⟩) n cap
abbrev S501 (n cap : Nat) : Value := .slice (some ⟨501, 0, none⟩) n cap
abbrev Q500 (l : List Value) : Nat × AObj := (500, .sym l false 1)
abbrev Q501 (l : List Value) : Nat × AObj := (501, .sym l false 1)
abbrev T500 (l : List Value) : Nat × AObj := (500, .sym l false 2)
abbrev vA (a b c d : Int) : Value := .agg #[vI a, vI b, vI c, vI d]
def preG (C : Ct) : FuncId → Option Handler := fun g => if g == 66 then some (stateH (witAll 3 56 30)) else if g == 20 then some (fixH C copyInts) else if [7, 37, 38, 34, 64, 62, 79, 999999, 999999, 31, 999999, 999999, 999999, 15, 26, 999999, 999999, 999999, 999999, 63].contains g then some (saidH Try.prog C) else none
abbrev hG (C : Ct) : Handler := handlerX Try.prog (preG C) 12 6
abbrev hE (C : Ct) : Handler := handlerX Try.prog (fun _ => none) 12 6
def gFE (C : Ct) (L : AtLoop) (n cap : Nat) (l : List Value) (k : List D → Prop) : Prop := wpFn Try.prog (hG C) L 0 37 #[S500 n cap] (heapOf [Q500 l]) (dataK k)
theorem gFE_text (C : Ct) (L : AtLoop) (n : Nat) (cap : Nat) (l : List Go.Value) (k : List D → Prop) : gFE C L n cap l k =
 (L 0 [(Prod.mk 5 (Go.Value.slice (Option.some (Go.Addr.mk 500 0 Option.none)) (n) (cap))), (Prod.mk 6 (Go.Value.int Go.IntKind.i64 ((↑n : Int)))), (Prod.mk 7 (Go.Value.int Go.IntKind.i64 (0 : Int)))] [(Prod.mk 500 (AObj.sym (l) false 1))]) := by kernel_rfl
def gCS (C : Ct) (L : AtLoop) (a : Int) (n cap : Nat) (l : List Value) (k : List D → Prop) : Prop := wpFn Try.prog (hG C) L 0 38 #[vI a, S500 n cap] (heapOf [Q500 l]) (dataK k)
theorem gCS_text (C : Ct) (L : AtLoop) (a : Int) (n : Nat) (cap : Nat) (l : List Go.Value) (k : List D → Prop) : gCS C L a n cap l k =
 (L 0 [(Prod.mk 0 (Go.Value.int Go.IntKind.i64 (a))), (Prod.mk 7 (Go.Value.slice (Option.some (Go.Addr.mk 500 0 Option.none)) (n) (cap))), (Prod.mk 8 (Go.Value.int Go.IntKind.i64 ((↑n : Int)))), (Prod.mk 9 (Go.Value.int Go.IntKind.i64 (0 : Int)))] [(Prod.mk 500 (AObj.sym (l) false 1))]) := by kernel_rfl
def gCC (C : Ct) (L : AtLoop) (a b : Int) (k : List D → Prop) : Prop := wpFn Try.prog (hG C) L 0 34 #[vI a, vI b] (heapOf []) (dataK k)
theorem gCC_text (C : Ct) (L : AtLoop) (a : Int) (b : Int) (k : List D → Prop) : gCC C L a b k =
 (bcase (a == 0)
 (k [(D.val (Go.Value.int Go.IntKind.i64 (10 : Int)))])
 (bcase (decide (a > b))
 (k [(D.val (Go.Value.int Go.IntKind.i64 (8 : Int)))])
 (k [(D.val (Go.Value.int Go.IntKind.i64 (0 : Int)))]))) := by kernel_rfl
def gWi (C : Ct) (L : AtLoop) (a b c : Int) (k : List D → Prop) : Prop := wpFn Try.prog (hG C) L 0 26 #[vI a, vI b, vI c] (heapOf []) (dataK k)
theorem gWi_text (C : Ct) (L : AtLoop) (a : Int) (b : Int) (c : Int) (k : List D → Prop) : gWi C L a b c k =
 (bcase (decide (b ≤ a))
 (bcase (decide (a ≤ c))
 (k [(D.val (Go.Value.bool true))])
 (k [(D.val (Go.Value.bool false))]))
 (k [(D.val (Go.Value.bool false))])) := by kernel_rfl
def gSi (C : Ct) (L : AtLoop) (a : Int) (k : List D → Prop) : Prop := wpFn Try.prog (hG C) L 0 999999 #[vI a] (heapOf []) (dataK k)
theorem gSi_text (C : Ct) (L : AtLoop) (a : Int) (k : List D → Prop) : gSi C L a k =
 False := by kernel_rfl
def gTk (C : Ct) (L : AtLoop) (a b c d y : Int) (k : List D → Prop) : Prop := wpFn Try.prog (hG C) L 0 64 #[vA a b c d, vI y] (heapOf []) (dataK k)
theorem gTk_text (C : Ct) (L : AtLoop) (a : Int) (b : Int) (c : Int) (d : Int) (y : Int) (k : List D → Prop) : gTk C L a b c d y k =
 (bcase (decide ((if Go.IntKind.wrap Go.IntKind.i64 (0 - y) > y then Go.IntKind.wrap Go.IntKind.i64 (0 - y) else y) ≤ d))
 (k [(D.val (Go.Value.int Go.IntKind.i64 (0 : Int)))])
 (bcase (c != 0)
 (k [(D.val (Go.Value.int Go.IntKind.i64 (Go.IntKind.wrap Go.IntKind.i64 (Int.tdiv (Go.IntKind.wrap Go.IntKind.i64 (b * y)) c))))])
 False)) := by kernel_rfl
def gCM (C : Ct) (L : AtLoop) (a b c d : Int) (k : List D → Prop) : Prop := wpFn Try.prog (hG C) L 0 79 #[vA a b c d] (heapOf []) (dataK k)
theorem gCM_text (C : Ct) (L : AtLoop) (a : Int) (b : Int) (c : Int) (d : Int) (k : List D → Prop) : gCM C L a b c d k =
 (((((Go.Value.slice (Option.some (Go.Addr.mk 1004 0 Option.none)) 1 1) = (Go.Value.slice (Option.some (Go.Addr.mk 1004 0 Option.none)) 1 1)) ∧
 ((Option.some (AObj.cells [(Go.Value.int Go.IntKind.i64 (d))] 3 false 1)) = (Option.some (AObj.cells [(Go.Value.int Go.IntKind.i64 (d))] 3 false 1)))) ∧
 (((Go.Value.int Go.IntKind.i64 (d)) = (Go.Value.int Go.IntKind.i64 (d))) ∧
 (((Go.Value.pointer (Option.some (Go.Addr.mk 1000 3 Option.none))) = (Go.Value.pointer (Option.some (Go.Addr.mk 1000 3 Option.none)))) ∧
 ((((Go.Value.slice (Option.some (Go.Addr.mk 1003 0 Option.none)) 1 1) = (Go.Value.slice (Option.some (Go.Addr.mk 1003 0 Option.none)) 1 1)) ∧
 ((Option.some (AObj.cells [(Go.Value.int Go.IntKind.i64 (c))] 3 false 1)) = (Option.some (AObj.cells [(Go.Value.int Go.IntKind.i64 (c))] 3 false 1)))) ∧
 (((Go.Value.int Go.IntKind.i64 (c)) = (Go.Value.int Go.IntKind.i64 (c))) ∧
 (((Go.Value.pointer (Option.some (Go.Addr.mk 1000 2 Option.none))) = (Go.Value.pointer (Option.some (Go.Addr.mk 1000 2 Option.none)))) ∧
 ((((Go.Value.slice (Option.some (Go.Addr.mk 1002 0 Option.none)) 1 1) = (Go.Value.slice (Option.some (Go.Addr.mk 1002 0 Option.none)) 1 1)) ∧
 ((Option.some (AObj.cells [(Go.Value.int Go.IntKind.i64 (b))] 3 false 1)) = (Option.some (AObj.cells [(Go.Value.int Go.IntKind.i64 (b))] 3 false 1)))) ∧
 (((Go.Value.int Go.IntKind.i64 (b)) = (Go.Value.int Go.IntKind.i64 (b))) ∧
 (((Go.Value.pointer (Option.some (Go.Addr.mk 1000 1 Option.none))) = (Go.Value.pointer (Option.some (Go.Addr.mk 1000 1 Option.none)))) ∧
 ((((Go.Value.slice (Option.some (Go.Addr.mk 1001 0 Option.none)) 1 1) = (Go.Value.slice (Option.some (Go.Addr.mk 1001 0 Option.none)) 1 1)) ∧
 ((Option.some (AObj.cells [(Go.Value.int Go.IntKind.i64 (a))] 3 false 1)) = (Option.some (AObj.cells [(Go.Value.int Go.IntKind.i64 (a))] 3 false 1)))) ∧
 (((Go.Value.int Go.IntKind.i64 (a)) = (Go.Value.int Go.IntKind.i64 (a))) ∧
 (((Go.Value.pointer (Option.some (Go.Addr.mk 1000 0 Option.none))) = (Go.Value.pointer (Option.some (Go.Addr.mk 1000 0 Option.none)))) ∧
 True)))))))))))) ∧
 (((((Go.Value.slice (Option.some (Go.Addr.mk 1004 0 Option.none)) 1 1) = (Go.Value.slice (Option.some (Go.Addr.mk 1004 0 Option.none)) 1 1)) ∧
 ((Option.some (AObj.cells [(Go.Value.int Go.IntKind.i64 (d))] 3 false 1)) = (Option.some (AObj.cells [(Go.Value.int Go.IntKind.i64 (d))] 3 false 1)))) ∧
 (((Go.Value.int Go.IntKind.i64 (d)) = (Go.Value.int Go.IntKind.i64 (d))) ∧
 (((Go.Value.pointer (Option.some (Go.Addr.mk 1000 3 Option.none))) = (Go.Value.pointer (Option.some (Go.Addr.mk 1000 3 Option.none)))) ∧
 ((((Go.Value.slice (Option.some (Go.Addr.mk 1003 0 Option.none)) 1 1) = (Go.Value.slice (Option.some (Go.Addr.mk 1003 0 Option.none)) 1 1)) ∧
 ((Option.some (AObj.cells [(Go.Value.int Go.IntKind.i64 (c))] 3 false 1)) = (Option.some (AObj.cells [(Go.Value.int Go.IntKind.i64 (c))] 3 false 1)))) ∧
 (((Go.Value.int Go.IntKind.i64 (c)) = (Go.Value.int Go.IntKind.i64 (c))) ∧
 (((Go.Value.pointer (Option.some (Go.Addr.mk 1000 2 Option.none))) = (Go.Value.pointer (Option.some (Go.Addr.mk 1000 2 Option.none)))) ∧
 ((((Go.Value.slice (Option.some (Go.Addr.mk 1002 0 Option.none)) 1 1) = (Go.Value.slice (Option.some (Go.Addr.mk 1002 0 Option.none)) 1 1)) ∧
 ((Option.some (AObj.cells [(Go.Value.int Go.IntKind.i64 (b))] 3 false 1)) = (Option.some (AObj.cells [(Go.Value.int Go.IntKind.i64 (b))] 3 false 1)))) ∧
 (((Go.Value.int Go.IntKind.i64 (b)) = (Go.Value.int Go.IntKind.i64 (b))) ∧
 (((Go.Value.pointer (Option.some (Go.Addr.mk 1000 1 Option.none))) = (Go.Value.pointer (Option.some (Go.Addr.mk 1000 1 Option.none)))) ∧
 ((((Go.Value.slice (Option.some (Go.Addr.mk 1001 0 Option.none)) 1 1) = (Go.Value.slice (Option.some (Go.Addr.mk 1001 0 Option.none)) 1 1)) ∧
 ((Option.some (AObj.cells [(Go.Value.int Go.IntKind.i64 (a))] 3 false 1)) = (Option.some (AObj.cells [(Go.Value.int Go.IntKind.i64 (a))] 3 false 1)))) ∧
 (((Go.Value.int Go.IntKind.i64 (a)) = (Go.Value.int Go.IntKind.i64 (a))) ∧
 (((Go.Value.pointer (Option.some (Go.Addr.mk 1000 0 Option.none))) = (Go.Value.pointer (Option.some (Go.Addr.mk 1000 0 Option.none)))) ∧
 True)))))))))))) ∧
 (∃ r1 : Int,
 ((Says witC 0 [(D.val (Go.Value.int Go.IntKind.i64 (0 : Int))), (D.val (Go.Value.int Go.IntKind.i64 (10 : Int))), (D.val (Go.Value.int Go.IntKind.i64 (2 : Int))), (D.sl 1 1 [(Go.Value.int Go.IntKind.i64 (a))])] [(D.val (Go.Value.int Go.IntKind.i64 (r1)))]) ∧
 (((((Go.Value.slice (Option.some (Go.Addr.mk 1004 0 Option.none)) 1 1) = (Go.Value.slice (Option.some (Go.Addr.mk 1004 0 Option.none)) 1 1)) ∧
 ((Option.some (AObj.cells [(Go.Value.int Go.IntKind.i64 (d))] 3 false 1)) = (Option.some (AObj.cells [(Go.Value.int Go.IntKind.i64 (d))] 3 false 1)))) ∧
 (((Go.Value.int Go.IntKind.i64 (d)) = (Go.Value.int Go.IntKind.i64 (d))) ∧
 (((Go.Value.pointer (Option.some (Go.Addr.mk 1000 3 Option.none))) = (Go.Value.pointer (Option.some (Go.Addr.mk 1000 3 Option.none)))) ∧
 ((((Go.Value.slice (Option.some (Go.Addr.mk 1003 0 Option.none)) 1 1) = (Go.Value.slice (Option.some (Go.Addr.mk 1003 0 Option.none)) 1 1)) ∧
 ((Option.some (AObj.cells [(Go.Value.int Go.IntKind.i64 (c))] 3 false 1)) = (Option.some (AObj.cells [(Go.Value.int Go.IntKind.i64 (c))] 3 false 1)))) ∧
 (((Go.Value.int Go.IntKind.i64 (c)) = (Go.Value.int Go.IntKind.i64 (c))) ∧
 (((Go.Value.pointer (Option.some (Go.Addr.mk 1000 2 Option.none))) = (Go.Value.pointer (Option.some (Go.Addr.mk 1000 2 Option.none)))) ∧
 ((((Go.Value.slice (Option.some (Go.Addr.mk 1002 0 Option.none)) 1 1) = (Go.Value.slice (Option.some (Go.Addr.mk 1002 0 Option.none)) 1 1)) ∧
 ((Option.some (AObj.cells [(Go.Value.int Go.IntKind.i64 (b))] 3 false 1)) = (Option.some (AObj.cells [(Go.Value.int Go.IntKind.i64 (b))] 3 false 1)))) ∧
 (((Go.Value.int Go.IntKind.i64 (b)) = (Go.Value.int Go.IntKind.i64 (b))) ∧
 (((Go.Value.pointer (Option.some (Go.Addr.mk 1000 1 Option.none))) = (Go.Value.pointer (Option.some (Go.Addr.mk 1000 1 Option.none)))) ∧
 (((Go.Value.int Go.IntKind.i64 (a)) = (Go.Value.int Go.IntKind.i64 (a))) ∧
 (((Go.Value.pointer (Option.some (Go.Addr.mk 1000 0 Option.none))) = (Go.Value.pointer (Option.some (Go.Addr.mk 1000 0 Option.none)))) ∧
 True))))))))))) ∧
 (((((Go.Value.slice (Option.some (Go.Addr.mk 1004 0 Option.none)) 1 1) = (Go.Value.slice (Option.some (Go.Addr.mk 1004 0 Option.none)) 1 1)) ∧
 ((Option.some (AObj.cells [(Go.Value.int Go.IntKind.i64 (d))] 3 false 1)) = (Option.some (AObj.cells [(Go.Value.int Go.IntKind.i64 (d))] 3 false 1)))) ∧
 (((Go.Value.int Go.IntKind.i64 (d)) = (Go.Value.int Go.IntKind.i64 (d))) ∧
 (((Go.Value.pointer (Option.some (Go.Addr.mk 1000 3 Option.none))) = (Go.Value.pointer (Option.some (Go.Addr.mk 1000 3 Option.none)))) ∧
 ((((Go.Value.slice (Option.some (Go.Addr.mk 1003 0 Option.none)) 1 1) = (Go.Value.slice (Option.some (Go.Addr.mk 1003 0 Option.none)) 1 1)) ∧
 ((Option.some (AObj.cells [(Go.Value.int Go.IntKind.i64 (c))] 3 false 1)) = (Option.some (AObj.cells [(Go.Value.int Go.IntKind.i64 (c))] 3 false 1)))) ∧
 (((Go.Value.int Go.IntKind.i64 (c)) = (Go.Value.int Go.IntKind.i64 (c))) ∧
 (((Go.Value.pointer (Option.some (Go.Addr.mk 1000 2 Option.none))) = (Go.Value.pointer (Option.some (Go.Addr.mk 1000 2 Option.none)))) ∧
 ((((Go.Value.slice (Option.some (Go.Addr.mk 1002 0 Option.none)) 1 1) = (Go.Value.slice (Option.some (Go.Addr.mk 1002 0 Option.none)) 1 1)) ∧
 ((Option.some (AObj.cells [(Go.Value.int Go.IntKind.i64 (b))] 3 false 1)) = (Option.some (AObj.cells [(Go.Value.int Go.IntKind.i64 (b))] 3 false 1)))) ∧
 (((Go.Value.int Go.IntKind.i64 (b)) = (Go.Value.int Go.IntKind.i64 (b))) ∧
 (((Go.Value.pointer (Option.some (Go.Addr.mk 1000 1 Option.none))) = (Go.Value.pointer (Option.some (Go.Addr.mk 1000 1 Option.none)))) ∧
 (((Go.Value.int Go.IntKind.i64 (a)) = (Go.Value.int Go.IntKind.i64 (a))) ∧
 (((Go.Value.pointer (Option.some (Go.Addr.mk 1000 0 Option.none))) = (Go.Value.pointer (Option.some (Go.Addr.mk 1000 0 Option.none)))) ∧
 True))))))))))) ∧
 (∃ r2 : Int,
 ((Says witC 0 [(D.val (Go.Value.int Go.IntKind.i64 (0 : Int))), (D.val (Go.Value.int Go.IntKind.i64 (100 : Int))), (D.val (Go.Value.int Go.IntKind.i64 (2 : Int))), (D.sl 1 1 [(Go.Value.int Go.IntKind.i64 (b))])] [(D.val (Go.Value.int Go.IntKind.i64 (r2)))]) ∧
 (((((Go.Value.slice (Option.some (Go.Addr.mk 1004 0 Option.none)) 1 1) = (Go.Value.slice (Option.some (Go.Addr.mk 1004 0 Option.none)) 1 1)) ∧
 ((Option.some (AObj.cells [(Go.Value.int Go.IntKind.i64 (d))] 3 false 1)) = (Option.some (AObj.cells [(Go.Value.int Go.IntKind.i64 (d))] 3 false 1)))) ∧
 (((Go.Value.int Go.IntKind.i64 (d)) = (Go.Value.int Go.IntKind.i64 (d))) ∧
 (((Go.Value.pointer (Option.some (Go.Addr.mk 1000 3 Option.none))) = (Go.Value.pointer (Option.some (Go.Addr.mk 1000 3 Option.none)))) ∧
 ((((Go.Value.slice (Option.some (Go.Addr.mk 1003 0 Option.none)) 1 1) = (Go.Value.slice (Option.some (Go.Addr.mk 1003 0 Option.none)) 1 1)) ∧
 ((Option.some (AObj.cells [(Go.Value.int Go.IntKind.i64 (c))] 3 false 1)) = (Option.some (AObj.cells [(Go.Value.int Go.IntKind.i64 (c))] 3 false 1)))) ∧
 (((Go.Value.int Go.IntKind.i64 (c)) = (Go.Value.int Go.IntKind.i64 (c))) ∧
 (((Go.Value.pointer (Option.some (Go.Addr.mk 1000 2 Option.none))) = (Go.Value.pointer (Option.some (Go.Addr.mk 1000 2 Option.none)))) ∧
 (((Go.Value.int Go.IntKind.i64 (b)) = (Go.Value.int Go.IntKind.i64 (b))) ∧
 (((Go.Value.pointer (Option.some (Go.Addr.mk 1000 1 Option.none))) = (Go.Value.pointer (Option.some (Go.Addr.mk 1000 1 Option.none)))) ∧
 (((Go.Value.int Go.IntKind.i64 (a)) = (Go.Value.int Go.IntKind.i64 (a))) ∧
 (((Go.Value.pointer (Option.some (Go.Addr.mk 1000 0 Option.none))) = (Go.Value.pointer (Option.some (Go.Addr.mk 1000 0 Option.none)))) ∧
 True)))))))))) ∧
 (((((Go.Value.slice (Option.some (Go.Addr.mk 1004 0 Option.none)) 1 1) = (Go.Value.slice (Option.some (Go.Addr.mk 1004 0 Option.none)) 1 1)) ∧
 ((Option.some (AObj.cells [(Go.Value.int Go.IntKind.i64 (d))] 3 false 1)) = (Option.some (AObj.cells [(Go.Value.int Go.IntKind.i64 (d))] 3 false 1)))) ∧
 (((Go.Value.int Go.IntKind.i64 (d)) = (Go.Value.int Go.IntKind.i64 (d))) ∧
 (((Go.Value.pointer (Option.some (Go.Addr.mk 1000 3 Option.none))) = (Go.Value.pointer (Option.some (Go.Addr.mk 1000 3 Option.none)))) ∧
 ((((Go.Value.slice (Option.some (Go.Addr.mk 1003 0 Option.none)) 1 1) = (Go.Value.slice (Option.some (Go.Addr.mk 1003 0 Option.none)) 1 1)) ∧
 ((Option.some (AObj.cells [(Go.Value.int Go.IntKind.i64 (c))] 3 false 1)) = (Option.some (AObj.cells [(Go.Value.int Go.IntKind.i64 (c))] 3 false 1)))) ∧
 (((Go.Value.int Go.IntKind.i64 (c)) = (Go.Value.int Go.IntKind.i64 (c))) ∧
 (((Go.Value.pointer (Option.some (Go.Addr.mk 1000 2 Option.none))) = (Go.Value.pointer (Option.some (Go.Addr.mk 1000 2 Option.none)))) ∧
 (((Go.Value.int Go.IntKind.i64 (b)) = (Go.Value.int Go.IntKind.i64 (b))) ∧
 (((Go.Value.pointer (Option.some (Go.Addr.mk 1000 1 Option.none))) = (Go.Value.pointer (Option.some (Go.Addr.mk 1000 1 Option.none)))) ∧
 (((Go.Value.int Go.IntKind.i64 (a)) = (Go.Value.int Go.IntKind.i64 (a))) ∧
 (((Go.Value.pointer (Option.some (Go.Addr.mk 1000 0 Option.none))) = (Go.Value.pointer (Option.some (Go.Addr.mk 1000 0 Option.none)))) ∧
 True)))))))))) ∧
 (∃ r3 : Int,
 ((Says witC 0 [(D.val (Go.Value.int Go.IntKind.i64 (1 : Int))), (D.val (Go.Value.int Go.IntKind.i64 (100 : Int))), (D.val (Go.Value.int Go.IntKind.i64 (2 : Int))), (D.sl 1 1 [(Go.Value.int Go.IntKind.i64 (c))])] [(D.val (Go.Value.int Go.IntKind.i64 (r3)))]) ∧
 (((((Go.Value.slice (Option.some (Go.Addr.mk 1004 0 Option.none)) 1 1) = (Go.Value.slice (Option.some (Go.Addr.mk 1004 0 Option.none)) 1 1)) ∧
 ((Option.some (AObj.cells [(Go.Value.int Go.IntKind.i64 (d))] 3 false 1)) = (Option.some (AObj.cells [(Go.Value.int Go.IntKind.i64 (d))] 3 false 1)))) ∧
 (((Go.Value.int Go.IntKind.i64 (d)) = (Go.Value.int Go.IntKind.i64 (d))) ∧
 (((Go.Value.pointer (Option.some (Go.Addr.mk 1000 3 Option.none))) = (Go.Value.pointer (Option.some (Go.Addr.mk 1000 3 Option.none)))) ∧
 (((Go.Value.int Go.IntKind.i64 (c)) = (Go.Value.int Go.IntKind.i64 (c))) ∧
 (((Go.Value.pointer (Option.some (Go.Addr.mk 1000 2 Option.none))) = (Go.Value.pointer (Option.some (Go.Addr.mk 1000 2 Option.none)))) ∧
 (((Go.Value.int Go.IntKind.i64 (b)) = (Go.Value.int Go.IntKind.i64 (b))) ∧
 (((Go.Value.pointer (Option.some (Go.Addr.mk 1000 1 Option.none))) = (Go.Value.pointer (Option.some (Go.Addr.mk 1000 1 Option.none)))) ∧
 (((Go.Value.int Go.IntKind.i64 (a)) = (Go.Value.int Go.IntKind.i64 (a))) ∧
 (((Go.Value.pointer (Option.some (Go.Addr.mk 1000 0 Option.none))) = (Go.Value.pointer (Option.some (Go.Addr.mk 1000 0 Option.none)))) ∧
 True))))))))) ∧
 (((((Go.Value.slice (Option.some (Go.Addr.mk 1004 0 Option.none)) 1 1) = (Go.Value.slice (Option.some (Go.Addr.mk 1004 0 Option.none)) 1 1)) ∧
 ((Option.some (AObj.cells [(Go.Value.int Go.IntKind.i64 (d))] 3 false 1)) = (Option.some (AObj.cells [(Go.Value.int Go.IntKind.i64 (d))] 3 false 1)))) ∧
 (((Go.Value.int Go.IntKind.i64 (d)) = (Go.Value.int Go.IntKind.i64 (d))) ∧
 (((Go.Value.pointer (Option.some (Go.Addr.mk 1000 3 Option.none))) = (Go.Value.pointer (Option.some (Go.Addr.mk 1000 3 Option.none)))) ∧
 (((Go.Value.int Go.IntKind.i64 (c)) = (Go.Value.int Go.IntKind.i64 (c))) ∧
 (((Go.Value.pointer (Option.some (Go.Addr.mk 1000 2 Option.none))) = (Go.Value.pointer (Option.some (Go.Addr.mk 1000 2 Option.none)))) ∧
 (((Go.Value.int Go.IntKind.i64 (b)) = (Go.Value.int Go.IntKind.i64 (b))) ∧
 (((Go.Value.pointer (Option.some (Go.Addr.mk 1000 1 Option.none))) = (Go.Value.pointer (Option.some (Go.Addr.mk 1000 1 Option.none)))) ∧
 (((Go.Value.int Go.IntKind.i64 (a)) = (Go.Value.int Go.IntKind.i64 (a))) ∧
 (((Go.Value.pointer (Option.some (Go.Addr.mk 1000 0 Option.none))) = (Go.Value.pointer (Option.some (Go.Addr.mk 1000 0 Option.none)))) ∧
 True))))))))) ∧
 (∃ r4 : Int,
 ((Says witC 0 [(D.val (Go.Value.int Go.IntKind.i64 (0 : Int))), (D.val (Go.Value.int Go.IntKind.i64 (10000 : Int))), (D.val (Go.Value.int Go.IntKind.i64 (2 : Int))), (D.sl 1 1 [(Go.Value.int Go.IntKind.i64 (d))])] [(D.val (Go.Value.int Go.IntKind.i64 (r4)))]) ∧
 (((((Go.Value.slice (Option.some (Go.Addr.mk 1013 0 Option.none)) 4 4) = (Go.Value.slice (Option.some (Go.Addr.mk 1013 0 Option.none)) 4 4)) ∧
 ((Option.some (AObj.cells [(Go.Value.int Go.IntKind.i64 (r1)), (Go.Value.int Go.IntKind.i64 (r2)), (Go.Value.int Go.IntKind.i64 (r3)), (Go.Value.int Go.IntKind.i64 (r4))] 30 false 1)) = (Option.some (AObj.cells [(Go.Value.int Go.IntKind.i64 (r1)), (Go.Value.int Go.IntKind.i64 (r2)), (Go.Value.int Go.IntKind.i64 (r3)), (Go.Value.int Go.IntKind.i64 (r4))] 30 false 1)))) ∧
 (((Go.Value.int Go.IntKind.i64 (d)) = (Go.Value.int Go.IntKind.i64 (d))) ∧
 (((Go.Value.pointer (Option.some (Go.Addr.mk 1000 3 Option.none))) = (Go.Value.pointer (Option.some (Go.Addr.mk 1000 3 Option.none)))) ∧
 (((Go.Value.int Go.IntKind.i64 (c)) = (Go.Value.int Go.IntKind.i64 (c))) ∧
 (((Go.Value.pointer (Option.some (Go.Addr.mk 1000 2 Option.none))) = (Go.Value.pointer (Option.some (Go.Addr.mk 1000 2 Option.none)))) ∧
 (((Go.Value.int Go.IntKind.i64 (b)) = (Go.Value.int Go.IntKind.i64 (b))) ∧
 (((Go.Value.pointer (Option.some (Go.Addr.mk 1000 1 Option.none))) = (Go.Value.pointer (Option.some (Go.Addr.mk 1000 1 Option.none)))) ∧
 (((Go.Value.int Go.IntKind.i64 (a)) = (Go.Value.int Go.IntKind.i64 (a))) ∧
 (((Go.Value.pointer (Option.some (Go.Addr.mk 1000 0 Option.none))) = (Go.Value.pointer (Option.some (Go.Addr.mk 1000 0 Option.none)))) ∧
 True))))))))) ∧
 (∃ n1 : Int,
 ((Says C 37 [(D.sl 4 1 [(Go.Value.int Go.IntKind.i64 (r1)), (Go.Value.int Go.IntKind.i64 (r2)), (Go.Value.int Go.IntKind.i64 (r3)), (Go.Value.int Go.IntKind.i64 (r4))])] [(D.val (Go.Value.int Go.IntKind.i64 (n1)))]) ∧
 ((((Go.Value.int Go.IntKind.i64 (d)) = (Go.Value.int Go.IntKind.i64 (d))) ∧
 (((Go.Value.pointer (Option.some (Go.Addr.mk 1000 3 Option.none))) = (Go.Value.pointer (Option.some (Go.Addr.mk 1000 3 Option.none)))) ∧
 (((Go.Value.int Go.IntKind.i64 (c)) = (Go.Value.int Go.IntKind.i64 (c))) ∧
 (((Go.Value.pointer (Option.some (Go.Addr.mk 1000 2 Option.none))) = (Go.Value.pointer (Option.some (Go.Addr.mk 1000 2 Option.none)))) ∧
 (((Go.Value.int Go.IntKind.i64 (b)) = (Go.Value.int Go.IntKind.i64 (b))) ∧
 (((Go.Value.pointer (Option.some (Go.Addr.mk 1000 1 Option.none))) = (Go.Value.pointer (Option.some (Go.Addr.mk 1000 1 Option.none)))) ∧
 (((Go.Value.int Go.IntKind.i64 (a)) = (Go.Value.int Go.IntKind.i64 (a))) ∧
 (((Go.Value.pointer (Option.some (Go.Addr.mk 1000 0 Option.none))) = (Go.Value.pointer (Option.some (Go.Addr.mk 1000 0 Option.none)))) ∧
 True)))))))) ∧
 (True ∧
 (k [(D.val (Go.Value.int Go.IntKind.i64 (n1)))])))))))))))))))))))))) := by kernel_rfl
def gME (C : Ct) (L : AtLoop) (a b c d : Int) (k : List D → Prop) : Prop := wpFn Try.prog (hG C) L 0 999999 #[vA a b c d] (heapOf []) (dataK k)
theorem gME_text (C : Ct) (L : AtLoop) (a : Int) (b : Int) (c : Int) (d : Int) (k : List D → Prop) : gME C L a b c d k =
 False := by kernel_rfl
def gOu (C : Ct) (L : AtLoop) (a b c d : Int) (n cap : Nat) (l : List Value) (k : List D → Prop) : Prop := wpFn Try.prog (hG C) L 0 62 #[vA a b c d, S500 n cap] (heapOf [Q500 l]) (dataK k)
theorem gOu_text (C : Ct) (L : AtLoop) (a : Int) (b : Int) (c : Int) (d : Int) (n : Nat) (cap : Nat) (l : List Go.Value) (k : List D → Prop) : gOu C L a b c d n cap l k =
 (L 0 [(Prod.mk 2 (Go.Value.pointer (Option.some (Go.Addr.mk 1000 0 Option.none)))), (Prod.mk 6 (Go.Value.pointer (Option.some (Go.Addr.mk 1001 0 Option.none)))), (Prod.mk 7 (Go.Value.slice Option.none 0 0)), (Prod.mk 8 (Go.Value.int Go.IntKind.i64 (0 : Int))), (Prod.mk 13 (Go.Value.slice (Option.some (Go.Addr.mk 500 0 Option.none)) (n) (cap))), (Prod.mk 14 (Go.Value.int Go.IntKind.i64 ((↑n : Int)))), (Prod.mk 15 (Go.Value.int Go.IntKind.i64 (0 : Int)))] [(Prod.mk 1000 (AObj.cells [(Go.Value.int Go.IntKind.i64 (a)), (Go.Value.int Go.IntKind.i64 (b)), (Go.Value.int Go.IntKind.i64 (c)), (Go.Value.int Go.IntKind.i64 (d))] 112 false 1)), (Prod.mk 1001 (AObj.cells [(Go.Value.int Go.IntKind.i64 (-(99999 + 1) : Int)), (Go.Value.int Go.IntKind.i64 (100000 : Int))] 56 false 2)), (Prod.mk 500 (AObj.sym (l) false 1))]) := by kernel_rfl
def gRO (C : Ct) (L : AtLoop) (a b c d : Int) (n cap : Nat) (l : List Value) (k : List D → Prop) : Prop := wpFn Try.prog (hG C) L 0 999999 #[vA a b c d, S500 n cap] (heapOf [Q500 l]) (dataK k)
theorem gRO_text (C : Ct) (L : AtLoop) (a : Int) (b : Int) (c : Int) (d : Int) (n : Nat) (cap : Nat) (l : List Go.Value) (k : List D → Prop) : gRO C L a b c d n cap l k =
 False := by kernel_rfl
def gMo (C : Ct) (L : AtLoop) (a b c d : Int) (n cap : Nat) (l : List Value) (k : List D → Prop) : Prop := wpFn Try.prog (hG C) L 0 999999 #[vA a b c d, S500 n cap] (heapOf [Q500 l]) (dataK k)
theorem gMo_text (C : Ct) (L : AtLoop) (a : Int) (b : Int) (c : Int) (d : Int) (n : Nat) (cap : Nat) (l : List Go.Value) (k : List D → Prop) : gMo C L a b c d n cap l k =
 False := by kernel_rfl
def gRM (C : Ct) (L : AtLoop) (a b c d : Int) (n cap : Nat) (l : List Value) (k : List D → Prop) : Prop := wpFn Try.prog (hG C) L 0 999999 #[vA a b c d, S500 n cap] (heapOf [Q500 l]) (dataK k)
theorem gRM_text (C : Ct) (L : AtLoop) (a : Int) (b : Int) (c : Int) (d : Int) (n : Nat) (cap : Nat) (l : List Go.Value) (k : List D → Prop) : gRM C L a b c d n cap l k =
 False := by kernel_rfl
def gRA (C : Ct) (L : AtLoop) (a b c d x : Int) (k : List D → Prop) : Prop := wpFn Try.prog (hG C) L 0 31 #[vA a b c d, vI x] (heapOf []) (dataK k)
theorem gRA_text (C : Ct) (L : AtLoop) (a : Int) (b : Int) (c : Int) (d : Int) (x : Int) (k : List D → Prop) : gRA C L a b c d x k =
 (∃ n1 : Int,
 ((Says C 79 [(D.agg [(D.val (Go.Value.int Go.IntKind.i64 (a))), (D.val (Go.Value.int Go.IntKind.i64 (b))), (D.val (Go.Value.int Go.IntKind.i64 (c))), (D.val (Go.Value.int Go.IntKind.i64 (d)))])] [(D.val (Go.Value.int Go.IntKind.i64 (n1)))]) ∧
 (bcase (n1 != 0)
 (∃ r1 : Int,
 ((Says witC 0 [(D.val (Go.Value.int Go.IntKind.i64 (-(9999 + 1) : Int))), (D.val (Go.Value.int Go.IntKind.i64 (10000 : Int))), (D.val (Go.Value.int Go.IntKind.i64 (2 : Int))), (D.sl 1 1 [(Go.Value.int Go.IntKind.i64 (x))])] [(D.val (Go.Value.int Go.IntKind.i64 (r1)))]) ∧
 (∃ n2 : Int,
 ((Says C 37 [(D.sl 2 1 [(Go.Value.int Go.IntKind.i64 (n1)), (Go.Value.int Go.IntKind.i64 (r1))])] [(D.val (Go.Value.int Go.IntKind.i64 (n2)))]) ∧
 (bcase (n2 != 0)
 (k [(D.val (Go.Value.int Go.IntKind.i64 (0 : Int))), (D.val (Go.Value.int Go.IntKind.i64 (n2)))])
 (((((Go.Value.slice (Option.some (Go.Addr.mk 1008 0 Option.none)) 1 1) = (Go.Value.slice (Option.some (Go.Addr.mk 1008 0 Option.none)) 1 1)) ∧
 ((Option.some (AObj.cells [(Go.Value.int Go.IntKind.i64 (x))] 3 false 1)) = (Option.some (AObj.cells [(Go.Value.int Go.IntKind.i64 (x))] 3 false 1)))) ∧
 (((Go.Value.int Go.IntKind.i64 (x)) = (Go.Value.int Go.IntKind.i64 (x))) ∧
 (((Go.Value.agg [(Go.Value.int Go.IntKind.i64 (0 : Int)), (Go.Value.int Go.IntKind.i64 (0 : Int)), (Go.Value.int Go.IntKind.i64 (0 : Int)), (Go.Value.int Go.IntKind.i64 (0 : Int))].toArray) = (Go.Value.agg [(Go.Value.int Go.IntKind.i64 (0 : Int)), (Go.Value.int Go.IntKind.i64 (0 : Int)), (Go.Value.int Go.IntKind.i64 (0 : Int)), (Go.Value.int Go.IntKind.i64 (0 : Int))].toArray)) ∧
 True))) ∧
 (((Says C 63 [(D.sl 1 1 [(Go.Value.int Go.IntKind.i64 (x))]), (D.val (Go.Value.int Go.IntKind.i64 (501 : Int)))] [D.nil]) ∧
 ((((Go.Value.int Go.IntKind.i64 (x)) = (Go.Value.int Go.IntKind.i64 (x))) ∧
 (((Go.Value.agg [(Go.Value.int Go.IntKind.i64 (0 : Int)), (Go.Value.int Go.IntKind.i64 (0 : Int)), (Go.Value.int Go.IntKind.i64 (0 : Int)), (Go.Value.int Go.IntKind.i64 (0 : Int))].toArray) = (Go.Value.agg [(Go.Value.int Go.IntKind.i64 (0 : Int)), (Go.Value.int Go.IntKind.i64 (0 : Int)), (Go.Value.int Go.IntKind.i64 (0 : Int)), (Go.Value.int Go.IntKind.i64 (0 : Int))].toArray)) ∧
 True)) ∧
 ((∃ n3 : Int,
 ((Says C 62 [(D.agg [(D.val (Go.Value.int Go.IntKind.i64 (0 : Int))), (D.val (Go.Value.int Go.IntKind.i64 (0 : Int))), (D.val (Go.Value.int Go.IntKind.i64 (0 : Int))), (D.val (Go.Value.int Go.IntKind.i64 (0 : Int)))]), D.nil] [D.nil, (D.val (Go.Value.int Go.IntKind.i64 (n3)))]) ∧
 ((((Go.Value.int Go.IntKind.i64 (n3)) = (Go.Value.int Go.IntKind.i64 (n3))) ∧
 (((Go.Value.slice Option.none 0 0) = (Go.Value.slice Option.none 0 0)) ∧
 (((Go.Value.tuple [(Go.Value.slice Option.none 0 0), (Go.Value.int Go.IntKind.i64 (n3))].toArray) = (Go.Value.tuple [(Go.Value.slice Option.none 0 0), (Go.Value.int Go.IntKind.i64 (n3))].toArray)) ∧
 (((Go.Value.int Go.IntKind.i64 (x)) = (Go.Value.int Go.IntKind.i64 (x))) ∧
 True)))) ∧
 ((((Go.Value.int Go.IntKind.i64 (n3)) = (Go.Value.int Go.IntKind.i64 (n3))) ∧
 True) ∧
 (True ∧
 (bcase (n3 != 0)
 (k [(D.val (Go.Value.int Go.IntKind.i64 (0 : Int))), (D.val (Go.Value.int Go.IntKind.i64 (n3)))])
 (L 0 [(Prod.mk 2 (Go.Value.pointer (Option.some (Go.Addr.mk 1000 0 Option.none)))), (Prod.mk 6 (Go.Value.pointer (Option.some (Go.Addr.mk 1001 0 Option.none)))), (Prod.mk 10 (Go.Value.int Go.IntKind.i64 (a))), (Prod.mk 41 (Go.Value.slice Option.none 0 0)), (Prod.mk 42 (Go.Value.int Go.IntKind.i64 (0 : Int))), (Prod.mk 43 (Go.Value.int Go.IntKind.i64 (0 : Int)))] [(Prod.mk 1000 (AObj.cells [(Go.Value.int Go.IntKind.i64 (a)), (Go.Value.int Go.IntKind.i64 (b)), (Go.Value.int Go.IntKind.i64 (c)), (Go.Value.int Go.IntKind.i64 (d))] 73 false 1)), (Prod.mk 1001 (AObj.cells [(Go.Value.int Go.IntKind.i64 (0 : Int)), (Go.Value.int Go.IntKind.i64 (0 : Int)), (Go.Value.int Go.IntKind.i64 (0 : Int)), (Go.Value.int Go.IntKind.i64 (0 : Int))] 112 false 4))]))))))) ∨
 (∃ n3 : Nat,
 (∃ cs1 : List Go.Value,
 (∃ n4 : Int,
 ((Says C 62 [(D.agg [(D.val (Go.Value.int Go.IntKind.i64 (0 : Int))), (D.val (Go.Value.int Go.IntKind.i64 (0 : Int))), (D.val (Go.Value.int Go.IntKind.i64 (0 : Int))), (D.val (Go.Value.int Go.IntKind.i64 (0 : Int)))]), D.nil] [(D.sl (n3) 1 (cs1)), (D.val (Go.Value.int Go.IntKind.i64 (n4)))]) ∧
 ((((Go.Value.int Go.IntKind.i64 (n4)) = (Go.Value.int Go.IntKind.i64 (n4))) ∧
 (((Go.Value.slice (Option.some (Go.Addr.mk 1009 0 Option.none)) (n3) (n3)) = (Go.Value.slice (Option.some (Go.Addr.mk 1009 0 Option.none)) (n3) (n3))) ∧
 (((Go.Value.tuple [(Go.Value.slice (Option.some (Go.Addr.mk 1009 0 Option.none)) (n3) (n3)), (Go.Value.int Go.IntKind.i64 (n4))].toArray) = (Go.Value.tuple [(Go.Value.slice (Option.some (Go.Addr.mk 1009 0 Option.none)) (n3) (n3)), (Go.Value.int Go.IntKind.i64 (n4))].toArray)) ∧
 (((Go.Value.int Go.IntKind.i64 (x)) = (Go.Value.int Go.IntKind.i64 (x))) ∧
 True)))) ∧
 ((((Go.Value.int Go.IntKind.i64 (n4)) = (Go.Value.int Go.IntKind.i64 (n4))) ∧
 True) ∧
 (True ∧
 (bcase (n4 != 0)
 (k [(D.val (Go.Value.int Go.IntKind.i64 (0 : Int))), (D.val (Go.Value.int Go.IntKind.i64 (n4)))])
 (L 0 [(Prod.mk 2 (Go.Value.pointer (Option.some (Go.Addr.mk 1000 0 Option.none)))), (Prod.mk 6 (Go.Value.pointer (Option.some (Go.Addr.mk 1001 0 Option.none)))), (Prod.mk 10 (Go.Value.int Go.IntKind.i64 (a))), (Prod.mk 41 (Go.Value.slice (Option.some (Go.Addr.mk 1002 0 Option.none)) (n3) (n3))), (Prod.mk 42 (Go.Value.int Go.IntKind.i64 ((↑n3 : Int)))), (Prod.mk 43 (Go.Value.int Go.IntKind.i64 (0 : Int)))] [(Prod.mk 1000 (AObj.cells [(Go.Value.int Go.IntKind.i64 (a)), (Go.Value.int Go.IntKind.i64 (b)), (Go.Value.int Go.IntKind.i64 (c)), (Go.Value.int Go.IntKind.i64 (d))] 73 false 1)), (Prod.mk 1001 (AObj.cells [(Go.Value.int Go.IntKind.i64 (0 : Int)), (Go.Value.int Go.IntKind.i64 (0 : Int)), (Go.Value.int Go.IntKind.i64 (0 : Int)), (Go.Value.int Go.IntKind.i64 (0 : Int))] 112 false 4)), (Prod.mk 1002 (AObj.sym (cs1) true 1))])))))))))))) ∨
 (∃ n3 : Nat,
 (∃ cs1 : List Go.Value,
 ((Says C 63 [(D.sl 1 1 [(Go.Value.int Go.IntKind.i64 (x))]), (D.val (Go.Value.int Go.IntKind.i64 (501 : Int)))] [(D.sl (n3) 1 (cs1))]) ∧
 ((((Go.Value.int Go.IntKind.i64 (x)) = (Go.Value.int Go.IntKind.i64 (x))) ∧
 (((Go.Value.agg [(Go.Value.int Go.IntKind.i64 (0 : Int)), (Go.Value.int Go.IntKind.i64 (0 : Int)), (Go.Value.int Go.IntKind.i64 (0 : Int)), (Go.Value.int Go.IntKind.i64 (0 : Int))].toArray) = (Go.Value.agg [(Go.Value.int Go.IntKind.i64 (0 : Int)), (Go.Value.int Go.IntKind.i64 (0 : Int)), (Go.Value.int Go.IntKind.i64 (0 : Int)), (Go.Value.int Go.IntKind.i64 (0 : Int))].toArray)) ∧
 True)) ∧
 (bcase (decide (0 + n3 * 1 ≤ List.length cs1))
 ((∃ n4 : Int,
 ((Says C 62 [(D.agg [(D.val (Go.Value.int Go.IntKind.i64 (0 : Int))), (D.val (Go.Value.int Go.IntKind.i64 (0 : Int))), (D.val (Go.Value.int Go.IntKind.i64 (0 : Int))), (D.val (Go.Value.int Go.IntKind.i64 (0 : Int)))]), (D.sl (n3) 1 (List.take (n3 * 1) (List.drop 0 cs1)))] [D.nil, (D.val (Go.Value.int Go.IntKind.i64 (n4)))]) ∧
 ((((Go.Value.int Go.IntKind.i64 (n4)) = (Go.Value.int Go.IntKind.i64 (n4))) ∧
 (((Go.Value.slice Option.none 0 0) = (Go.Value.slice Option.none 0 0)) ∧
 (((Go.Value.tuple [(Go.Value.slice Option.none 0 0), (Go.Value.int Go.IntKind.i64 (n4))].toArray) = (Go.Value.tuple [(Go.Value.slice Option.none 0 0), (Go.Value.int Go.IntKind.i64 (n4))].toArray)) ∧
 (((Go.Value.int Go.IntKind.i64 (x)) = (Go.Value.int Go.IntKind.i64 (x))) ∧
 True)))) ∧
 ((((Go.Value.int Go.IntKind.i64 (n4)) = (Go.Value.int Go.IntKind.i64 (n4))) ∧
 True) ∧
 (True ∧
 (bcase (n4 != 0)
 (k [(D.val (Go.Value.int Go.IntKind.i64 (0 : Int))), (D.val (Go.Value.int Go.IntKind.i64 (n4)))])
 (L 0 [(Prod.mk 2 (Go.Value.pointer (Option.some (Go.Addr.mk 1000 0 Option.none)))), (Prod.mk 6 (Go.Value.pointer (Option.some (Go.Addr.mk 1001 0 Option.none)))), (Prod.mk 10 (Go.Value.int Go.IntKind.i64 (a))), (Prod.mk 41 (Go.Value.slice Option.none 0 0)), (Prod.mk 42 (Go.Value.int Go.IntKind.i64 (0 : Int))), (Prod.mk 43 (Go.Value.int Go.IntKind.i64 (0 : Int)))] [(Prod.mk 1000 (AObj.cells [(Go.Value.int Go.IntKind.i64 (a)), (Go.Value.int Go.IntKind.i64 (b)), (Go.Value.int Go.IntKind.i64 (c)), (Go.Value.int Go.IntKind.i64 (d))] 73 false 1)), (Prod.mk 1001 (AObj.cells [(Go.Value.int Go.IntKind.i64 (0 : Int)), (Go.Value.int Go.IntKind.i64 (0 : Int)), (Go.Value.int Go.IntKind.i64 (0 : Int)), (Go.Value.int Go.IntKind.i64 (0 : Int))] 112 false 4))]))))))) ∨
 (∃ n4 : Nat,
 (∃ cs2 : List Go.Value,
 (∃ n5 : Int,
 ((Says C 62 [(D.agg [(D.val (Go.Value.int Go.IntKind.i64 (0 : Int))), (D.val (Go.Value.int Go.IntKind.i64 (0 : Int))), (D.val (Go.Value.int Go.IntKind.i64 (0 : Int))), (D.val (Go.Value.int Go.IntKind.i64 (0 : Int)))]), (D.sl (n3) 1 (List.take (n3 * 1) (List.drop 0 cs1)))] [(D.sl (n4) 1 (cs2)), (D.val (Go.Value.int Go.IntKind.i64 (n5)))]) ∧
 ((((Go.Value.int Go.IntKind.i64 (n5)) = (Go.Value.int Go.IntKind.i64 (n5))) ∧
 (((Go.Value.slice (Option.some (Go.Addr.mk 1010 0 Option.none)) (n4) (n4)) = (Go.Value.slice (Option.some (Go.Addr.mk 1010 0 Option.none)) (n4) (n4))) ∧
 (((Go.Value.tuple [(Go.Value.slice (Option.some (Go.Addr.mk 1010 0 Option.none)) (n4) (n4)), (Go.Value.int Go.IntKind.i64 (n5))].toArray) = (Go.Value.tuple [(Go.Value.slice (Option.some (Go.Addr.mk 1010 0 Option.none)) (n4) (n4)), (Go.Value.int Go.IntKind.i64 (n5))].toArray)) ∧
 (((Go.Value.int Go.IntKind.i64 (x)) = (Go.Value.int Go.IntKind.i64 (x))) ∧
 True)))) ∧
 ((((Go.Value.int Go.IntKind.i64 (n5)) = (Go.Value.int Go.IntKind.i64 (n5))) ∧
 True) ∧
 (True ∧
 (bcase (n5 != 0)
 (k [(D.val (Go.Value.int Go.IntKind.i64 (0 : Int))), (D.val (Go.Value.int Go.IntKind.i64 (n5)))])
 (L 0 [(Prod.mk 2 (Go.Value.pointer (Option.some (Go.Addr.mk 1000 0 Option.none)))), (Prod.mk 6 (Go.Value.pointer (Option.some (Go.Addr.mk 1001 0 Option.none)))), (Prod.mk 10 (Go.Value.int Go.IntKind.i64 (a))), (Prod.mk 41 (Go.Value.slice (Option.some (Go.Addr.mk 1002 0 Option.none)) (n4) (n4))), (Prod.mk 42 (Go.Value.int Go.IntKind.i64 ((↑n4 : Int)))), (Prod.mk 43 (Go.Value.int Go.IntKind.i64 (0 : Int)))] [(Prod.mk 1000 (AObj.cells [(Go.Value.int Go.IntKind.i64 (a)), (Go.Value.int Go.IntKind.i64 (b)), (Go.Value.int Go.IntKind.i64 (c)), (Go.Value.int Go.IntKind.i64 (d))] 73 false 1)), (Prod.mk 1001 (AObj.cells [(Go.Value.int Go.IntKind.i64 (0 : Int)), (Go.Value.int Go.IntKind.i64 (0 : Int)), (Go.Value.int Go.IntKind.i64 (0 : Int)), (Go.Value.int Go.IntKind.i64 (0 : Int))] 112 false 4)), (Prod.mk 1002 (AObj.sym (cs2) true 1))]))))))))))
 False))))))))))))
 (∃ r1 : Int,
 ((Says witC 0 [(D.val (Go.Value.int Go.IntKind.i64 (-(9999 + 1) : Int))), (D.val (Go.Value.int Go.IntKind.i64 (10000 : Int))), (D.val (Go.Value.int Go.IntKind.i64 (2 : Int))), (D.sl 1 1 [(Go.Value.int Go.IntKind.i64 (x))])] [(D.val (Go.Value.int Go.IntKind.i64 (r1)))]) ∧
 (∃ n2 : Int,
 ((Says C 37 [(D.sl 2 1 [(Go.Value.int Go.IntKind.i64 (0 : Int)), (Go.Value.int Go.IntKind.i64 (r1))])] [(D.val (Go.Value.int Go.IntKind.i64 (n2)))]) ∧
 (bcase (n2 != 0)
 (k [(D.val (Go.Value.int Go.IntKind.i64 (0 : Int))), (D.val (Go.Value.int Go.IntKind.i64 (n2)))])
 (((((Go.Value.slice (Option.some (Go.Addr.mk 1008 0 Option.none)) 1 1) = (Go.Value.slice (Option.some (Go.Addr.mk 1008 0 Option.none)) 1 1)) ∧
 ((Option.some (AObj.cells [(Go.Value.int Go.IntKind.i64 (x))] 3 false 1)) = (Option.some (AObj.cells [(Go.Value.int Go.IntKind.i64 (x))] 3 false 1)))) ∧
 (((Go.Value.int Go.IntKind.i64 (x)) = (Go.Value.int Go.IntKind.i64 (x))) ∧
 (((Go.Value.agg [(Go.Value.int Go.IntKind.i64 (a)), (Go.Value.int Go.IntKind.i64 (b)), (Go.Value.int Go.IntKind.i64 (c)), (Go.Value.int Go.IntKind.i64 (d))].toArray) = (Go.Value.agg [(Go.Value.int Go.IntKind.i64 (a)), (Go.Value.int Go.IntKind.i64 (b)), (Go.Value.int Go.IntKind.i64 (c)), (Go.Value.int Go.IntKind.i64 (d))].toArray)) ∧
 True))) ∧
 (((Says C 63 [(D.sl 1 1 [(Go.Value.int Go.IntKind.i64 (x))]), (D.val (Go.Value.int Go.IntKind.i64 (501 : Int)))] [D.nil]) ∧
 ((((Go.Value.int Go.IntKind.i64 (x)) = (Go.Value.int Go.IntKind.i64 (x))) ∧
 (((Go.Value.agg [(Go.Value.int Go.IntKind.i64 (a)), (Go.Value.int Go.IntKind.i64 (b)), (Go.Value.int Go.IntKind.i64 (c)), (Go.Value.int Go.IntKind.i64 (d))].toArray) = (Go.Value.agg [(Go.Value.int Go.IntKind.i64 (a)), (Go.Value.int Go.IntKind.i64 (b)), (Go.Value.int Go.IntKind.i64 (c)), (Go.Value.int Go.IntKind.i64 (d))].toArray)) ∧
 True)) ∧
 ((∃ n3 : Int,
 ((Says C 62 [(D.agg [(D.val (Go.Value.int Go.IntKind.i64 (a))), (D.val (Go.Value.int Go.IntKind.i64 (b))), (D.val (Go.Value.int Go.IntKind.i64 (c))), (D.val (Go.Value.int Go.IntKind.i64 (d)))]), D.nil] [D.nil, (D.val (Go.Value.int Go.IntKind.i64 (n3)))]) ∧
 ((((Go.Value.int Go.IntKind.i64 (n3)) = (Go.Value.int Go.IntKind.i64 (n3))) ∧
 (((Go.Value.slice Option.none 0 0) = (Go.Value.slice Option.none 0 0)) ∧
 (((Go.Value.tuple [(Go.Value.slice Option.none 0 0), (Go.Value.int Go.IntKind.i64 (n3))].toArray) = (Go.Value.tuple [(Go.Value.slice Option.none 0 0), (Go.Value.int Go.IntKind.i64 (n3))].toArray)) ∧
 (((Go.Value.int Go.IntKind.i64 (x)) = (Go.Value.int Go.IntKind.i64 (x))) ∧
 True)))) ∧
 ((((Go.Value.int Go.IntKind.i64 (n3)) = (Go.Value.int Go.IntKind.i64 (n3))) ∧
 True) ∧
 (True ∧
 (bcase (n3 != 0)
 (k [(D.val (Go.Value.int Go.IntKind.i64 (0 : Int))), (D.val (Go.Value.int Go.IntKind.i64 (n3)))])
 (L 0 [(Prod.mk 2 (Go.Value.pointer (Option.some (Go.Addr.mk 1000 0 Option.none)))), (Prod.mk 6 (Go.Value.pointer (Option.some (Go.Addr.mk 1001 0 Option.none)))), (Prod.mk 10 (Go.Value.int Go.IntKind.i64 (a))), (Prod.mk 41 (Go.Value.slice Option.none 0 0)), (Prod.mk 42 (Go.Value.int Go.IntKind.i64 (0 : Int))), (Prod.mk 43 (Go.Value.int Go.IntKind.i64 (0 : Int)))] [(Prod.mk 1000 (AObj.cells [(Go.Value.int Go.IntKind.i64 (a)), (Go.Value.int Go.IntKind.i64 (b)), (Go.Value.int Go.IntKind.i64 (c)), (Go.Value.int Go.IntKind.i64 (d))] 73 false 1)), (Prod.mk 1001 (AObj.cells [(Go.Value.int Go.IntKind.i64 (a)), (Go.Value.int Go.IntKind.i64 (b)), (Go.Value.int Go.IntKind.i64 (c)), (Go.Value.int Go.IntKind.i64 (d))] 112 false 4))]))))))) ∨
 (∃ n3 : Nat,
 (∃ cs1 : List Go.Value,
 (∃ n4 : Int,
 ((Says C 62 [(D.agg [(D.val (Go.Value.int Go.IntKind.i64 (a))), (D.val (Go.Value.int Go.IntKind.i64 (b))), (D.val (Go.Value.int Go.IntKind.i64 (c))), (D.val (Go.Value.int Go.IntKind.i64 (d)))]), D.nil] [(D.sl (n3) 1 (cs1)), (D.val (Go.Value.int Go.IntKind.i64 (n4)))]) ∧
 ((((Go.Value.int Go.IntKind.i64 (n4)) = (Go.Value.int Go.IntKind.i64 (n4))) ∧
 (((Go.Value.slice (Option.some (Go.Addr.mk 1009 0 Option.none)) (n3) (n3)) = (Go.Value.slice (Option.some (Go.Addr.mk 1009 0 Option.none)) (n3) (n3))) ∧
 (((Go.Value.tuple [(Go.Value.slice (Option.some (Go.Addr.mk 1009 0 Option.none)) (n3) (n3)), (Go.Value.int Go.IntKind.i64 (n4))].toArray) = (Go.Value.tuple [(Go.Value.slice (Option.some (Go.Addr.mk 1009 0 Option.none)) (n3) (n3)), (Go.Value.int Go.IntKind.i64 (n4))].toArray)) ∧
 (((Go.Value.int Go.IntKind.i64 (x)) = (Go.Value.int Go.IntKind.i64 (x))) ∧
 True)))) ∧
 ((((Go.Value.int Go.IntKind.i64 (n4)) = (Go.Value.int Go.IntKind.i64 (n4))) ∧
 True) ∧
 (True ∧
 (bcase (n4 != 0)
 (k [(D.val (Go.Value.int Go.IntKind.i64 (0 : Int))), (D.val (Go.Value.int Go.IntKind.i64 (n4)))])
 (L 0 [(Prod.mk 2 (Go.Value.pointer (Option.some (Go.Addr.mk 1000 0 Option.none)))), (Prod.mk 6 (Go.Value.pointer (Option.some (Go.Addr.mk 1001 0 Option.none)))), (Prod.mk 10 (Go.Value.int Go.IntKind.i64 (a))), (Prod.mk 41 (Go.Value.slice (Option.some (Go.Addr.mk 1002 0 Option.none)) (n3) (n3))), (Prod.mk 42 (Go.Value.int Go.IntKind.i64 ((↑n3 : Int)))), (Prod.mk 43 (Go.Value.int Go.IntKind.i64 (0 : Int)))] [(Prod.mk 1000 (AObj.cells [(Go.Value.int Go.IntKind.i64 (a)), (Go.Value.int Go.IntKind.i64 (b)), (Go.Value.int Go.IntKind.i64 (c)), (Go.Value.int Go.IntKind.i64 (d))] 73 false 1)), (Prod.mk 1001 (AObj.cells [(Go.Value.int Go.IntKind.i64 (a)), (Go.Value.int Go.IntKind.i64 (b)), (Go.Value.int Go.IntKind.i64 (c)), (Go.Value.int Go.IntKind.i64 (d))] 112 false 4)), (Prod.mk 1002 (AObj.sym (cs1) true 1))])))))))))))) ∨
 (∃ n3 : Nat,
 (∃ cs1 : List Go.Value,
 ((Says C 63 [(D.sl 1 1 [(Go.Value.int Go.IntKind.i64 (x))]), (D.val (Go.Value.int Go.IntKind.i64 (501 : Int)))] [(D.sl (n3) 1 (cs1))]) ∧
 ((((Go.Value.int Go.IntKind.i64 (x)) = (Go.Value.int Go.IntKind.i64 (x))) ∧
 (((Go.Value.agg [(Go.Value.int Go.IntKind.i64 (a)), (Go.Value.int Go.IntKind.i64 (b)), (Go.Value.int Go.IntKind.i64 (c)), (Go.Value.int Go.IntKind.i64 (d))].toArray) = (Go.Value.agg [(Go.Value.int Go.IntKind.i64 (a)), (Go.Value.int Go.IntKind.i64 (b)), (Go.Value.int Go.IntKind.i64 (c)), (Go.Value.int Go.IntKind.i64 (d))].toArray)) ∧
 True)) ∧
 (bcase (decide (0 + n3 * 1 ≤ List.length cs1))
 ((∃ n4 : Int,
 ((Says C 62 [(D.agg [(D.val (Go.Value.int Go.IntKind.i64 (a))), (D.val (Go.Value.int Go.IntKind.i64 (b))), (D.val (Go.Value.int Go.IntKind.i64 (c))), (D.val (Go.Value.int Go.IntKind.i64 (d)))]), (D.sl (n3) 1 (List.take (n3 * 1) (List.drop 0 cs1)))] [D.nil, (D.val (Go.Value.int Go.IntKind.i64 (n4)))]) ∧
 ((((Go.Value.int Go.IntKind.i64 (n4)) = (Go.Value.int Go.IntKind.i64 (n4))) ∧
 (((Go.Value.slice Option.none 0 0) = (Go.Value.slice Option.none 0 0)) ∧
 (((Go.Value.tuple [(Go.Value.slice Option.none 0 0), (Go.Value.int Go.IntKind.i64 (n4))].toArray) = (Go.Value.tuple [(Go.Value.slice Option.none 0 0), (Go.Value.int Go.IntKind.i64 (n4))].toArray)) ∧
 (((Go.Value.int Go.IntKind.i64 (x)) = (Go.Value.int Go.IntKind.i64 (x))) ∧
 True)))) ∧
 ((((Go.Value.int Go.IntKind.i64 (n4)) = (Go.Value.int Go.IntKind.i64 (n4))) ∧
 True) ∧
 (True ∧
 (bcase (n4 != 0)
 (k [(D.val (Go.Value.int Go.IntKind.i64 (0 : Int))), (D.val (Go.Value.int Go.IntKind.i64 (n4)))])
 (L 0 [(Prod.mk 2 (Go.Value.pointer (Option.some (Go.Addr.mk 1000 0 Option.none)))), (Prod.mk 6 (Go.Value.pointer (Option.some (Go.Addr.mk 1001 0 Option.none)))), (Prod.mk 10 (Go.Value.int Go.IntKind.i64 (a))), (Prod.mk 41 (Go.Value.slice Option.none 0 0)), (Prod.mk 42 (Go.Value.int Go.IntKind.i64 (0 : Int))), (Prod.mk 43 (Go.Value.int Go.IntKind.i64 (0 : Int)))] [(Prod.mk 1000 (AObj.cells [(Go.Value.int Go.IntKind.i64 (a)), (Go.Value.int Go.IntKind.i64 (b)), (Go.Value.int Go.IntKind.i64 (c)), (Go.Value.int Go.IntKind.i64 (d))] 73 false 1)), (Prod.mk 1001 (AObj.cells [(Go.Value.int Go.IntKind.i64 (a)), (Go.Value.int Go.IntKind.i64 (b)), (Go.Value.int Go.IntKind.i64 (c)), (Go.Value.int Go.IntKind.i64 (d))] 112 false 4))]))))))) ∨
 (∃ n4 : Nat,
 (∃ cs2 : List Go.Value,
 (∃ n5 : Int,
 ((Says C 62 [(D.agg [(D.val (Go.Value.int Go.IntKind.i64 (a))), (D.val (Go.Value.int Go.IntKind.i64 (b))), (D.val (Go.Value.int Go.IntKind.i64 (c))), (D.val (Go.Value.int Go.IntKind.i64 (d)))]), (D.sl (n3) 1 (List.take (n3 * 1) (List.drop 0 cs1)))] [(D.sl (n4) 1 (cs2)), (D.val (Go.Value.int Go.IntKind.i64 (n5)))]) ∧
 ((((Go.Value.int Go.IntKind.i64 (n5)) = (Go.Value.int Go.IntKind.i64 (n5))) ∧
 (((Go.Value.slice (Option.some (Go.Addr.mk 1010 0 Option.none)) (n4) (n4)) = (Go.Value.slice (Option.some (Go.Addr.mk 1010 0 Option.none)) (n4) (n4))) ∧
 (((Go.Value.tuple [(Go.Value.slice (Option.some (Go.Addr.mk 1010 0 Option.none)) (n4) (n4)), (Go.Value.int Go.IntKind.i64 (n5))].toArray) = (Go.Value.tuple [(Go.Value.slice (Option.some (Go.Addr.mk 1010 0 Option.none)) (n4) (n4)), (Go.Value.int Go.IntKind.i64 (n5))].toArray)) ∧
 (((Go.Value.int Go.IntKind.i64 (x)) = (Go.Value.int Go.IntKind.i64 (x))) ∧
 True)))) ∧
 ((((Go.Value.int Go.IntKind.i64 (n5)) = (Go.Value.int Go.IntKind.i64 (n5))) ∧
 True) ∧
 (True ∧
 (bcase (n5 != 0)
 (k [(D.val (Go.Value.int Go.IntKind.i64 (0 : Int))), (D.val (Go.Value.int Go.IntKind.i64 (n5)))])
 (L 0 [(Prod.mk 2 (Go.Value.pointer (Option.some (Go.Addr.mk 1000 0 Option.none)))), (Prod.mk 6 (Go.Value.pointer (Option.some (Go.Addr.mk 1001 0 Option.none)))), (Prod.mk 10 (Go.Value.int Go.IntKind.i64 (a))), (Prod.mk 41 (Go.Value.slice (Option.some (Go.Addr.mk 1002 0 Option.none)) (n4) (n4))), (Prod.mk 42 (Go.Value.int Go.IntKind.i64 ((↑n4 : Int)))), (Prod.mk 43 (Go.Value.int Go.IntKind.i64 (0 : Int)))] [(Prod.mk 1000 (AObj.cells [(Go.Value.int Go.IntKind.i64 (a)), (Go.Value.int Go.IntKind.i64 (b)), (Go.Value.int Go.IntKind.i64 (c)), (Go.Value.int Go.IntKind.i64 (d))] 73 false 1)), (Prod.mk 1001 (AObj.cells [(Go.Value.int Go.IntKind.i64 (a)), (Go.Value.int Go.IntKind.i64 (b)), (Go.Value.int Go.IntKind.i64 (c)), (Go.Value.int Go.IntKind.i64 (d))] 112 false 4)), (Prod.mk 1002 (AObj.sym (cs2) true 1))]))))))))))
 False))))))))))))))) := by kernel_rfl
def gRR (C : Ct) (L : AtLoop) (a b c d x : Int) (k : List D → Prop) : Prop := wpFn Try.prog (hG C) L 0 999999 #[vA a b c d, vI x] (heapOf []) (dataK k)
theorem gRR_text (C : Ct) (L : AtLoop) (a : Int) (b : Int) (c : Int) (d : Int) (x : Int) (k : List D → Prop) : gRR C L a b c d x k =
 False := by kernel_rfl
def gIn (C : Ct) (L : AtLoop) (n cap : Nat) (l : List Value) (m cap2 : Nat) (l2 : List Value) (k : List D → Prop) : Prop := wpFn Try.prog (hG C) L 0 15 #[S500 n cap, S501 m cap2] (heapOf [Q500 l, Q501 l2]) (dataK k)
theorem gIn_text (C : Ct) (L : AtLoop) (n : Nat) (cap : Nat) (l : List Go.Value) (m : Nat) (cap2 : Nat) (l2 : List Go.Value) (k : List D → Prop) : gIn C L n cap l m cap2 l2 k =
 (bcase ((↑n : Int) != (↑m : Int))
 (k [(D.val (Go.Value.bool false))])
 (L 0 [(Prod.mk 0 (Go.Value.slice (Option.some (Go.Addr.mk 500 0 Option.none)) (n) (cap))), (Prod.mk 1 (Go.Value.slice (Option.some (Go.Addr.mk 501 0 Option.none)) (m) (cap2))), (Prod.mk 5 (Go.Value.int Go.IntKind.i64 (0 : Int)))] [(Prod.mk 500 (AObj.sym (l) false 1)), (Prod.mk 501 (AObj.sym (l2) false 1))])) := by kernel_rfl
def sFE (n cap : Nat) (i : Int) : Slots := [(5, S500 n cap), (6, .int .i64 n), (7, vI i)]
def rFE (C : Ct) (L : AtLoop) (n cap : Nat) (l : List Value) (i : Int) (B : Bx) (X : Xx) (k : List D → Prop) : Prop := wpRound Try.prog (hG C) L 37 0 (sFE n cap i) [Q500 l] B X (dataK k)
theorem rFE_text (C : Ct) (L : AtLoop) (n : Nat) (cap : Nat) (l : List Go.Value) (i : Int) (B : Bx) (X : Xx) (k : List D → Prop) : rFE C L n cap l i B X k =
 (bcase (decide (i < (↑n : Int)))
 (bcase (decide (0 ≤ i))
 (bcase (decide (i < (↑n : Int)))
 (∃ n1 : Int,
 ((At (l) (0 + Int.toNat i * 1) 1 [(Go.Value.int Go.IntKind.i64 (n1))]) ∧
 (bcase (n1 != 0)
 (k [(D.val (Go.Value.int Go.IntKind.i64 (n1)))])
 (B [(Prod.mk 5 (Go.Value.slice (Option.some (Go.Addr.mk 500 0 Option.none)) (n) (cap))), (Prod.mk 6 (Go.Value.int Go.IntKind.i64 ((↑n : Int)))), (Prod.mk 7 (Go.Value.int Go.IntKind.i64 (Go.IntKind.wrap Go.IntKind.i64 (i + 1))))] [(Prod.mk 500 (AObj.sym (l) false 1))]))))
 False)
 False)
 (X 0 [] [])) := by kernel_rfl
def nFE (C : Ct) (L : AtLoop) (k : List D → Prop) : Prop := wpNext Try.prog (hG C) L 37 0 .normal [] [] (dataK k)
theorem nFE_text (C : Ct) (L : AtLoop) (k : List D → Prop) : nFE C L k =
 (k [(D.val (Go.Value.int Go.IntKind.i64 (0 : Int)))]) := by kernel_rfl
def sCS (a : Int) (n cap : Nat) (i : Int) : Slots := [(0, vI a), (7, S500 n cap), (8, .int .i64 n), (9, vI i)]
def rCS (C : Ct) (L : AtLoop) (a : Int) (n cap : Nat) (l : List Value) (i : Int) (B : Bx) (X : Xx) (k : List D → Prop) : Prop := wpRound Try.prog (hG C) L 38 0 (sCS a n cap i) [Q500 l] B X (dataK k)
theorem rCS_text (C : Ct) (L : AtLoop) (a : Int) (n : Nat) (cap : Nat) (l : List Go.Value) (i : Int) (B : Bx) (X : Xx) (k : List D → Prop) : rCS C L a n cap l i B X k =
 (bcase (decide (i < (↑n : Int)))
 (bcase (decide (0 ≤ i))
 (bcase (decide (i < (↑n : Int)))
 (∃ n1 : Int,
 ((At (l) (0 + Int.toNat i * 1) 1 [(Go.Value.int Go.IntKind.i64 (n1))]) ∧
 (bcase (n1 != a)
 (k [(D.val (Go.Value.int Go.IntKind.i64 (10 : Int)))])
 (B [(Prod.mk 0 (Go.Value.int Go.IntKind.i64 (a))), (Prod.mk 7 (Go.Value.slice (Option.some (Go.Addr.mk 500 0 Option.none)) (n) (cap))), (Prod.mk 8 (Go.Value.int Go.IntKind.i64 ((↑n : Int)))), (Prod.mk 9 (Go.Value.int Go.IntKind.i64 (Go.IntKind.wrap Go.IntKind.i64 (i + 1))))] [(Prod.mk 500 (AObj.sym (l) false 1))]))))
 False)
 False)
 (X 0 [] [])) := by kernel_rfl
def nCS (C : Ct) (L : AtLoop) (k : List D → Prop) : Prop := wpNext Try.prog (hG C) L 38 0 .normal [] [] (dataK k)
theorem nCS_text (C : Ct) (L : AtLoop) (k : List D → Prop) : nCS C L k =
 (k [(D.val (Go.Value.int Go.IntKind.i64 (0 : Int)))]) := by kernel_rfl
def sOu (l7 : Value) (c : Int) (n cap : Nat) (i : Int) : Slots := [(2, P1 1000 0), (6, P1 1001 0), (7, l7), (8, vI c), (13, S500 n cap), (14, .int .i64 n), (15, vI i)]
abbrev oM (a b c d : Int) : Nat × AObj := (1000, .cells [vI a, vI b, vI c, vI d] 112 false 1)
abbrev oL : Nat × AObj := (1001, .cells [vI (-100000), vI 100000] 56 false 2)
def rOu0 (C : Ct) (L : AtLoop) (a b c d x : Int) (n cap : Nat) (l : List Value) (i : Int) (B : Bx) (X : Xx) (k : List D → Prop) : Prop := wpRound Try.prog (hG C) L 62 0 (sOu (.slice none 0 0) x n cap i) [oM a b c d, oL, Q500 l] B X (dataK k)
theorem rOu0_text (C : Ct) (L : AtLoop) (a : Int) (b : Int) (c : Int) (d : Int) (x : Int) (n : Nat) (cap : Nat) (l : List Go.Value) (i : Int) (B : Bx) (X : Xx) (k : List D → Prop) : rOu0 C L a b c d x n cap l i B X k =
 (bcase (decide (i < (↑n : Int)))
 (bcase (decide (0 ≤ i))
 (bcase (decide (i < (↑n : Int)))
 (∃ n1 : Int,
 ((At (l) (0 + Int.toNat i * 1) 1 [(Go.Value.int Go.IntKind.i64 (n1))]) ∧
 (bcase (decide (0 ≤ i))
 (bcase (decide (i < (↑1 : Int)))
 (∃ n2 : Int,
 ((At [(Go.Value.int Go.IntKind.i64 (Go.IntKind.wrap Go.IntKind.i64 (n1 + x)))] (0 + Int.toNat i * 1) 1 [(Go.Value.int Go.IntKind.i64 (n2))]) ∧
 (((((Go.Value.slice (Option.some (Go.Addr.mk 1004 0 Option.none)) 1 1) = (Go.Value.slice (Option.some (Go.Addr.mk 1004 0 Option.none)) 1 1)) ∧
 ((Option.some (AObj.cells [(Go.Value.int Go.IntKind.i64 (n2))] 3 false 1)) = (Option.some (AObj.cells [(Go.Value.int Go.IntKind.i64 (n2))] 3 false 1)))) ∧
 ((∃ n3 : Int,
 ((At [(Go.Value.int Go.IntKind.i64 (Go.IntKind.wrap Go.IntKind.i64 (n1 + x)))] (0 + Int.toNat i * 1) 1 [(Go.Value.int Go.IntKind.i64 (n3))]) ∧
 ((Go.Value.int Go.IntKind.i64 (n3)) = (Go.Value.int Go.IntKind.i64 (n2))))) ∧
 ((bcase (decide (0 ≤ i))
 (bcase (decide (i < (↑1 : Int)))
 ((Go.Value.pointer (Option.some (Go.Addr.mk 1003 (0 + Int.toNat i * 1) Option.none))) = (Go.Value.pointer (Option.some (Go.Addr.mk 1003 (0 + Int.toNat i * 1) Option.none))))
 False)
 False) ∧
 (((Go.Value.int Go.IntKind.i64 (i)) = (Go.Value.int Go.IntKind.i64 (i))) ∧
 (((Go.Value.slice (Option.some (Go.Addr.mk 1003 0 Option.none)) 1 1) = (Go.Value.slice (Option.some (Go.Addr.mk 1003 0 Option.none)) 1 1)) ∧
 (((Go.Value.agg [(Go.Value.int Go.IntKind.i64 (-(99999 + 1) : Int)), (Go.Value.int Go.IntKind.i64 (100000 : Int))].toArray) = (Go.Value.agg [(Go.Value.int Go.IntKind.i64 (-(99999 + 1) : Int)), (Go.Value.int Go.IntKind.i64 (100000 : Int))].toArray)) ∧
 True)))))) ∧
 (((((Go.Value.slice (Option.some (Go.Addr.mk 1004 0 Option.none)) 1 1) = (Go.Value.slice (Option.some (Go.Addr.mk 1004 0 Option.none)) 1 1)) ∧
 ((Option.some (AObj.cells [(Go.Value.int Go.IntKind.i64 (n2))] 3 false 1)) = (Option.some (AObj.cells [(Go.Value.int Go.IntKind.i64 (n2))] 3 false 1)))) ∧
 ((∃ n3 : Int,
 ((At [(Go.Value.int Go.IntKind.i64 (Go.IntKind.wrap Go.IntKind.i64 (n1 + x)))] (0 + Int.toNat i * 1) 1 [(Go.Value.int Go.IntKind.i64 (n3))]) ∧
 ((Go.Value.int Go.IntKind.i64 (n3)) = (Go.Value.int Go.IntKind.i64 (n2))))) ∧
 ((bcase (decide (0 ≤ i))
 (bcase (decide (i < (↑1 : Int)))
 ((Go.Value.pointer (Option.some (Go.Addr.mk 1003 (0 + Int.toNat i * 1) Option.none))) = (Go.Value.pointer (Option.some (Go.Addr.mk 1003 (0 + Int.toNat i * 1) Option.none))))
 False)
 False) ∧
 (((Go.Value.int Go.IntKind.i64 (i)) = (Go.Value.int Go.IntKind.i64 (i))) ∧
 (((Go.Value.slice (Option.some (Go.Addr.mk 1003 0 Option.none)) 1 1) = (Go.Value.slice (Option.some (Go.Addr.mk 1003 0 Option.none)) 1 1)) ∧
 True))))) ∧
 (∃ r1 : Int,
 ((Says witC 0 [(D.val (Go.Value.int Go.IntKind.i64 (-(99999 + 1) : Int))), (D.val (Go.Value.int Go.IntKind.i64 (100000 : Int))), (D.val (Go.Value.int Go.IntKind.i64 (22 : Int))), (D.sl 1 1 [(Go.Value.int Go.IntKind.i64 (n2))])] [(D.val (Go.Value.int Go.IntKind.i64 (r1)))]) ∧
 (((∃ n3 : Int,
 ((At [(Go.Value.int Go.IntKind.i64 (Go.IntKind.wrap Go.IntKind.i64 (n1 + x)))] (0 + Int.toNat i * 1) 1 [(Go.Value.int Go.IntKind.i64 (n3))]) ∧
 ((Go.Value.int Go.IntKind.i64 (n3)) = (Go.Value.int Go.IntKind.i64 (n2))))) ∧
 ((bcase (decide (0 ≤ i))
 (bcase (decide (i < (↑1 : Int)))
 ((Go.Value.pointer (Option.some (Go.Addr.mk 1003 (0 + Int.toNat i * 1) Option.none))) = (Go.Value.pointer (Option.some (Go.Addr.mk 1003 (0 + Int.toNat i * 1) Option.none))))
 False)
 False) ∧
 (((Go.Value.int Go.IntKind.i64 (i)) = (Go.Value.int Go.IntKind.i64 (i))) ∧
 (((Go.Value.slice (Option.some (Go.Addr.mk 1003 0 Option.none)) 1 1) = (Go.Value.slice (Option.some (Go.Addr.mk 1003 0 Option.none)) 1 1)) ∧
 True)))) ∧
 (True ∧
 (bcase (r1 != 0)
 (k [D.nil, (D.val (Go.Value.int Go.IntKind.i64 (r1)))])
 (bcase (decide (i ≥ a))
 (bcase (decide (0 ≤ Go.IntKind.wrap Go.IntKind.i64 (i - a)))
 (bcase (decide (Go.IntKind.wrap Go.IntKind.i64 (i - a) < (↑1 : Int)))
 (∃ n3 : Int,
 ((At [(Go.Value.int Go.IntKind.i64 (Go.IntKind.wrap Go.IntKind.i64 (n1 + x)))] (0 + Int.toNat (Go.IntKind.wrap Go.IntKind.i64 (i - a)) * 1) 1 [(Go.Value.int Go.IntKind.i64 (n3))]) ∧
 (((∃ n4 : Int,
 ((At [(Go.Value.int Go.IntKind.i64 (Go.IntKind.wrap Go.IntKind.i64 (n1 + x)))] (0 + Int.toNat (Go.IntKind.wrap Go.IntKind.i64 (i - a)) * 1) 1 [(Go.Value.int Go.IntKind.i64 (n4))]) ∧
 ((Go.Value.int Go.IntKind.i64 (n4)) = (Go.Value.int Go.IntKind.i64 (n3))))) ∧
 ((bcase (decide (0 ≤ Go.IntKind.wrap Go.IntKind.i64 (i - a)))
 (bcase (decide (Go.IntKind.wrap Go.IntKind.i64 (i - a) < (↑1 : Int)))
 ((Go.Value.pointer (Option.some (Go.Addr.mk 1003 (0 + Int.toNat (Go.IntKind.wrap Go.IntKind.i64 (i - a)) * 1) Option.none))) = (Go.Value.pointer (Option.some (Go.Addr.mk 1003 (0 + Int.toNat (Go.IntKind.wrap Go.IntKind.i64 (i - a)) * 1) Option.none))))
 False)
 False) ∧
 (((Go.Value.int Go.IntKind.i64 (Go.IntKind.wrap Go.IntKind.i64 (i - a))) = (Go.Value.int Go.IntKind.i64 (Go.IntKind.wrap Go.IntKind.i64 (i - a)))) ∧
 (((Go.Value.int Go.IntKind.i64 (a)) = (Go.Value.int Go.IntKind.i64 (a))) ∧
 (((Go.Value.pointer (Option.some (Go.Addr.mk 1000 0 Option.none))) = (Go.Value.pointer (Option.some (Go.Addr.mk 1000 0 Option.none)))) ∧
 (((Go.Value.pointer (Option.some (Go.Addr.mk 1000 0 Option.none))) = (Go.Value.pointer (Option.some (Go.Addr.mk 1000 0 Option.none)))) ∧
 (((Go.Value.int Go.IntKind.i64 (i)) = (Go.Value.int Go.IntKind.i64 (i))) ∧
 (((Go.Value.slice (Option.some (Go.Addr.mk 1003 0 Option.none)) 1 1) = (Go.Value.slice (Option.some (Go.Addr.mk 1003 0 Option.none)) 1 1)) ∧
 (((Go.Value.agg [(Go.Value.int Go.IntKind.i64 (a)), (Go.Value.int Go.IntKind.i64 (b)), (Go.Value.int Go.IntKind.i64 (c)), (Go.Value.int Go.IntKind.i64 (d))].toArray) = (Go.Value.agg [(Go.Value.int Go.IntKind.i64 (a)), (Go.Value.int Go.IntKind.i64 (b)), (Go.Value.int Go.IntKind.i64 (c)), (Go.Value.int Go.IntKind.i64 (d))].toArray)) ∧
 (((Go.Value.int Go.IntKind.i64 (x)) = (Go.Value.int Go.IntKind.i64 (x))) ∧
 True)))))))))) ∧
 (∃ n4 : Int,
 ((Says C 64 [(D.agg [(D.val (Go.Value.int Go.IntKind.i64 (a))), (D.val (Go.Value.int Go.IntKind.i64 (b))), (D.val (Go.Value.int Go.IntKind.i64 (c))), (D.val (Go.Value.int Go.IntKind.i64 (d)))]), (D.val (Go.Value.int Go.IntKind.i64 (n3)))] [(D.val (Go.Value.int Go.IntKind.i64 (n4)))]) ∧
 ((((Go.Value.int Go.IntKind.i64 (Go.IntKind.wrap Go.IntKind.i64 (x - n4))) = (Go.Value.int Go.IntKind.i64 (Go.IntKind.wrap Go.IntKind.i64 (x - n4)))) ∧
 ((bcase (decide (0 ≤ Go.IntKind.wrap Go.IntKind.i64 (i - a)))
 (bcase (decide (Go.IntKind.wrap Go.IntKind.i64 (i - a) < (↑1 : Int)))
 ((Go.Value.pointer (Option.some (Go.Addr.mk 1003 (0 + Int.toNat (Go.IntKind.wrap Go.IntKind.i64 (i - a)) * 1) Option.none))) = (Go.Value.pointer (Option.some (Go.Addr.mk 1003 (0 + Int.toNat (Go.IntKind.wrap Go.IntKind.i64 (i - a)) * 1) Option.none))))
 False)
 False) ∧
 (((Go.Value.int Go.IntKind.i64 (Go.IntKind.wrap Go.IntKind.i64 (i - a))) = (Go.Value.int Go.IntKind.i64 (Go.IntKind.wrap Go.IntKind.i64 (i - a)))) ∧
 (((Go.Value.int Go.IntKind.i64 (a)) = (Go.Value.int Go.IntKind.i64 (a))) ∧
 (((Go.Value.pointer (Option.some (Go.Addr.mk 1000 0 Option.none))) = (Go.Value.pointer (Option.some (Go.Addr.mk 1000 0 Option.none)))) ∧
 (((Go.Value.pointer (Option.some (Go.Addr.mk 1000 0 Option.none))) = (Go.Value.pointer (Option.some (Go.Addr.mk 1000 0 Option.none)))) ∧
 (((Go.Value.int Go.IntKind.i64 (i)) = (Go.Value.int Go.IntKind.i64 (i))) ∧
 (((Go.Value.slice (Option.some (Go.Addr.mk 1003 0 Option.none)) 1 1) = (Go.Value.slice (Option.some (Go.Addr.mk 1003 0 Option.none)) 1 1)) ∧
 (((Go.Value.int Go.IntKind.i64 (x)) = (Go.Value.int Go.IntKind.i64 (x))) ∧
 True))))))))) ∧
 (True ∧
 (B [(Prod.mk 2 (Go.Value.pointer (Option.some (Go.Addr.mk 1000 0 Option.none)))), (Prod.mk 6 (Go.Value.pointer (Option.some (Go.Addr.mk 1001 0 Option.none)))), (Prod.mk 7 (Go.Value.slice (Option.some (Go.Addr.mk 1002 0 Option.none)) 1 1)), (Prod.mk 8 (Go.Value.int Go.IntKind.i64 (Go.IntKind.wrap Go.IntKind.i64 (x - n4)))), (Prod.mk 13 (Go.Value.slice (Option.some (Go.Addr.mk 500 0 Option.none)) (n) (cap))), (Prod.mk 14 (Go.Value.int Go.IntKind.i64 ((↑n : Int)))), (Prod.mk 15 (Go.Value.int Go.IntKind.i64 (Go.IntKind.wrap Go.IntKind.i64 (i + 1))))] [(Prod.mk 1000 (AObj.cells [(Go.Value.int Go.IntKind.i64 (a)), (Go.Value.int Go.IntKind.i64 (b)), (Go.Value.int Go.IntKind.i64 (c)), (Go.Value.int Go.IntKind.i64 (d))] 112 false 1)), (Prod.mk 1001 (AObj.cells [(Go.Value.int Go.IntKind.i64 (-(99999 + 1) : Int)), (Go.Value.int Go.IntKind.i64 (100000 : Int))] 56 false 2)), (Prod.mk 1002 (AObj.sym [(Go.Value.int Go.IntKind.i64 (Go.IntKind.wrap Go.IntKind.i64 (n1 + x)))] true 1)), (Prod.mk 500 (AObj.sym (l) false 1))]))))))))
 False)
 False)
 (B [(Prod.mk 2 (Go.Value.pointer (Option.some (Go.Addr.mk 1000 0 Option.none)))), (Prod.mk 6 (Go.Value.pointer (Option.some (Go.Addr.mk 1001 0 Option.none)))), (Prod.mk 7 (Go.Value.slice (Option.some (Go.Addr.mk 1002 0 Option.none)) 1 1)), (Prod.mk 8 (Go.Value.int Go.IntKind.i64 (x))), (Prod.mk 13 (Go.Value.slice (Option.some (Go.Addr.mk 500 0 Option.none)) (n) (cap))), (Prod.mk 14 (Go.Value.int Go.IntKind.i64 ((↑n : Int)))), (Prod.mk 15 (Go.Value.int Go.IntKind.i64 (Go.IntKind.wrap Go.IntKind.i64 (i + 1))))] [(Prod.mk 1000 (AObj.cells [(Go.Value.int Go.IntKind.i64 (a)), (Go.Value.int Go.IntKind.i64 (b)), (Go.Value.int Go.IntKind.i64 (c)), (Go.Value.int Go.IntKind.i64 (d))] 112 false 1)), (Prod.mk 1001 (AObj.cells [(Go.Value.int Go.IntKind.i64 (-(99999 + 1) : Int)), (Go.Value.int Go.IntKind.i64 (100000 : Int))] 56 false 2)), (Prod.mk 1002 (AObj.sym [(Go.Value.int Go.IntKind.i64 (Go.IntKind.wrap Go.IntKind.i64 (n1 + x)))] true 1)), (Prod.mk 500 (AObj.sym (l) false 1))])))))))))))
 False)
 False)))
 False)
 False)
 (X 0 [(Prod.mk 7 (Go.Value.slice Option.none 0 0))] [])) := by kernel_rfl
def rOu (C : Ct) (L : AtLoop) (a b c d x : Int) (n cap : Nat) (l : List Value) (m mc : Nat) (vs : List Value) (i : Int) (B : Bx) (X : Xx) (k : List D → Prop) : Prop := wpRound Try.prog (hG C) L 62 0 (sOu (.slice (some ⟨1002, 0, none⟩) m mc) x n cap i) [oM a b c d, oL, (1002, .sym vs true 1), Q500 l] B X (dataK k)
theorem rOu_text (C : Ct) (L : AtLoop) (a : Int) (b : Int) (c : Int) (d : Int) (x : Int) (n : Nat) (cap : Nat) (l : List Go.Value) (m : Nat) (mc : Nat) (vs : List Go.Value) (i : Int) (B : Bx) (X : Xx) (k : List D → Prop) : rOu C L a b c d x n cap l m mc vs i B X k =
 (bcase (decide (i < (↑n : Int)))
 (bcase (decide (0 ≤ i))
 (bcase (decide (i < (↑n : Int)))
 (∃ n1 : Int,
 ((At (l) (0 + Int.toNat i * 1) 1 [(Go.Value.int Go.IntKind.i64 (n1))]) ∧
 (bcase (decide (mc < m + 1))
 (bcase (decide ((2 * (m + 1) + 768) * 8 ≤ 281474976710656))
 (bcase (decide (m + 1 ≤ 1099511627776))
 (bcase (decide (0 + m * 1 ≤ List.length vs))
 (bcase (decide (0 + mc * 1 = List.length vs))
 (bcase (decide (0 ≤ i))
 (bcase (decide (i < (↑(m + 1) : Int)))
 (∃ n2 : Int,
 ((At ((List.take (m * 1) (List.drop 0 vs)) ++ [(Go.Value.int Go.IntKind.i64 (Go.IntKind.wrap Go.IntKind.i64 (n1 + x)))]) (0 + Int.toNat i * 1) 1 [(Go.Value.int Go.IntKind.i64 (n2))]) ∧
 (((((Go.Value.slice (Option.some (Go.Addr.mk 1005 0 Option.none)) 1 1) = (Go.Value.slice (Option.some (Go.Addr.mk 1005 0 Option.none)) 1 1)) ∧
 ((Option.some (AObj.cells [(Go.Value.int Go.IntKind.i64 (n2))] 3 false 1)) = (Option.some (AObj.cells [(Go.Value.int Go.IntKind.i64 (n2))] 3 false 1)))) ∧
 ((∃ n3 : Int,
 ((At ((List.take (m * 1) (List.drop 0 vs)) ++ [(Go.Value.int Go.IntKind.i64 (Go.IntKind.wrap Go.IntKind.i64 (n1 + x)))]) (0 + Int.toNat i * 1) 1 [(Go.Value.int Go.IntKind.i64 (n3))]) ∧
 ((Go.Value.int Go.IntKind.i64 (n3)) = (Go.Value.int Go.IntKind.i64 (n2))))) ∧
 ((bcase (decide (0 ≤ i))
 (bcase (decide (i < (↑(m + 1) : Int)))
 ((Go.Value.pointer (Option.some (Go.Addr.mk 1004 (0 + Int.toNat i * 1) Option.none))) = (Go.Value.pointer (Option.some (Go.Addr.mk 1004 (0 + Int.toNat i * 1) Option.none))))
 False)
 False) ∧
 (((Go.Value.int Go.IntKind.i64 (i)) = (Go.Value.int Go.IntKind.i64 (i))) ∧
 (((Go.Value.slice (Option.some (Go.Addr.mk 1004 0 Option.none)) (m + 1) (m + 1)) = (Go.Value.slice (Option.some (Go.Addr.mk 1004 0 Option.none)) (m + 1) (m + 1))) ∧
 (((Go.Value.agg [(Go.Value.int Go.IntKind.i64 (-(99999 + 1) : Int)), (Go.Value.int Go.IntKind.i64 (100000 : Int))].toArray) = (Go.Value.agg [(Go.Value.int Go.IntKind.i64 (-(99999 + 1) : Int)), (Go.Value.int Go.IntKind.i64 (100000 : Int))].toArray)) ∧
 True)))))) ∧
 (((((Go.Value.slice (Option.some (Go.Addr.mk 1005 0 Option.none)) 1 1) = (Go.Value.slice (Option.some (Go.Addr.mk 1005 0 Option.none)) 1 1)) ∧
 ((Option.some (AObj.cells [(Go.Value.int Go.IntKind.i64 (n2))] 3 false 1)) = (Option.some (AObj.cells [(Go.Value.int Go.IntKind.i64 (n2))] 3 false 1)))) ∧
 ((∃ n3 : Int,
 ((At ((List.take (m * 1) (List.drop 0 vs)) ++ [(Go.Value.int Go.IntKind.i64 (Go.IntKind.wrap Go.IntKind.i64 (n1 + x)))]) (0 + Int.toNat i * 1) 1 [(Go.Value.int Go.IntKind.i64 (n3))]) ∧
 ((Go.Value.int Go.IntKind.i64 (n3)) = (Go.Value.int Go.IntKind.i64 (n2))))) ∧
 ((bcase (decide (0 ≤ i))
 (bcase (decide (i < (↑(m + 1) : Int)))
 ((Go.Value.pointer (Option.some (Go.Addr.mk 1004 (0 + Int.toNat i * 1) Option.none))) = (Go.Value.pointer (Option.some (Go.Addr.mk 1004 (0 + Int.toNat i * 1) Option.none))))
 False)
 False) ∧
 (((Go.Value.int Go.IntKind.i64 (i)) = (Go.Value.int Go.IntKind.i64 (i))) ∧
 (((Go.Value.slice (Option.some (Go.Addr.mk 1004 0 Option.none)) (m + 1) (m + 1)) = (Go.Value.slice (Option.some (Go.Addr.mk 1004 0 Option.none)) (m + 1) (m + 1))) ∧
 True))))) ∧
 (∃ r1 : Int,
 ((Says witC 0 [(D.val (Go.Value.int Go.IntKind.i64 (-(99999 + 1) : Int))), (D.val (Go.Value.int Go.IntKind.i64 (100000 : Int))), (D.val (Go.Value.int Go.IntKind.i64 (22 : Int))), (D.sl 1 1 [(Go.Value.int Go.IntKind.i64 (n2))])] [(D.val (Go.Value.int Go.IntKind.i64 (r1)))]) ∧
 (((∃ n3 : Int,
 ((At ((List.take (m * 1) (List.drop 0 vs)) ++ [(Go.Value.int Go.IntKind.i64 (Go.IntKind.wrap Go.IntKind.i64 (n1 + x)))]) (0 + Int.toNat i * 1) 1 [(Go.Value.int Go.IntKind.i64 (n3))]) ∧
 ((Go.Value.int Go.IntKind.i64 (n3)) = (Go.Value.int Go.IntKind.i64 (n2))))) ∧
 ((bcase (decide (0 ≤ i))
 (bcase (decide (i < (↑(m + 1) : Int)))
 ((Go.Value.pointer (Option.some (Go.Addr.mk 1004 (0 + Int.toNat i * 1) Option.none))) = (Go.Value.pointer (Option.some (Go.Addr.mk 1004 (0 + Int.toNat i * 1) Option.none))))
 False)
 False) ∧
 (((Go.Value.int Go.IntKind.i64 (i)) = (Go.Value.int Go.IntKind.i64 (i))) ∧
 (((Go.Value.slice (Option.some (Go.Addr.mk 1004 0 Option.none)) (m + 1) (m + 1)) = (Go.Value.slice (Option.some (Go.Addr.mk 1004 0 Option.none)) (m + 1) (m + 1))) ∧
 True)))) ∧
 (True ∧
 (bcase (r1 != 0)
 (k [D.nil, (D.val (Go.Value.int Go.IntKind.i64 (r1)))])
 (bcase (decide (i ≥ a))
 (bcase (decide (0 ≤ Go.IntKind.wrap Go.IntKind.i64 (i - a)))
 (bcase (decide (Go.IntKind.wrap Go.IntKind.i64 (i - a) < (↑(m + 1) : Int)))
 (∃ n3 : Int,
 ((At ((List.take (m * 1) (List.drop 0 vs)) ++ [(Go.Value.int Go.IntKind.i64 (Go.IntKind.wrap Go.IntKind.i64 (n1 + x)))]) (0 + Int.toNat (Go.IntKind.wrap Go.IntKind.i64 (i - a)) * 1) 1 [(Go.Value.int Go.IntKind.i64 (n3))]) ∧
 (((∃ n4 : Int,
 ((At ((List.take (m * 1) (List.drop 0 vs)) ++ [(Go.Value.int Go.IntKind.i64 (Go.IntKind.wrap Go.IntKind.i64 (n1 + x)))]) (0 + Int.toNat (Go.IntKind.wrap Go.IntKind.i64 (i - a)) * 1) 1 [(Go.Value.int Go.IntKind.i64 (n4))]) ∧
 ((Go.Value.int Go.IntKind.i64 (n4)) = (Go.Value.int Go.IntKind.i64 (n3))))) ∧
 ((bcase (decide (0 ≤ Go.IntKind.wrap Go.IntKind.i64 (i - a)))
 (bcase (decide (Go.IntKind.wrap Go.IntKind.i64 (i - a) < (↑(m + 1) : Int)))
 ((Go.Value.pointer (Option.some (Go.Addr.mk 1004 (0 + Int.toNat (Go.IntKind.wrap Go.IntKind.i64 (i - a)) * 1) Option.none))) = (Go.Value.pointer (Option.some (Go.Addr.mk 1004 (0 + Int.toNat (Go.IntKind.wrap Go.IntKind.i64 (i - a)) * 1) Option.none))))
 False)
 False) ∧
 (((Go.Value.int Go.IntKind.i64 (Go.IntKind.wrap Go.IntKind.i64 (i - a))) = (Go.Value.int Go.IntKind.i64 (Go.IntKind.wrap Go.IntKind.i64 (i - a)))) ∧
 (((Go.Value.int Go.IntKind.i64 (a)) = (Go.Value.int Go.IntKind.i64 (a))) ∧
 (((Go.Value.pointer (Option.some (Go.Addr.mk 1000 0 Option.none))) = (Go.Value.pointer (Option.some (Go.Addr.mk 1000 0 Option.none)))) ∧
 (((Go.Value.pointer (Option.some (Go.Addr.mk 1000 0 Option.none))) = (Go.Value.pointer (Option.some (Go.Addr.mk 1000 0 Option.none)))) ∧
 (((Go.Value.int Go.IntKind.i64 (i)) = (Go.Value.int Go.IntKind.i64 (i))) ∧
 (((Go.Value.slice (Option.some (Go.Addr.mk 1004 0 Option.none)) (m + 1) (m + 1)) = (Go.Value.slice (Option.some (Go.Addr.mk 1004 0 Option.none)) (m + 1) (m + 1))) ∧
 (((Go.Value.agg [(Go.Value.int Go.IntKind.i64 (a)), (Go.Value.int Go.IntKind.i64 (b)), (Go.Value.int Go.IntKind.i64 (c)), (Go.Value.int Go.IntKind.i64 (d))].toArray) = (Go.Value.agg [(Go.Value.int Go.IntKind.i64 (a)), (Go.Value.int Go.IntKind.i64 (b)), (Go.Value.int Go.IntKind.i64 (c)), (Go.Value.int Go.IntKind.i64 (d))].toArray)) ∧
 (((Go.Value.int Go.IntKind.i64 (x)) = (Go.Value.int Go.IntKind.i64 (x))) ∧
 True)))))))))) ∧
 (∃ n4 : Int,
 ((Says C 64 [(D.agg [(D.val (Go.Value.int Go.IntKind.i64 (a))), (D.val (Go.Value.int Go.IntKind.i64 (b))), (D.val (Go.Value.int Go.IntKind.i64 (c))), (D.val (Go.Value.int Go.IntKind.i64 (d)))]), (D.val (Go.Value.int Go.IntKind.i64 (n3)))] [(D.val (Go.Value.int Go.IntKind.i64 (n4)))]) ∧
 ((((Go.Value.int Go.IntKind.i64 (Go.IntKind.wrap Go.IntKind.i64 (x - n4))) = (Go.Value.int Go.IntKind.i64 (Go.IntKind.wrap Go.IntKind.i64 (x - n4)))) ∧
 ((bcase (decide (0 ≤ Go.IntKind.wrap Go.IntKind.i64 (i - a)))
 (bcase (decide (Go.IntKind.wrap Go.IntKind.i64 (i - a) < (↑(m + 1) : Int)))
 ((Go.Value.pointer (Option.some (Go.Addr.mk 1004 (0 + Int.toNat (Go.IntKind.wrap Go.IntKind.i64 (i - a)) * 1) Option.none))) = (Go.Value.pointer (Option.some (Go.Addr.mk 1004 (0 + Int.toNat (Go.IntKind.wrap Go.IntKind.i64 (i - a)) * 1) Option.none))))
 False)
 False) ∧
 (((Go.Value.int Go.IntKind.i64 (Go.IntKind.wrap Go.IntKind.i64 (i - a))) = (Go.Value.int Go.IntKind.i64 (Go.IntKind.wrap Go.IntKind.i64 (i - a)))) ∧
 (((Go.Value.int Go.IntKind.i64 (a)) = (Go.Value.int Go.IntKind.i64 (a))) ∧
 (((Go.Value.pointer (Option.some (Go.Addr.mk 1000 0 Option.none))) = (Go.Value.pointer (Option.some (Go.Addr.mk 1000 0 Option.none)))) ∧
 (((Go.Value.pointer (Option.some (Go.Addr.mk 1000 0 Option.none))) = (Go.Value.pointer (Option.some (Go.Addr.mk 1000 0 Option.none)))) ∧
 (((Go.Value.int Go.IntKind.i64 (i)) = (Go.Value.int Go.IntKind.i64 (i))) ∧
 (((Go.Value.slice (Option.some (Go.Addr.mk 1004 0 Option.none)) (m + 1) (m + 1)) = (Go.Value.slice (Option.some (Go.Addr.mk 1004 0 Option.none)) (m + 1) (m + 1))) ∧
 (((Go.Value.int Go.IntKind.i64 (x)) = (Go.Value.int Go.IntKind.i64 (x))) ∧
 True))))))))) ∧
 (True ∧
 (B [(Prod.mk 2 (Go.Value.pointer (Option.some (Go.Addr.mk 1000 0 Option.none)))), (Prod.mk 6 (Go.Value.pointer (Option.some (Go.Addr.mk 1001 0 Option.none)))), (Prod.mk 7 (Go.Value.slice (Option.some (Go.Addr.mk 1002 0 Option.none)) (m + 1) (m + 1))), (Prod.mk 8 (Go.Value.int Go.IntKind.i64 (Go.IntKind.wrap Go.IntKind.i64 (x - n4)))), (Prod.mk 13 (Go.Value.slice (Option.some (Go.Addr.mk 500 0 Option.none)) (n) (cap))), (Prod.mk 14 (Go.Value.int Go.IntKind.i64 ((↑n : Int)))), (Prod.mk 15 (Go.Value.int Go.IntKind.i64 (Go.IntKind.wrap Go.IntKind.i64 (i + 1))))] [(Prod.mk 1000 (AObj.cells [(Go.Value.int Go.IntKind.i64 (a)), (Go.Value.int Go.IntKind.i64 (b)), (Go.Value.int Go.IntKind.i64 (c)), (Go.Value.int Go.IntKind.i64 (d))] 112 false 1)), (Prod.mk 1001 (AObj.cells [(Go.Value.int Go.IntKind.i64 (-(99999 + 1) : Int)), (Go.Value.int Go.IntKind.i64 (100000 : Int))] 56 false 2)), (Prod.mk 1002 (AObj.sym ((List.take (m * 1) (List.drop 0 vs)) ++ [(Go.Value.int Go.IntKind.i64 (Go.IntKind.wrap Go.IntKind.i64 (n1 + x)))]) true 1)), (Prod.mk 500 (AObj.sym (l) false 1))]))))))))
 False)
 False)
 (B [(Prod.mk 2 (Go.Value.pointer (Option.some (Go.Addr.mk 1000 0 Option.none)))), (Prod.mk 6 (Go.Value.pointer (Option.some (Go.Addr.mk 1001 0 Option.none)))), (Prod.mk 7 (Go.Value.slice (Option.some (Go.Addr.mk 1002 0 Option.none)) (m + 1) (m + 1))), (Prod.mk 8 (Go.Value.int Go.IntKind.i64 (x))), (Prod.mk 13 (Go.Value.slice (Option.some (Go.Addr.mk 500 0 Option.none)) (n) (cap))), (Prod.mk 14 (Go.Value.int Go.IntKind.i64 ((↑n : Int)))), (Prod.mk 15 (Go.Value.int Go.IntKind.i64 (Go.IntKind.wrap Go.IntKind.i64 (i + 1))))] [(Prod.mk 1000 (AObj.cells [(Go.Value.int Go.IntKind.i64 (a)), (Go.Value.int Go.IntKind.i64 (b)), (Go.Value.int Go.IntKind.i64 (c)), (Go.Value.int Go.IntKind.i64 (d))] 112 false 1)), (Prod.mk 1001 (AObj.cells [(Go.Value.int Go.IntKind.i64 (-(99999 + 1) : Int)), (Go.Value.int Go.IntKind.i64 (100000 : Int))] 56 false 2)), (Prod.mk 1002 (AObj.sym ((List.take (m * 1) (List.drop 0 vs)) ++ [(Go.Value.int Go.IntKind.i64 (Go.IntKind.wrap Go.IntKind.i64 (n1 + x)))]) true 1)), (Prod.mk 500 (AObj.sym (l) false 1))])))))))))))
 False)
 False)
 False)
 False)
 False)
 False)
 False)))
 False)
 False)
 (X 0 [(Prod.mk 7 (Go.Value.slice (Option.some (Go.Addr.mk 1000 0 Option.none)) (m) (mc)))] [(Prod.mk 1000 (AObj.sym (vs) true 1))])) := by kernel_rfl
def sRO (l6 : Value) (c : Int) (n cap : Nat) (i : Int) : Slots := [(1, S500 n cap), (2, P1 1000 0), (6, l6), (7, vI c), (8, vI i)]
abbrev oN (a b c d : Int) : Nat × AObj := (1000, .cells [vI a, vI b, vI c, vI d] 73 false 1)
def rRO0 (C : Ct) (L : AtLoop) (a b c d x : Int) (n cap : Nat) (l : List Value) (i : Int) (B : Bx) (X : Xx) (k : List D → Prop) : Prop := wpRound Try.prog (hG C) L 999999 0 (sRO (.slice none 0 0) x n cap i) [Q500 l, oN a b c d] B X (dataK k)
theorem rRO0_text (C : Ct) (L : AtLoop) (a : Int) (b : Int) (c : Int) (d : Int) (x : Int) (n : Nat) (cap : Nat) (l : List Go.Value) (i : Int) (B : Bx) (X : Xx) (k : List D → Prop) : rRO0 C L a b c d x n cap l i B X k =
 False := by kernel_rfl
def rRO (C : Ct) (L : AtLoop) (a b c d x : Int) (n cap : Nat) (l : List Value) (m mc : Nat) (vs : List Value) (i : Int) (B : Bx) (X : Xx) (k : List D → Prop) : Prop := wpRound Try.prog (hG C) L 999999 0 (sRO (.slice (some ⟨1001, 0, none⟩) m mc) x n cap i) [Q500 l, oN a b c d, (1001, .sym vs true 1)] B X (dataK k)
theorem rRO_text (C : Ct) (L : AtLoop) (a : Int) (b : Int) (c : Int) (d : Int) (x : Int) (n : Nat) (cap : Nat) (l : List Go.Value) (m : Nat) (mc : Nat) (vs : List Go.Value) (i : Int) (B : Bx) (X : Xx) (k : List D → Prop) : rRO C L a b c d x n cap l m mc vs i B X k =
 False := by kernel_rfl
def sRM (n cap : Nat) (i : Int) : Slots := [(1, S500 n cap), (2, P1 1000 0), (6, vI i)]
def rRM (C : Ct) (L : AtLoop) (a b c d : Int) (n cap : Nat) (l : List Value) (i : Int) (B : Bx) (X : Xx) (k : List D → Prop) : Prop := wpRound Try.prog (hG C) L 999999 0 (sRM n cap i) [Q500 l, oN a b c d] B X (dataK k)
theorem rRM_text (C : Ct) (L : AtLoop) (a : Int) (b : Int) (c : Int) (d : Int) (n : Nat) (cap : Nat) (l : List Go.Value) (i : Int) (B : Bx) (X : Xx) (k : List D → Prop) : rRM C L a b c d n cap l i B X k =
 False := by kernel_rfl
def nRM (C : Ct) (L : AtLoop) (a b c d : Int) (n cap : Nat) (l : List Value) (k : List D → Prop) : Prop := wpNext Try.prog (hG C) L 999999 0 .normal [(1, S500 n cap), (2, P1 1000 0)] [Q500 l, oN a b c d] (dataK k)
theorem nRM_text (C : Ct) (L : AtLoop) (a : Int) (b : Int) (c : Int) (d : Int) (n : Nat) (cap : Nat) (l : List Go.Value) (k : List D → Prop) : nRM C L a b c d n cap l k =
 False := by kernel_rfl
def sRA (a : Int) (l41 : Value) (n q t : Int) : Slots := [(2, P1 1000 0), (6, P1 1001 0), (10, vI q), (41, l41), (42, vI n), (43, vI t)]
def rRA0 (C : Ct) (L : AtLoop) (a b c d n q t : Int) (B : Bx) (X : Xx) (k : List D → Prop) : Prop := wpRound Try.prog (hG C) L 31 0 (sRA a (.slice none 0 0) n q t) [oN a b c d, (1001, .cells [vI a, vI b, vI c, vI d] 112 false 4)] B X (dataK k)
theorem rRA0_text (C : Ct) (L : AtLoop) (a : Int) (b : Int) (c : Int) (d : Int) (n : Int) (q : Int) (t : Int) (B : Bx) (X : Xx) (k : List D → Prop) : rRA0 C L a b c d n q t B X k =
 (bcase (decide (t < n))
 False
 (X 0 [] [])) := by kernel_rfl
def rRA (C : Ct) (L : AtLoop) (a b c d : Int) (n : Nat) (q t : Int) (l : List Value) (B : Bx) (X : Xx) (k : List D → Prop) : Prop := wpRound Try.prog (hG C) L 31 0 (sRA a (.slice (some ⟨1002, 0, none⟩) n n) n q t) [oN a b c d, (1001, .cells [vI a, vI b, vI c, vI d] 112 false 4), (1002, .sym l true 1)] B X (dataK k)
theorem rRA_text (C : Ct) (L : AtLoop) (a : Int) (b : Int) (c : Int) (d : Int) (n : Nat) (q : Int) (t : Int) (l : List Go.Value) (B : Bx) (X : Xx) (k : List D → Prop) : rRA C L a b c d n q t l B X k =
 (bcase (decide (t < (↑n : Int)))
 (bcase (decide (0 ≤ t))
 (bcase (decide (t < (↑n : Int)))
 (∃ n1 : Int,
 ((At (l) (0 + Int.toNat t * 1) 1 [(Go.Value.int Go.IntKind.i64 (n1))]) ∧
 (∃ n2 : Int,
 ((Says C 64 [(D.agg [(D.val (Go.Value.int Go.IntKind.i64 (a))), (D.val (Go.Value.int Go.IntKind.i64 (b))), (D.val (Go.Value.int Go.IntKind.i64 (c))), (D.val (Go.Value.int Go.IntKind.i64 (d)))]), (D.val (Go.Value.int Go.IntKind.i64 (n1)))] [(D.val (Go.Value.int Go.IntKind.i64 (n2)))]) ∧
 (bcase (n2 != 0)
 (bcase (decide (0 > a))
 (k [(D.val (Go.Value.int Go.IntKind.i64 (t))), (D.val (Go.Value.int Go.IntKind.i64 (0 : Int)))])
 (B [(Prod.mk 2 (Go.Value.pointer (Option.some (Go.Addr.mk 1000 0 Option.none)))), (Prod.mk 6 (Go.Value.pointer (Option.some (Go.Addr.mk 1001 0 Option.none)))), (Prod.mk 10 (Go.Value.int Go.IntKind.i64 (0 : Int))), (Prod.mk 41 (Go.Value.slice (Option.some (Go.Addr.mk 1002 0 Option.none)) (n) (n))), (Prod.mk 42 (Go.Value.int Go.IntKind.i64 ((↑n : Int)))), (Prod.mk 43 (Go.Value.int Go.IntKind.i64 (Go.IntKind.wrap Go.IntKind.i64 (t + 1))))] [(Prod.mk 1000 (AObj.cells [(Go.Value.int Go.IntKind.i64 (a)), (Go.Value.int Go.IntKind.i64 (b)), (Go.Value.int Go.IntKind.i64 (c)), (Go.Value.int Go.IntKind.i64 (d))] 73 false 1)), (Prod.mk 1001 (AObj.cells [(Go.Value.int Go.IntKind.i64 (a)), (Go.Value.int Go.IntKind.i64 (b)), (Go.Value.int Go.IntKind.i64 (c)), (Go.Value.int Go.IntKind.i64 (d))] 112 false 4)), (Prod.mk 1002 (AObj.sym (l) true 1))]))
 (bcase (decide (Go.IntKind.wrap Go.IntKind.i64 (q + 1) > a))
 (k [(D.val (Go.Value.int Go.IntKind.i64 (t))), (D.val (Go.Value.int Go.IntKind.i64 (0 : Int)))])
 (B [(Prod.mk 2 (Go.Value.pointer (Option.some (Go.Addr.mk 1000 0 Option.none)))), (Prod.mk 6 (Go.Value.pointer (Option.some (Go.Addr.mk 1001 0 Option.none)))), (Prod.mk 10 (Go.Value.int Go.IntKind.i64 (Go.IntKind.wrap Go.IntKind.i64 (q + 1)))), (Prod.mk 41 (Go.Value.slice (Option.some (Go.Addr.mk 1002 0 Option.none)) (n) (n))), (Prod.mk 42 (Go.Value.int Go.IntKind.i64 ((↑n : Int)))), (Prod.mk 43 (Go.Value.int Go.IntKind.i64 (Go.IntKind.wrap Go.IntKind.i64 (t + 1))))] [(Prod.mk 1000 (AObj.cells [(Go.Value.int Go.IntKind.i64 (a)), (Go.Value.int Go.IntKind.i64 (b)), (Go.Value.int Go.IntKind.i64 (c)), (Go.Value.int Go.IntKind.i64 (d))] 73 false 1)), (Prod.mk 1001 (AObj.cells [(Go.Value.int Go.IntKind.i64 (a)), (Go.Value.int Go.IntKind.i64 (b)), (Go.Value.int Go.IntKind.i64 (c)), (Go.Value.int Go.IntKind.i64 (d))] 112 false 4)), (Prod.mk 1002 (AObj.sym (l) true 1))])))))))
 False)
 False)
 (X 0 [] [])) := by kernel_rfl
def nRA (C : Ct) (L : AtLoop) (a b c d : Int) (k : List D → Prop) : Prop := wpNext Try.prog (hG C) L 31 0 .normal [] [] (dataK k)
theorem nRA_text (C : Ct) (L : AtLoop) (a : Int) (b : Int) (c : Int) (d : Int) (k : List D → Prop) : nRA C L a b c d k =
 (k [(D.val (Go.Value.int Go.IntKind.i64 (0 : Int))), (D.val (Go.Value.int Go.IntKind.i64 (21 : Int)))]) := by kernel_rfl
def sRR (l6 : Value) (x t : Int) : Slots := [(1, vI x), (2, P1 1000 0), (6, l6), (7, vI t)]
def rRR0 (C : Ct) (L : AtLoop) (a b c d x t : Int) (B : Bx) (X : Xx) (k : List D → Prop) : Prop := wpRound Try.prog (hG C) L 999999 0 (sRR (.slice none 0 0) x t) [oN a b c d] B X (dataK k)
theorem rRR0_text (C : Ct) (L : AtLoop) (a : Int) (b : Int) (c : Int) (d : Int) (x : Int) (t : Int) (B : Bx) (X : Xx) (k : List D → Prop) : rRR0 C L a b c d x t B X k =
 False := by kernel_rfl
def rRR (C : Ct) (L : AtLoop) (a b c d x t : Int) (m mc : Nat) (vs : List Value) (B : Bx) (X : Xx) (k : List D → Prop) : Prop := wpRound Try.prog (hG C) L 999999 0 (sRR (.slice (some ⟨1001, 0, none⟩) m mc) x t) [oN a b c d, (1001, .sym vs true 1)] B X (dataK k)
theorem rRR_text (C : Ct) (L : AtLoop) (a : Int) (b : Int) (c : Int) (d : Int) (x : Int) (t : Int) (m : Nat) (mc : Nat) (vs : List Go.Value) (B : Bx) (X : Xx) (k : List D → Prop) : rRR C L a b c d x t m mc vs B X k =
 False := by kernel_rfl
def sIn (n cap m cap2 : Nat) (i : Int) : Slots := [(0, S500 n cap), (1, S501 m cap2), (5, vI i)]
def rIn (C : Ct) (L : AtLoop) (n cap : Nat) (l : List Value) (m cap2 : Nat) (l2 : List Value) (i : Int) (B : Bx) (X : Xx) (k : List D → Prop) : Prop := wpRound Try.prog (hG C) L 15 0 (sIn n cap m cap2 i) [Q500 l, Q501 l2] B X (dataK k)
theorem rIn_text (C : Ct) (L : AtLoop) (n : Nat) (cap : Nat) (l : List Go.Value) (m : Nat) (cap2 : Nat) (l2 : List Go.Value) (i : Int) (B : Bx) (X : Xx) (k : List D → Prop) : rIn C L n cap l m cap2 l2 i B X k =
 (bcase (decide (i < (↑n : Int)))
 (bcase (decide (0 ≤ i))
 (bcase (decide (i < (↑n : Int)))
 (∃ n1 : Int,
 ((At (l) (0 + Int.toNat i * 1) 1 [(Go.Value.int Go.IntKind.i64 (n1))]) ∧
 (bcase (decide (0 ≤ i))
 (bcase (decide (i < (↑m : Int)))
 (∃ n2 : Int,
 ((At (l2) (0 + Int.toNat i * 1) 1 [(Go.Value.int Go.IntKind.i64 (n2))]) ∧
 (bcase (n1 != n2)
 (((bcase (n1 != n2)
 ((Go.Value.bool true) = (Go.Value.bool true))
 ((Go.Value.bool false) = (Go.Value.bool true))) ∧
 ((∃ n3 : Int,
 ((At (l2) (0 + Int.toNat i * 1) 1 [(Go.Value.int Go.IntKind.i64 (n3))]) ∧
 ((Go.Value.int Go.IntKind.i64 (n3)) = (Go.Value.int Go.IntKind.i64 (n2))))) ∧
 ((bcase (decide (0 ≤ i))
 (bcase (decide (i < (↑m : Int)))
 ((Go.Value.pointer (Option.some (Go.Addr.mk 501 (0 + Int.toNat i * 1) Option.none))) = (Go.Value.pointer (Option.some (Go.Addr.mk 501 (0 + Int.toNat i * 1) Option.none))))
 False)
 False) ∧
 (((Go.Value.int Go.IntKind.i64 (i)) = (Go.Value.int Go.IntKind.i64 (i))) ∧
 (((Go.Value.slice (Option.some (Go.Addr.mk 501 0 Option.none)) (m) (cap2)) = (Go.Value.slice (Option.some (Go.Addr.mk 501 0 Option.none)) (m) (cap2))) ∧
 ((∃ n3 : Int,
 ((At (l) (0 + Int.toNat i * 1) 1 [(Go.Value.int Go.IntKind.i64 (n3))]) ∧
 ((Go.Value.int Go.IntKind.i64 (n3)) = (Go.Value.int Go.IntKind.i64 (n1))))) ∧
 ((bcase (decide (0 ≤ i))
 (bcase (decide (i < (↑n : Int)))
 ((Go.Value.pointer (Option.some (Go.Addr.mk 500 (0 + Int.toNat i * 1) Option.none))) = (Go.Value.pointer (Option.some (Go.Addr.mk 500 (0 + Int.toNat i * 1) Option.none))))
 False)
 False) ∧
 (((Go.Value.int Go.IntKind.i64 (i)) = (Go.Value.int Go.IntKind.i64 (i))) ∧
 (((Go.Value.slice (Option.some (Go.Addr.mk 500 0 Option.none)) (n) (cap)) = (Go.Value.slice (Option.some (Go.Addr.mk 500 0 Option.none)) (n) (cap))) ∧
 True))))))))) ∧
 (k [(D.val (Go.Value.bool false))]))
 (((bcase (n1 != n2)
 ((Go.Value.bool true) = (Go.Value.bool false))
 ((Go.Value.bool false) = (Go.Value.bool false))) ∧
 ((∃ n3 : Int,
 ((At (l2) (0 + Int.toNat i * 1) 1 [(Go.Value.int Go.IntKind.i64 (n3))]) ∧
 ((Go.Value.int Go.IntKind.i64 (n3)) = (Go.Value.int Go.IntKind.i64 (n2))))) ∧
 ((bcase (decide (0 ≤ i))
 (bcase (decide (i < (↑m : Int)))
 ((Go.Value.pointer (Option.some (Go.Addr.mk 501 (0 + Int.toNat i * 1) Option.none))) = (Go.Value.pointer (Option.some (Go.Addr.mk 501 (0 + Int.toNat i * 1) Option.none))))
 False)
 False) ∧
 (((Go.Value.int Go.IntKind.i64 (i)) = (Go.Value.int Go.IntKind.i64 (i))) ∧
 (((Go.Value.slice (Option.some (Go.Addr.mk 501 0 Option.none)) (m) (cap2)) = (Go.Value.slice (Option.some (Go.Addr.mk 501 0 Option.none)) (m) (cap2))) ∧
 ((∃ n3 : Int,
 ((At (l) (0 + Int.toNat i * 1) 1 [(Go.Value.int Go.IntKind.i64 (n3))]) ∧
 ((Go.Value.int Go.IntKind.i64 (n3)) = (Go.Value.int Go.IntKind.i64 (n1))))) ∧
 ((bcase (decide (0 ≤ i))
 (bcase (decide (i < (↑n : Int)))
 ((Go.Value.pointer (Option.some (Go.Addr.mk 500 (0 + Int.toNat i * 1) Option.none))) = (Go.Value.pointer (Option.some (Go.Addr.mk 500 (0 + Int.toNat i * 1) Option.none))))
 False)
 False) ∧
 (((Go.Value.int Go.IntKind.i64 (i)) = (Go.Value.int Go.IntKind.i64 (i))) ∧
 (((Go.Value.slice (Option.some (Go.Addr.mk 500 0 Option.none)) (n) (cap)) = (Go.Value.slice (Option.some (Go.Addr.mk 500 0 Option.none)) (n) (cap))) ∧
 True))))))))) ∧
 (B [(Prod.mk 0 (Go.Value.slice (Option.some (Go.Addr.mk 500 0 Option.none)) (n) (cap))), (Prod.mk 1 (Go.Value.slice (Option.some (Go.Addr.mk 501 0 Option.none)) (m) (cap2))), (Prod.mk 5 (Go.Value.int Go.IntKind.i64 (Go.IntKind.wrap Go.IntKind.i64 (i + 1))))] [(Prod.mk 500 (AObj.sym (l) false 1)), (Prod.mk 501 (AObj.sym (l2) false 1))])))))
 False)
 False)))
 False)
 False)
 (X 0 [] [])) := by kernel_rfl
def nIn (C : Ct) (L : AtLoop) (k : List D → Prop) : Prop := wpNext Try.prog (hG C) L 15 0 .normal [] [] (dataK k)
theorem nIn_text (C : Ct) (L : AtLoop) (k : List D → Prop) : nIn C L k =
 (k [(D.val (Go.Value.bool true))]) := by kernel_rfl
def nOu0 (C : Ct) (L : AtLoop) (k : List D → Prop) : Prop := wpNext Try.prog (hG C) L 62 0 .normal [(7, .slice none 0 0)] [] (dataK k)
theorem nOu0_text (C : Ct) (L : AtLoop) (k : List D → Prop) : nOu0 C L k =
 (k [D.nil, (D.val (Go.Value.int Go.IntKind.i64 (0 : Int)))]) := by kernel_rfl
def nOu (C : Ct) (L : AtLoop) (m mc : Nat) (vs : List Value) (k : List D → Prop) : Prop := wpNext Try.prog (hG C) L 62 0 .normal [(7, .slice (some ⟨1000, 0, none⟩) m mc)] [(1000, .sym vs true 1)] (dataK k)
theorem nOu_text (C : Ct) (L : AtLoop) (m : Nat) (mc : Nat) (vs : List Go.Value) (k : List D → Prop) : nOu C L m mc vs k =
 ((((m) = (mc)) ∧
 ((List.length vs) = (m * 1))) ∧
 (k [(D.sl (m) 1 (vs)), (D.val (Go.Value.int Go.IntKind.i64 (0 : Int)))])) := by kernel_rfl
def nRO0 (C : Ct) (L : AtLoop) (k : List D → Prop) : Prop := wpNext Try.prog (hG C) L 999999 0 .normal [(6, .slice none 0 0)] [] (dataK k)
theorem nRO0_text (C : Ct) (L : AtLoop) (k : List D → Prop) : nRO0 C L k =
 False := by kernel_rfl
def nRO (C : Ct) (L : AtLoop) (m mc : Nat) (vs : List Value) (k : List D → Prop) : Prop := wpNext Try.prog (hG C) L 999999 0 .normal [(6, .slice (some ⟨1000, 0, none⟩) m mc)] [(1000, .sym vs true 1)] (dataK k)
theorem nRO_text (C : Ct) (L : AtLoop) (m : Nat) (mc : Nat) (vs : List Go.Value) (k : List D → Prop) : nRO C L m mc vs k =
 False := by kernel_rfl
def nRR (C : Ct) (L : AtLoop) (a b c d x : Int) (m : Nat) (vs : List Value) (k : List D → Prop) : Prop := wpNext Try.prog (hG C) L 999999 0 .normal [(1, vI x), (2, P1 1000 0), (6, .slice (some ⟨1001, 0, none⟩) m m)] [oN a b c d, (1001, .sym vs true 1)] (dataK k)
theorem nRR_text (C : Ct) (L : AtLoop) (a : Int) (b : Int) (c : Int) (d : Int) (x : Int) (m : Nat) (vs : List Go.Value) (k : List D → Prop) : nRR C L a b c d x m vs k =
 False := by kernel_rfl
def fRe (C : Ct) (cap : Nat) (x : Int) (k : List D → Prop) : Prop := wpFn Try.prog (hE C) (fun _ _ _ => False) 12 63 #[S500 1 cap, vI 501] (heapOf [Q500 [vI x]]) (dataK k)
end Go.Proofs.G5b

/- Chapter 5: monitors in data: outputs, rest. -/
namespace Go.Proofs.G5
open Go Go.Abs
/-- the size of a number -/
def szI (y : Int) : Int := if -y > y then -y else y
/-- what is taken from the correction for an output -/
def tk (nu de ba y : Int) : Int := if szI y ≤ ba then 0 else (nu * y).tdiv de
/-- the outputs, none if one is too great -/
def outs (D : Nat) (f : Int → Int) : List Int → Int → List Int → Option (List Int)
  | done, _, [] => some done
  | done, c, d :: r => if -100000 ≤ d + c ∧ d + c ≤ 100000 then outs D f (done ++ [d + c]) (c - if D ≤ done.length then f ((done ++ [d + c]).getD (done.length - D) 0) else 0) r else none
/-- the first tick after which it rests -/
def restGo (D : Int) (f : Int → Int) : Int → Int → List Int → Int × Int
  | _, _, [] => (0, 21)
  | q, t, y :: r => if (if f y ≠ 0 then 0 else q + 1) > D then (t, 0) else restGo D f (if f y ≠ 0 then 0 else q + 1) (t + 1) r
/-! ### a constant disturbance -/
def hist (D : Nat) (f : Int → Int) (d : Int) : Nat → List Int × Int
  | 0 => ([], 0)
  | t + 1 => ((hist D f d t).1 ++ [d + (hist D f d t).2], (hist D f d t).2 - if D ≤ t then f (((hist D f d t).1 ++ [d + (hist D f d t).2]).getD (t - D) 0) else 0)
def Y (D : Nat) (f : Int → Int) (d : Int) (t : Nat) : Int := d + (hist D f d t).2
variable {D : Nat} {f : Int → Int} {d : Int}
theorem hist_eq : ∀ t, (hist D f d t).1 = (List.range t).map (Y D f d)
  | 0 => rfl
  | t + 1 => by
    show (hist D f d t).1 ++ [d + (hist D f d t).2] = _
    rw [hist_eq t, List.range_succ, List.map_append]; rfl
theorem hist_len (t : Nat) : (hist D f d t).1.length = t := by rw [hist_eq]; simp
theorem Y_succ (t : Nat) : Y D f d (t + 1) = Y D f d t - if D ≤ t then f (Y D f d (t - D)) else 0 := by
  show d + ((hist D f d t).2 - if D ≤ t then f (((hist D f d t).1 ++ [d + (hist D f d t).2]).getD (t - D) 0) else 0) = d + (hist D f d t).2 - _
  have e : (hist D f d t).1 ++ [d + (hist D f d t).2] = (List.range (t + 1)).map (Y D f d) := hist_eq (t + 1)
  rw [e]
  have : ((List.range (t + 1)).map (Y D f d)).getD (t - D) 0 = Y D f d (t - D) := by
    rw [List.getD_eq_getElem?_getD, List.getElem?_map, List.getElem?_range (by omega)]; rfl
  rw [this]
  omega
def okY (D : Nat) (f : Int → Int) (d : Int) (t : Nat) : Prop := -100000 ≤ Y D f d t ∧ Y D f d t ≤ 100000
instance (t : Nat) : Decidable (okY D f d t) := by unfold okY; infer_instance
theorem outs_hist : ∀ (k t : Nat), outs D f (hist D f d t).1 (hist D f d t).2 (List.replicate k d) = if ∀ i, i < k → okY D f d (t + i) then some ((List.range (t + k)).map (Y D f d)) else none
  | 0, t => by
    rw [if_pos (fun i hi => absurd hi (by omega))]
    show some _ = _
    rw [hist_eq]; rfl
  | k + 1, t => by
    rw [List.replicate_succ, outs]
    by_cases h : -100000 ≤ d + (hist D f d t).2 ∧ d + (hist D f d t).2 ≤ 100000
    · rw [if_pos h, hist_len]
      have ih := outs_hist k (t + 1)
      rw [show outs D f ((hist D f d t).1 ++ [d + (hist D f d t).2]) ((hist D f d t).2 - if D ≤ t then f (((hist D f d t).1 ++ [d + (hist D f d t).2]).getD (t - D) 0) else 0) (List.replicate k d) = outs D f (hist D f d (t + 1)).1 (hist D f d (t + 1)).2 (List.replicate k d) from rfl, ih]
      have e : (∀ i, i < k → okY D f d (t + 1 + i)) ↔ (∀ i, i < k + 1 → okY D f d (t + i)) := by
        constructor
        · intro hh i hi
          cases i with
          | zero => exact h
          | succ i => have := hh i (by omega); rwa [show t + 1 + i = t + (i + 1) by omega] at this
        · intro hh i hi
          have := hh (i + 1) (by omega)
          rwa [show t + (i + 1) = t + 1 + i by omega] at this
      rw [show t + 1 + k = t + (k + 1) by omega]
      by_cases hc : ∀ i, i < k + 1 → okY D f d (t + i)
      · rw [if_pos hc, if_pos (e.2 hc)]
      · rw [if_neg hc, if_neg (fun x => hc (e.1 x))]
    · rw [if_neg h, if_neg (fun hh => h (hh 0 (by omega)))]
theorem outs_rep (k : Nat) : outs D f [] 0 (List.replicate k d) = if ∀ i, i < k → okY D f d i then some ((List.range k).map (Y D f d)) else none := by
  have := outs_hist (D := D) (f := f) (d := d) k 0
  simpa [hist] using this
/-! ### rest -/
/-- nothing is taken for the last outputs -/
def Qt (D : Nat) (f : Int → Int) (d : Int) (t : Nat) : Prop := ∀ s, s ≤ t → t ≤ s + D → f (Y D f d s) = 0
theorem rest_same {t0 : Nat} (h : Qt D f d t0) : ∀ k, Y D f d (t0 + k) = Y D f d t0 := by
  intro k
  induction k using Nat.strongRecOn with
  | ind k ih =>
    cases k with
    | zero => rfl
    | succ k =>
      rw [show t0 + (k + 1) = (t0 + k) + 1 by omega, Y_succ, ih k (by omega)]
      by_cases hD : D ≤ t0 + k
      · rw [if_pos hD]
        by_cases hk : t0 + k - D ≤ t0
        · rw [h _ hk (by omega)]; omega
        · have e := ih (k - D) (by omega)
          rw [show t0 + k - D = t0 + (k - D) by omega, e, h t0 (by omega) (by omega)]; omega
      · rw [if_neg hD]; omega
theorem rest_first {t0 : Nat} (h : Qt D f d (t0 + 1)) (hn : ¬ Qt D f d t0) : Y D f d t0 ≠ Y D f d (t0 + 1) := by
  have : D ≤ t0 ∧ f (Y D f d (t0 - D)) ≠ 0 := by
    apply Classical.byContradiction
    intro hc
    apply hn
    intro s hs1 hs2
    by_cases he : s + D = t0
    · apply Classical.byContradiction
      intro hf
      exact hc ⟨by omega, by rw [show t0 - D = s by omega]; exact hf⟩
    · exact h s (by omega) (by omega)
  rw [Y_succ, if_pos this.1]
  omega
/-- the count of quiet outputs before a tick -/
def qb (D : Nat) (f : Int → Int) (d : Int) : Nat → Int
  | 0 => D
  | t + 1 => if f (Y D f d t) ≠ 0 then 0 else qb D f d t + 1
theorem qb_nn : ∀ t, 0 ≤ qb D f d t
  | 0 => by unfold qb; omega
  | t + 1 => by
    have := qb_nn t
    unfold qb; split <;> omega
/-- it is at least n if the last n outputs before are quiet -/
theorem qb_ge : ∀ (t n : Nat), n ≤ D + t → ((n : Int) ≤ qb D f d t ↔ ∀ s, s < t → t ≤ s + n → f (Y D f d s) = 0)
  | 0, n, hn => ⟨fun _ s hs => absurd hs (by omega), fun _ => by unfold qb; omega⟩
  | t + 1, n, hn => by
    unfold qb
    cases n with
    | zero =>
      refine ⟨fun _ s h1 h2 => absurd h1 (by omega), fun _ => ?_⟩
      have h0 : ∀ t, 0 ≤ qb D f d t := qb_nn
      have := h0 t
      split <;> omega
    | succ n =>
      have ih := qb_ge t n (by omega)
      by_cases h : f (Y D f d t) = 0
      · rw [if_neg (by simpa using h)]
        constructor
        · intro hq s h1 h2
          by_cases hs : s = t
          · rw [hs]; exact h
          · exact ih.1 (by omega) s (by omega) (by omega)
        · intro hh
          have := ih.2 (fun s h1 h2 => hh s (by omega) (by omega))
          omega
      · rw [if_pos h]
        constructor
        · intro hq; omega
        · intro hh; exact absurd (hh t (by omega) (by omega)) h
theorem qb_quiet (t : Nat) : qb D f d (t + 1) > D ↔ Qt D f d t := by
  have := qb_ge (D := D) (f := f) (d := d) (t + 1) (D + 1) (by omega)
  constructor
  · intro h s h1 h2
    exact this.1 (by omega) s (by omega) (by omega)
  · intro h
    have := this.2 (fun s h1 h2 => h s (by omega) (by omega))
    omega
theorem restGo_at : ∀ (k t : Nat), (∀ i, i < t → ¬ Qt D f d i) →
    (∃ t0, t0 < t + k ∧ Qt D f d t0 ∧ (∀ i, i < t0 → ¬ Qt D f d i) ∧ restGo D f (qb D f d t) t ((List.range' t k).map (Y D f d)) = ((t0 : Int), 0)) ∨
    ((∀ i, i < t + k → ¬ Qt D f d i) ∧ restGo D f (qb D f d t) t ((List.range' t k).map (Y D f d)) = (0, 21))
  | 0, t, h => .inr ⟨by simpa using h, rfl⟩
  | k + 1, t, h => by
    rw [List.range'_succ, List.map_cons, restGo]
    have e : (if f (Y D f d t) ≠ 0 then 0 else qb D f d t + 1) = qb D f d (t + 1) := rfl
    rw [e]
    by_cases hq : Qt D f d t
    · rw [if_pos ((qb_quiet t).2 hq)]
      exact .inl ⟨t, by omega, hq, h, rfl⟩
    · rw [if_neg (fun x => hq ((qb_quiet t).1 x))]
      have ih := restGo_at k (t + 1) (fun i hi => by
        by_cases he : i = t
        · rw [he]; exact hq
        · exact h i (by omega))
      rw [show ((t : Nat) : Int) + 1 = ((t + 1 : Nat) : Int) by omega]
      rw [show t + (k + 1) = t + 1 + k by omega]
      exact ih
theorem rest_cases (k : Nat) :
    (∃ t0, t0 < k ∧ Qt D f d t0 ∧ (∀ i, i < t0 → ¬ Qt D f d i) ∧ restGo D f D 0 ((List.range k).map (Y D f d)) = ((t0 : Int), 0)) ∨
    ((∀ i, i < k → ¬ Qt D f d i) ∧ restGo D f D 0 ((List.range k).map (Y D f d)) = (0, 21)) := by
  have := restGo_at (D := D) (f := f) (d := d) k 0 (fun i hi => absurd hi (by omega))
  rw [← List.range_eq_range'] at this
  have e : qb D f d 0 = (D : Int) := rfl
  rw [e] at this
  simpa using this
/-- the first place from which on all are the same -/
def runAt (l : List Int) : Nat → Nat
  | 0 => 0
  | n + 1 => if l.getD n 0 = l.getD (n + 1) 0 then runAt l n else n + 1
open Classical in
/-- after how many ticks it rests, by the definition -/
noncomputable def restRef (D : Nat) (f : Int → Int) (d : Int) : Int × Int :=
  match outs D f [] 0 (List.replicate 501 d) with
  | none => (0, 22)
  | some out =>
    match outs D f [] 0 (List.replicate (501 + D + 1) d) with
    | none => (0, 21)
    | some more => if ∀ t, runAt out 500 ≤ t → t < 501 + D + 1 → more.getD t 0 = out.getD (runAt out 500) 0 then ((runAt out 500 : Nat), 0) else (0, 21)
/-- after how many ticks it rests -/
def restV (D : Nat) (f : Int → Int) (d : Int) : Int × Int :=
  match outs D f [] 0 (List.replicate 501 d) with
  | none => (0, 22)
  | some out => restGo D f D 0 out
theorem getD_Y (k i : Nat) (h : i < k) : ((List.range k).map (Y D f d)).getD i 0 = Y D f d i := by
  rw [List.getD_eq_getElem?_getD, List.getElem?_map, List.getElem?_range h]; rfl
theorem runAt_le (l : List Int) : ∀ n, runAt l n ≤ n
  | 0 => Nat.le_refl _
  | n + 1 => by unfold runAt; have := runAt_le l n; split <;> omega
theorem runAt_same (l : List Int) : ∀ n i, runAt l n ≤ i → i ≤ n → l.getD i 0 = l.getD n 0
  | 0, i, _, h => by rw [show i = 0 by omega]
  | n + 1, i, h1, h2 => by
    unfold runAt at h1
    split at h1
    · rename_i e
      by_cases hi : i = n + 1
      · rw [hi]
      · rw [runAt_same l n i h1 (by omega), e]
    · rw [show i = n + 1 by omega]
theorem runAt_diff (l : List Int) : ∀ n t, runAt l n = t + 1 → l.getD t 0 ≠ l.getD (t + 1) 0
  | 0, t, h => by unfold runAt at h; omega
  | n + 1, t, h => by
    unfold runAt at h
    split at h
    · exact runAt_diff l n t h
    · rename_i e
      rw [show t = n by omega]; exact e
theorem rest_eq : restRef D f d = restV D f d := by
  unfold restRef restV
  rw [outs_rep, outs_rep]
  by_cases h : ∀ i, i < 501 → okY D f d i
  · rw [if_pos h]
    simp only
    rcases rest_cases (D := D) (f := f) (d := d) 501 with ⟨t0, ht, hq, hm, he⟩ | ⟨hn, he⟩
    · rw [he]
      have hs := rest_same hq
      have hrun : runAt ((List.range 501).map (Y D f d)) 500 = t0 := by
        have hle := runAt_le ((List.range 501).map (Y D f d)) 500
        apply Classical.byContradiction
        intro hne
        by_cases hlt : runAt ((List.range 501).map (Y D f d)) 500 < t0
        · have s1 := runAt_same ((List.range 501).map (Y D f d)) 500 (t0 - 1) (by omega) (by omega)
          have s2 := runAt_same ((List.range 501).map (Y D f d)) 500 t0 (by omega) (by omega)
          rw [getD_Y _ _ (by omega), getD_Y _ _ (by omega)] at s1 s2
          have := rest_first (t0 := t0 - 1) (by rw [show t0 - 1 + 1 = t0 by omega]; exact hq) (hm _ (by omega))
          rw [show t0 - 1 + 1 = t0 by omega] at this
          omega
        · have := runAt_diff ((List.range 501).map (Y D f d)) 500 (runAt ((List.range 501).map (Y D f d)) 500 - 1) (by omega)
          rw [getD_Y _ _ (by omega), getD_Y _ _ (by omega)] at this
          have a1 := hs (runAt ((List.range 501).map (Y D f d)) 500 - 1 - t0)
          have a2 := hs (runAt ((List.range 501).map (Y D f d)) 500 - 1 + 1 - t0)
          rw [show t0 + (runAt ((List.range 501).map (Y D f d)) 500 - 1 - t0) = runAt ((List.range 501).map (Y D f d)) 500 - 1 by omega] at a1
          rw [show t0 + (runAt ((List.range 501).map (Y D f d)) 500 - 1 + 1 - t0) = runAt ((List.range 501).map (Y D f d)) 500 - 1 + 1 by omega] at a2
          omega
      have hok : ∀ i, i < 501 + D + 1 → okY D f d i := by
        intro i hi
        by_cases h5 : i < 501
        · exact h i h5
        · have := hs (i - t0)
          rw [show t0 + (i - t0) = i by omega] at this
          unfold okY; rw [this]; exact h t0 ht
      rw [if_pos hok, hrun]
      simp only
      rw [if_pos]
      intro t h1 h2
      rw [getD_Y _ _ h2, getD_Y _ _ ht]
      have := hs (t - t0)
      rw [show t0 + (t - t0) = t by omega] at this
      exact this
    · rw [he]
      by_cases hok : ∀ i, i < 501 + D + 1 → okY D f d i
      · rw [if_pos hok]
        simp only
        rw [if_neg]
        intro hall
        have hle := runAt_le ((List.range 501).map (Y D f d)) 500
        refine hn (runAt ((List.range 501).map (Y D f d)) 500) (by omega) ?_
        intro s h1 h2
        have b1 := hall (s + D) (by omega) (by omega)
        have b2 := hall (s + D + 1) (by omega) (by omega)
        rw [getD_Y _ _ (by omega)] at b1 b2
        rw [Y_succ, if_pos (by omega), b1, show s + D - D = s by omega] at b2
        omega
      · rw [if_neg hok]
  · rw [if_neg h]
end Go.Proofs.G5

/- Chapter 5: monitors that rest: what is true of them. -/
namespace Go.Proofs.G5
open Go Go.Abs
variable {D : Nat} {f : Int → Int} {d : Int}
/-- nothing is ever taken -/
theorem Y_zero (h : ∀ y, f y = 0) : ∀ t, Y D f d t = d
  | 0 => by show d + 0 = d; omega
  | t + 1 => by rw [Y_succ, Y_zero h t]; split <;> (try rw [h]) <;> omega
theorem tk_zero (de ba y : Int) : tk 0 de ba y = 0 := by
  unfold tk; split
  · rfl
  · rw [Int.zero_mul, Int.zero_tdiv]
/-- if it does not rest, there is a gain -/
theorem rest_err {nu de ba : Int} (hd : -10000 ≤ d ∧ d ≤ 10000) (h : (restV D (tk nu de ba) d).2 ≠ 0) : ((restV D (tk nu de ba) d).2 = 21 ∨ (restV D (tk nu de ba) d).2 = 22) ∧ (restV D (tk nu de ba) d).1 = 0 ∧ nu ≠ 0 := by
  have hz : nu = 0 → (restV D (tk nu de ba) d).2 = 0 := by
    intro h0
    subst h0
    have hy := Y_zero (D := D) (d := d) (tk_zero de ba)
    unfold restV
    rw [outs_rep, if_pos (fun i _ => by unfold okY; rw [hy]; omega)]
    show (restGo _ _ _ _ _).2 = 0
    rcases rest_cases (D := D) (f := tk 0 de ba) (d := d) 501 with ⟨t0, _, _, _, he⟩ | ⟨hn, _⟩
    · rw [he]
    · exact absurd (fun s _ _ => tk_zero de ba _) (hn 0 (by omega))
  refine ⟨?_, ?_, fun h0 => h (hz h0)⟩
  · unfold restV at h ⊢
    rw [outs_rep] at h ⊢
    by_cases hok : ∀ i, i < 501 → okY D (tk nu de ba) d i
    · rw [if_pos hok] at h ⊢
      simp only at h ⊢
      rcases rest_cases (D := D) (f := tk nu de ba) (d := d) 501 with ⟨t0, _, _, _, he⟩ | ⟨_, he⟩
      · rw [he] at h; exact absurd rfl h
      · rw [he]; exact .inl rfl
    · rw [if_neg hok]; exact .inr rfl
  · unfold restV at h ⊢
    rw [outs_rep] at h ⊢
    by_cases hok : ∀ i, i < 501 → okY D (tk nu de ba) d i
    · rw [if_pos hok] at h ⊢
      simp only at h ⊢
      rcases rest_cases (D := D) (f := tk nu de ba) (d := d) 501 with ⟨t0, _, _, _, he⟩ | ⟨_, he⟩
      · rw [he] at h; exact absurd rfl h
      · rw [he]
    · rw [if_neg hok]
/-- if it rests -/
theorem rest_ok (h : (restV D f d).2 = 0) : ∃ t0 : Nat, t0 < 501 ∧ (restV D f d).1 = t0 ∧ (∀ i, i < 501 → okY D f d i) ∧ (∀ t, t0 ≤ t → Y D f d t = Y D f d t0) ∧ (0 < t0 → Y D f d (t0 - 1) ≠ Y D f d t0) ∧ f (Y D f d t0) = 0 := by
  unfold restV at h ⊢
  rw [outs_rep] at h ⊢
  by_cases hok : ∀ i, i < 501 → okY D f d i
  · rw [if_pos hok] at h ⊢
    simp only at h ⊢
    rcases rest_cases (D := D) (f := f) (d := d) 501 with ⟨t0, ht, hq, hm, he⟩ | ⟨_, he⟩
    · rw [he]
      refine ⟨t0, ht, rfl, hok, fun t htt => ?_, fun h0 => ?_, hq t0 (by omega) (by omega)⟩
      · have := rest_same hq (t - t0)
        rwa [show t0 + (t - t0) = t by omega] at this
      · have := rest_first (t0 := t0 - 1) (by rw [show t0 - 1 + 1 = t0 by omega]; exact hq) (hm _ (by omega))
        rwa [show t0 - 1 + 1 = t0 by omega] at this
    · rw [he] at h; exact absurd h (by decide)
  · rw [if_neg hok] at h
    have h : (22 : Int) = 0 := h
    omega
/-- nothing is taken: the output is in the band, or too small -/
theorem tk_none {nu de ba y : Int} (hnu : 0 ≤ nu) (hde : 0 < de) (h : tk nu de ba y = 0) : szI y ≤ ba ∨ nu * szI y < de := by
  unfold tk at h
  split at h
  · rename_i hb; exact .inl hb
  · right
    have hs : ∀ z : Int, 0 ≤ z → z.tdiv de = 0 → z < de := by
      intro z hz h0
      rw [Int.tdiv_eq_ediv_of_nonneg hz] at h0
      have h1 := Int.emod_add_mul_ediv z de
      have h2 := Int.emod_lt_of_pos z hde
      rw [h0, Int.mul_zero] at h1
      omega
    unfold szI
    split
    · rename_i hy
      have e : nu * -y = -(nu * y) := by rw [Int.mul_neg]
      refine hs _ (Int.mul_nonneg hnu (by omega)) ?_
      rw [e, Int.neg_tdiv, h]; rfl
    · rename_i hy
      exact hs _ (Int.mul_nonneg hnu (by omega)) h
end Go.Proofs.G5
