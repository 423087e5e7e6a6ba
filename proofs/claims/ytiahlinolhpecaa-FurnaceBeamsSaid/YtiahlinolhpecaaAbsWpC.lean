/- A region whose order is drawn, in continuations. -/
import Derived.Test.YtiahlinolhpecaaAbsWpB
namespace Go.Abs
open Go.RowKit
variable {P : Program} {ρ : Ren} {w0 w : World} {H : Heap} {h : Handler}
variable {ρ0 : Ren} {H0 : Heap} {ops : Array Oper} {D shut : List Nat} {listed : Array Bool} {A : AAct} {a : Act}

theorem Inv.turnK (iv : Inv w0 ρ0 H0 ops D shut listed ρ A H a w) (hh : HandlerOK P h) (hf : flowGood ops = true) {rC : Option Nat} {n : Nat} {Q : Exit → Act → World → Prop} {i : Nat} {o : Oper} (hi : ops[i]? = some o) (_hm : isMajor o = true) (hD : i ∉ D) (hr : ∀ p ∈ bAfter o, listed.getD p false = true)
    {k : AAct → Heap → Prop} (hk : (wantedA ops A o = some true ∧ wpOp P h o A H k) ∨ (wantedA ops A o = some false ∧ k (A.put o.dst undef) H)) {K : Act → World → Prop}
    (hK : ∀ ρ' A' H' a' w', k A' H' → A'.size = A.size → Inv w0 ρ0 H0 ops (i :: D) (i :: (bAfter o ++ shut)) (listed.setIfInBounds i true) ρ' A' H' a' w' → K a' w') : wpOpIn (Fr rC) n P ops Q i K a w := by
  have hilt : i < listed.size := by rw [iv.lsize]; exact (Array.getElem?_eq_some_iff.1 hi).1
  have hset : (listed.setIfInBounds i true).getD i false = true := by simp [Array.getD_eq_getD_getElem?, hilt]
  have hunl : ∀ j, (listed.setIfInBounds i true).getD j false = false → i ≠ j ∧ listed.getD j false = false := by
    intro j hj
    have hne : i ≠ j := fun e => by subst e; rw [hset] at hj; cases hj
    exact ⟨hne, by rw [← getD_set_ne false hne]; exact hj⟩
  have hll := iv.looks hf hi hr
  have core : ∀ (ρ' : Ren) (v v' : Value) (w' : World) (H' : Heap), VR ρ' v v' → Gam w0 ρ' H' w' → Ext ρ ρ' H H' → (∀ a' w', Inv w0 ρ0 H0 ops (i :: D) (i :: (bAfter o ++ shut)) (listed.setIfInBounds i true) ρ' (A.put o.dst v) H' a' w' → K a' w') → K (a.put o.dst v') w' := by
    intro ρ' v v' w' H' hv g' ext' hK
    refine hK _ w' ⟨g', iv.ext.trans ext', iv.gb, by rw [csize_put, asize_put]; exact iv.size, ?_, ?_, by simpa using iv.lsize, ?_, ?_, ?_, ⟨⟨o, hi, fun p hp => iv.sub p (hr p hp)⟩, iv.topo⟩, ?_, ?_⟩
    · rw [cdefers_put, adefers_put]
      exact ⟨iv.defers.1, fun i D' e => let ⟨m, h1, h2⟩ := iv.defers.2 i D' e; ⟨m, ext'.le _ _ h1, h2⟩⟩
    · intro t ht
      rw [cslot_put, aslot_put, iv.size]
      by_cases e : o.dst = some t ∧ t < A.size
      · rw [if_pos e, if_pos e]; exact hv
      · rw [if_neg e, if_neg e]
        refine (iv.slot t ?_).mono ext'.le
        intro j oj hj huj hoj
        have hne : i ≠ j := fun e => hD (e ▸ hj)
        exact ht j oj (List.mem_cons_of_mem _ hj) (by rw [getD_set_ne false hne]; exact huj) hoj
    · intro j hj
      by_cases hij : i = j
      · exact hij ▸ List.mem_cons_self ..
      · exact List.mem_cons_of_mem _ (iv.sub j (by rw [← getD_set_ne false hij]; exact hj))
    · intro j oj hj hoj hmj
      rcases List.mem_cons.1 hj with rfl | hj
      · exact hset
      · exact getD_set_true (iv.maj j oj hj hoj hmj)
    · intro j oj hj hoj p hp
      by_cases hij : i = j
      · subst hij; rw [hi] at hoj; cases hoj; exact getD_set_true (hr p hp)
      · exact getD_set_true (iv.clL j oj (by rw [← getD_set_ne false hij]; exact hj) hoj p hp)
    · intro j hj
      rcases List.mem_cons.1 hj with rfl | hj
      · exact hset
      · rcases List.mem_append.1 hj with hj | hj
        · exact getD_set_true (hr j hj)
        · exact getD_set_true (iv.shutL j hj)
    · intro j oj d b hj huj hoj hal hd hbk
      obtain ⟨hij, huj⟩ := hunl j huj
      have hjD : j ∈ D := by
        rcases List.mem_cons.1 hj with e | hj
        · exact absurd e.symm hij
        · exact hj
      have hdne : o.dst ≠ some d := flow_dst hf hi hoj hij hd
      rw [aslot_put, if_neg (fun h => hdne h.1)] at hbk
      obtain ⟨h1, h2, h3⟩ := iv.pend j oj d b hjD huj hoj hal hd hbk
      exact ⟨(ext'.keep b h3 h1).1, h2, Nat.lt_of_lt_of_le h3 ext'.next⟩
  unfold wpOpIn
  simp only [hi]
  rcases hk with ⟨hw, hk⟩ | ⟨hw, hk⟩
  · rw [if_pos (wanted_L hll hw)]
    refine wpOp_L hh iv.gam hll hk ?_
    intro ρ' v v' w' H' hv hk' g' ext'
    exact core ρ' v v' w' H' hv g' ext' (fun a' w' iv' => hK ρ' _ H' a' w' hk' (asize_put' _ _ _) iv')
  · rw [if_neg (by rw [wanted_L hll hw]; simp)]
    exact ⟨fun f _ => Fr_fn _ f, core ρ undef undef w _ (VR.undef _) iv.gam (.refl _ _) (fun a' w' iv' => hK ρ _ _ a' w' hk (asize_put' _ _ _) iv')⟩

theorem wpMinor_out {ops : Array Oper} {o : Oper} {k : AAct → Heap → Prop} (hk : wpMinor P ops A H o k) : ∃ A' H', execMinor P ops A H o = some (A', H') ∧ k A' H' ∧ A'.size = A.size := by
  unfold wpMinor at hk
  split at hk
  · cases hk
  rename_i hr
  cases hw : wantedA ops A o with
  | none => simp [hw] at hk
  | some wb =>
    cases wb with
    | false =>
      simp only [hw] at hk
      exact ⟨_, _, by simp [execMinor, hr, minorA, hw], hk, asize_put' _ _ _⟩
    | true =>
      simp only [hw] at hk
      cases hal : allocOf P A.eval o with
      | some kx =>
        obtain ⟨m, x⟩ := kx
        simp only [hal] at hk
        exact ⟨_, _, by simp [execMinor, hr, minorA, hw, hal], hk, asize_put' _ _ _⟩
      | none =>
        simp only [hal] at hk
        split at hk
        · cases hk
        rename_i hia
        obtain ⟨v, H', hv, hk⟩ := wpVop_out hk
        exact ⟨_, _, by simp [execMinor, hr, minorA, hw, hal, hv, hia], hk, asize_put' _ _ _⟩

theorem stillK_out {ops : Array Oper} {j : Nat} (hk : stillK P ops A H j) : StillP P ops A H j := by
  unfold stillK at hk
  cases hj : ops[j]? with
  | none => simp [hj] at hk
  | some o =>
    refine ⟨o, hj, ?_⟩
    simp only [hj] at hk
    cases hw : wantedA ops A o with
    | none => simp [hw] at hk
    | some wb =>
      cases wb with
      | false =>
        refine .inl ⟨rfl, fun d hd => ?_⟩
        simp only [hw, hd] at hk
        split at hk
        · rename_i hlt; exact ⟨hlt, hk⟩
        · cases hk
      | true =>
        refine .inr ⟨rfl, ?_⟩
        simp only [hw] at hk
        cases hal : allocOf P A.eval o with
        | some kx =>
          obtain ⟨m, x⟩ := kx
          simp only [hal] at hk
          cases hd : o.dst with
          | none => simp [hd] at hk
          | some d =>
            simp only [hd] at hk
            split at hk
            · rename_i hlt
              cases hb : blk (A.slot d) with
              | none => simp [hb] at hk
              | some i =>
                simp only [hb] at hk
                exact .inl ⟨m, x, d, i, rfl, rfl, hlt, hb, hk.1, hk.2⟩
            · cases hk
        | none =>
          simp only [hal] at hk
          split at hk
          · cases hk
          rename_i hia
          obtain ⟨v, H', hv, hk⟩ := wpVop_out hk
          refine .inr ⟨rfl, by simpa using hia, v, H', hv, fun d hd => ?_⟩
          simp only [hd] at hk
          split at hk
          · rename_i hlt; exact ⟨hlt, hk⟩
          · cases hk

theorem allK_out {ops : Array Oper} {again : List Nat} : ∀ (l : List Nat), allK P ops A H again l → (∀ j ∈ l, StillP P ops A H j) ∧ distinctOk (again.map (laid ops A)) = true
  | [], hk => ⟨fun j hj => (List.not_mem_nil hj).elim, (bcase_out hk).1⟩
  | j :: r, ⟨h1, h2⟩ => by
    obtain ⟨q1, q2⟩ := allK_out r h2
    refine ⟨fun i hi => ?_, q2⟩
    rcases List.mem_cons.1 hi with rfl | hi
    · exact stillK_out h1
    · exact q1 i hi

theorem run_minorsK (hf : flowGood ops = true) {k : AAct → Heap → Prop} : ∀ (rest : List PItem) {D : List Nat} {A : AAct} {H : Heap}, planGood ops rest D shut = true → wpAny P h ops rest A H k → Inv w0 ρ0 H0 ops D shut listed ρ A H a w →
    ∃ x rest' D' A' H', PItem.stops x = true ∧ planGood ops (x :: rest') D' shut = true ∧ wpAny P h ops (x :: rest') A' H' k ∧ Inv w0 ρ0 H0 ops D' shut listed ρ A' H' a w ∧ A'.size = A.size := by
  intro rest
  induction rest with
  | nil => intro D A H hp; simp [planGood] at hp
  | cons x rest ih =>
    intro D A H hp hk iv
    cases x with
    | major i again => exact ⟨_, _, _, _, _, rfl, hp, hk, iv, rfl⟩
    | last again => exact ⟨_, _, _, _, _, rfl, hp, hk, iv, rfl⟩
    | minor i =>
      simp only [planGood] at hp
      simp only [wpAny] at hk
      cases hi : ops[i]? with
      | none => simp [hi] at hp
      | some o =>
        simp only [hi, Bool.and_eq_true, Bool.not_eq_true'] at hp hk
        obtain ⟨⟨⟨h1, h2⟩, h3⟩, h4⟩ := hp
        obtain ⟨A1, H1, he, hk, hsz⟩ := wpMinor_out hk
        obtain ⟨x', r', D', A', H', q1, q2, q3, q4, q5⟩ := ih h4 hk (iv.minor hf hi h1 (by simpa using h2) (fun p hp => by simpa using List.all_eq_true.1 h3 p hp) he)
        exact ⟨x', r', D', A', H', q1, q2, q3, q4, q5.trans hsz⟩

theorem Inv.doneK (iv : Inv w0 ρ0 H0 ops D shut listed ρ A H a w) {x : PItem} {rest : List PItem} {k : AAct → Heap → Prop} (hst : x.stops = true) (hp : planGood ops (x :: rest) D shut = true) (hk : wpAny P h ops (x :: rest) A H k) (hnil : Region.ready .any ops listed = []) :
    k A H ∧ Fin w0 ρ0 H0 A H a w := by
  have hall := iv.topo.all iv.lsize hnil
  cases x with
  | minor i => cases hst
  | major i again =>
    exfalso
    simp only [planGood] at hp
    cases hi : ops[i]? with
    | none => simp [hi] at hp
    | some o =>
      simp only [hi, Bool.and_eq_true, Bool.not_eq_true'] at hp
      obtain ⟨⟨⟨⟨⟨h1, h2⟩, h3⟩, h4⟩, h5⟩, h6⟩ := hp
      have hjlt : i < listed.size := by rw [iv.lsize]; exact (Array.getElem?_eq_some_iff.1 hi).1
      have hl : listed.getD i false = false := by
        cases hl : listed.getD i false with
        | false => rfl
        | true => have := iv.sub i hl; simp at h2; exact absurd this h2
      have : i ∈ Region.ready .any ops listed := mem_ready.2 ⟨by rw [← hl]; simp [Array.getD_eq_getD_getElem?, hjlt], o, hi, bAfter_ready.2 (fun p hp => hall p (by simpa using List.all_eq_true.1 h3 p hp))⟩
      rw [hnil] at this
      cases this
  | last again =>
    simp only [wpAny] at hk
    refine ⟨hk.2, ρ, ⟨iv.size, fun t => iv.slot t (fun j o hj hun => ?_), iv.defers⟩, iv.gam, iv.ext⟩
    rw [hall j hj] at hun
    cases hun

theorem any_walkK (hh : HandlerOK P h) (hf : flowGood ops = true) {rC : Option Nat} {n : Nat} {Q : Exit → Act → World → Prop} {k : AAct → Heap → Prop} {sz : Nat} (hQ : ∀ A' H' a w, k A' H' → A'.size = sz → Fin w0 ρ0 H0 A' H' a w → Q .normal a w) : ∀ (fuel : Nat) {D shut : List Nat} {listed : Array Bool} {ρ : Ren} {A : AAct} {H : Heap} {a : Act} {w : World} {x : PItem} {rest : List PItem},
    x.stops = true → planGood ops (x :: rest) D shut = true → wpAny P h ops (x :: rest) A H k → Inv w0 ρ0 H0 ops D shut listed ρ A H a w → A.size = sz → listed.toList.count true + fuel = ops.size → wpAnyIn (Fr rC) n P .any ops Q fuel listed a w := by
  intro fuel
  induction fuel with
  | zero =>
    intro D shut listed ρ A H a w x rest hst hp hk iv hsz hc
    have hnil : Region.ready .any ops listed = [] := by
      have hall : ∀ b ∈ listed.toList, true = b := List.count_eq_length.1 (by have := iv.lsize; simp at hc ⊢; omega)
      refine List.eq_nil_iff_forall_not_mem.2 fun j hj => ?_
      obtain ⟨h0, o, hj, _⟩ := mem_ready.1 hj
      have hjlt : j < listed.size := by rw [iv.lsize]; exact (Array.getElem?_eq_some_iff.1 hj).1
      have := hall listed[j] (by simp)
      simp [Array.getD_eq_getD_getElem?, hjlt, ← this] at h0
    exact ⟨hnil, hQ _ _ _ _ (iv.doneK hst hp hk hnil).1 hsz (iv.doneK hst hp hk hnil).2⟩
  | succ fuel ih =>
    intro D shut listed ρ A H a w x rest hst hp hk iv hsz hc
    refine ⟨fun hnil => hQ _ _ _ _ (iv.doneK hst hp hk hnil).1 hsz (iv.doneK hst hp hk hnil).2, fun i hi => ?_⟩
    obtain ⟨h0, o, hi, hr⟩ := mem_ready.1 hi
    have hr := bAfter_ready.1 hr
    have hilt : i < listed.size := by rw [iv.lsize]; exact (Array.getElem?_eq_some_iff.1 hi).1
    have hun : listed.getD i false = false := by simpa [Array.getD_eq_getD_getElem?, hilt] using h0
    have hcount : (listed.setIfInBounds i true).toList.count true + fuel = ops.size := by
      have hg : listed.toList[i]'(by simpa using hilt) = false := by simpa [Array.getD_eq_getD_getElem?, hilt] using h0
      rw [Array.toList_setIfInBounds, List.count_set (by simpa using hilt), hg]
      simp
      simp at hc
      omega
    by_cases hD : i ∈ D
    · -- laid ahead
      have hagain : ∀ again : List Nat, (D.all (fun j => shut.contains j || again.contains j) = true) → ∀ j ∈ D, listed.getD j false = false → j ∈ again := by
        intro again hc j hj hu
        have := List.all_eq_true.1 hc j hj
        simp only [Bool.or_eq_true] at this
        rcases this with h | h
        · rw [iv.shutL j (by simpa using h)] at hu; cases hu
        · simpa using h
      have go : ∀ again, allK P ops A H again again → D.all (fun j => shut.contains j || again.contains j) = true → wpOpIn (Fr rC) n P ops Q i (wpAnyIn (Fr rC) n P .any ops Q fuel (listed.setIfInBounds i true)) a w := by
        intro again hall hcov
        have hmem := hagain again hcov
        obtain ⟨hall1, hall2⟩ := allK_out again hall
        refine iv.pending hf hi hD hun hr (hall1 i (hmem i hD hun)) ?_ (fun ρ' a' w' iv' => ih hst hp hk iv' hsz hcount)
        intro j' o' d d' b hj' hne hu' ho' hal' hal hd' hd hbk
        have e1 : laid ops A i = some b := by simp [laid, hi, hal, hd, hbk]
        have := distinct_two (f := laid ops A) hall2 (hmem i hD hun) (hmem j' hj' hu') (fun e => hne e.symm) e1
        simpa [laid, ho', hal', hd'] using this
      cases x with
      | minor _ => cases hst
      | major k' again =>
        simp only [planGood] at hp
        simp only [wpAny] at hk
        cases hk' : ops[k']? with
        | none => simp [hk'] at hp
        | some ok =>
          have hp' := hp
          simp only [hk', Bool.and_eq_true] at hp'
          exact go again hk.1 hp'.1.2
      | last again =>
        have hp' := hp
        simp only [planGood, Bool.and_eq_true] at hp'
        simp only [wpAny] at hk
        exact go again hk.1 hp'.2
    · cases x with
      | minor _ => cases hst
      | last again =>
        simp only [planGood, Bool.and_eq_true] at hp
        have := List.all_eq_true.1 hp.1 i (List.mem_range.2 (Array.getElem?_eq_some_iff.1 hi).1)
        exact absurd (by simpa using this) hD
      | major k' again =>
        simp only [planGood] at hp
        simp only [wpAny] at hk
        cases hk' : ops[k']? with
        | none => simp [hk'] at hp
        | some ok =>
          simp only [hk', Bool.and_eq_true, Bool.not_eq_true'] at hp hk
          obtain ⟨⟨⟨⟨⟨h1, h2⟩, h3⟩, h4⟩, h5⟩, h6⟩ := hp
          have hik : i = k' := by
            have := List.all_eq_true.1 h4 i (List.mem_range.2 (Array.getElem?_eq_some_iff.1 hi).1)
            simp only [hi, Option.map_some, Option.getD_some, Bool.or_eq_true, beq_iff_eq, Bool.not_eq_true'] at this
            rcases this with (e | e) | e
            · exact e
            · exact absurd (by simpa using e) hD
            · exfalso
              have : (bAfter o).all D.contains = true := List.all_eq_true.2 (fun p hp => by simpa using iv.sub p (hr p hp))
              rw [this] at e
              cases e
          subst hik
          rw [hi] at hk'
          cases hk'
          have hk2 := hk.2
          refine iv.turnK (k := fun A' H' => wpAny P h ops rest A' H' k) hh hf hi h1 hD hr ?_ (fun ρ' A' H' a' w' hk3 hs3 iv' => ?_)
          · cases hw : wantedA ops A o with
            | none => simp [hw] at hk2
            | some wb =>
              cases wb with
              | true => simp only [hw] at hk2; exact .inl ⟨rfl, hk2⟩
              | false => simp only [hw] at hk2; exact .inr ⟨rfl, hk2⟩
          · obtain ⟨x', rest', D', A2, H2, q1, q2, q3, q4, q5⟩ := run_minorsK hf rest h6 hk3 iv'
            exact ih q1 q2 q3 q4 (q5.trans (hs3.trans hsz)) hcount

theorem wpAny_sound (hh : HandlerOK P h) (hmix : P.follows .mixedOrders = true) (g : Gam w0 ρ H w) {rC : Option Nat} {id : Nat} {A : AAct} {a : Act} {k : AAct → Heap → Prop} {Q : Exit → Act → World → Prop} (n : Nat) (ra : ActR ρ A a)
    (hgood : regionGood ops = true) (hk : wpAny P h ops (plan ops) A H k) (K : ∀ ρ' A' H' a' w', k A' H' → A'.size = A.size → ActR ρ' A' a' → Gam w0 ρ' H' w' → Ext ρ ρ' H H' → Q .normal a' w') : (Code.region id ops true).wpIn (Fr rC) n P Q a w := by
  simp only [regionGood, Bool.and_eq_true] at hgood
  have iv : Inv w0 ρ H ops [] [] (Array.replicate ops.size false) ρ A H a { w with drawn := w.drawn + 1 } := by
    have hrep : ∀ j, (Array.replicate ops.size false).getD j false = false := by
      intro j
      simp only [Array.getD_eq_getD_getElem?, Array.getElem?_replicate]
      split <;> rfl
    exact ⟨gam_drew g, .refl _ _, g.gb, ra.size, ra.defers, fun t _ => ra.slot t, by simp, fun j hj => (by rw [hrep] at hj; cases hj), fun j o hj => (by cases hj), fun j o hj => (by rw [hrep] at hj; cases hj), trivial, fun j hj => (by cases hj), fun j o d b hj => (by cases hj)⟩
  obtain ⟨x, rest', D', A1, H1, q1, q2, q3, q4, q5⟩ := run_minorsK hgood.2 (plan ops) hgood.1 hk iv
  exact wpIn_region_any hmix (any_walkK hh hgood.2 (fun A' H' a w hk hs ⟨ρ', r1, r2, r3⟩ => K ρ' A' H' a w hk hs r1 r2 r3) ops.size q1 q2 q3 q4 q5 (by simp [List.count_replicate]))
end Go.Abs
