/- append: the evaluator is sound. -/
import Derived.Test.YtiahlinolhpecaaAbsAppend
namespace Go.Abs
open Go.RowKit
variable {P : Program} {ρ : Ren} {w0 w : World} {H : Heap}

/-- A block whose cells go on under a new number. -/
theorem Gam.move (g : Gam w0 ρ H w) {i : Nat} {m n : Meta} {o x d : AObj} {w' : World} (hm : ρ i = some m) (hi : gbase ≤ i) (ho : H.get i = some o) (ha : o.alive = true) (hd : d.alive = false)
    (hb : n.b = m.b) (hs : w'.heap.size = w.heap.size) (hk : ∀ k, k ≠ m.b → w'.heap[k]? = w.heap[k]?) (h1 : w'.os = w.os) (h2 : w'.tape = w.tape) (h3 : w'.output = w.output)
    (hr : ObjR (ρ.put H.next n) w' n x) (hrd : ObjR ρ w' m d) :
    Gam w0 (ρ.put H.next n) ((H.set i d).new x) w' ∧ Ext ρ (ρ.put H.next n) H ((H.set i d).new x) := by
  have hle := g.le_put n
  have hlt := g.lt hm
  have hown := g.own i m hm
  have hnn : ∀ j, ((H.set i d).new x).get j = if j = H.next then some x else if j = i then some d else H.get j := by
    intro j
    rw [Heap.get_new, Heap.get_set]
    rfl
  refine ⟨⟨Nat.le_trans g.gb (by simp), ?_, ⟨h1.trans g.below.os, h2.trans g.below.tape, h3.trans g.below.output, by rw [hs]; exact g.below.size, fun k hk' => (hk k (by have := hown.2.1 hi; omega)).trans (g.below.block k hk')⟩, ?_, ?_, ?_, ?_, ?_⟩, ⟨hle, by simp, ?_⟩⟩
  · intro j hj
    simp only [Heap.next_new, Heap.next_set] at hj
    have : j ≠ H.next := by omega
    simp only [Ren.put, this, if_false]
    exact g.fresh j (by omega)
  · intro j mj hj
    rw [hs]
    simp only [Ren.put] at hj
    split at hj
    · cases hj
      rw [hb]
      exact ⟨hown.1, fun _ => hown.2.1 hi, fun h => by have := g.gb; omega⟩
    · exact g.own j mj hj
  · intro j mj hj hjb
    simp only [Ren.put] at hj
    split at hj
    · have := g.gb; unfold gbase abase at *; omega
    · exact g.glob j mj hj hjb
  · have conv : ∀ j, j ≠ H.next → ((H.set i d).new x).live j → H.live j ∧ j ≠ i := by
      rintro j hj ⟨oj, gj, aj⟩
      rw [hnn, if_neg hj] at gj
      split at gj
      · cases gj; rw [hd] at aj; cases aj
      · rename_i e; exact ⟨⟨oj, gj, aj⟩, e⟩
    intro j k mj mk hgj hj hk' ej ek hbb
    simp only [Ren.put] at ej ek
    by_cases e1 : j = H.next
    · by_cases e2 : k = H.next
      · rw [e1, e2]
      · obtain ⟨lk, nk⟩ := conv k e2 hk'
        simp only [e1, if_true, Option.some.injEq] at ej
        simp only [e2, if_false] at ek
        subst ej
        exact absurd (g.inj i k m mk hi ⟨o, ho, ha⟩ lk hm ek (by rw [← hbb, hb])).symm nk
    · obtain ⟨lj, nj⟩ := conv j e1 hj
      simp only [e1, if_false] at ej
      by_cases e2 : k = H.next
      · simp only [e2, if_true, Option.some.injEq] at ek
        subst ek
        exact absurd (g.inj i j m mj hi ⟨o, ho, ha⟩ lj hm ej (by rw [hbb, hb])).symm nj
      · obtain ⟨lk, nk⟩ := conv k e2 hk'
        simp only [e2, if_false] at ek
        exact g.inj j k mj mk hgj lj lk ej ek hbb
  · intro j mj y hj hy
    rw [hnn] at hy
    simp only [Ren.put] at hj
    by_cases e1 : j = H.next
    · simp only [e1, if_true, Option.some.injEq] at hj hy
      subst hj hy
      exact hr
    · simp only [e1, if_false] at hj hy
      by_cases e2 : j = i
      · simp only [e2, if_true, Option.some.injEq] at hy
        subst hy
        rw [e2, hm] at hj
        cases hj
        exact hrd.mono hle (fun _ => rfl)
      · simp only [e2, if_false] at hy
        refine (g.obj j mj y hj hy).mono hle (fun hal => hk _ ?_)
        intro hbb
        exact e2 (g.inj i j m mj hi ⟨o, ho, ha⟩ ⟨y, hy, hal⟩ hm hj hbb.symm).symm
  · intro j hj hn
    rw [hnn, if_neg (by have := g.gb; unfold gbase abase at *; omega)] at hn
    split at hn
    · rename_i e; exact ⟨m, by rw [e]; exact hle _ _ hm⟩
    · obtain ⟨mm, hmm⟩ := g.gmap j hj hn
      exact ⟨mm, hle _ _ hmm⟩
  · intro j hj hn
    have e1 : j ≠ H.next := by omega
    have e2 : j ≠ i := fun e => by rw [e, hm] at hn; cases hn
    exact ⟨by simp [Ren.put, e1, hn], by rw [hnn, if_neg e1, if_neg e2]⟩

/-- A block that is given up. -/
theorem Gam.die (g : Gam w0 ρ H w) {i : Nat} {m : Meta} {o d : AObj} (hm : ρ i = some m) (hi : gbase ≤ i) (ho : H.get i = some o) (ha : o.alive = true) (hr : ObjR ρ w m d) :
    Gam w0 ρ (H.set i d) w ∧ Ext ρ ρ H (H.set i d) :=
  g.update hm hi ho ha rfl (fun _ _ => rfl) rfl rfl rfl hr

theorem LR.all_len {l l' : List Value} (h : LR ρ l l') : l'.length = l.length := h.length.symm

/-- A new array behind append. -/
theorem Gam.grown (g : Gam w0 ρ H w) {cs old new : List Value} {es newCap need : Nat} {elem : TypeId} {z : Value} (hcs : LR ρ cs (old ++ new)) (hlen : cs.length = need * es) (hz : z.cells.size = es) (hcap : need ≤ newCap) :
    ∃ ρ', Gam w0 ρ' (H.new (.cells cs elem true es)) (World.alloc { w with drawn := w.drawn + 1 } (.cells (old.toArray ++ new.toArray ++ Builtin.zeroCells z.cells (newCap - need)) elem)) ∧
      Ext ρ ρ' H (H.new (.cells cs elem true es)) ∧ VR ρ' (.slice (some ⟨H.next, 0, none⟩) need need) (.slice (some ⟨w.heap.size, 0, none⟩) need newCap) := by
  have hl2 := hcs.length
  have hzc : (Builtin.zeroCells z.cells (newCap - need)).size = (newCap - need) * es := by simp [Builtin.zeroCells, hz]
  have hsz : (old.toArray ++ new.toArray ++ Builtin.zeroCells z.cells (newCap - need)).size = need * es + (newCap - need) * es := by
    simp only [Array.size_append, List.size_toArray, hzc]
    simp only [List.length_append] at hl2
    omega
  have hmul : need * es + (newCap - need) * es = newCap * es := by rw [← Nat.add_mul]; congr 1; omega
  let m : Meta := ⟨w.heap.size, 0, need * es, true, es, need * es + (newCap - need) * es, by omega⟩
  have gd := g.drawn (w.drawn + 1)
  obtain ⟨g', e'⟩ := gd.new (.cells cs elem true es) (.cells (old.toArray ++ new.toArray ++ Builtin.zeroCells z.cells (newCap - need)) elem) m rfl (by
    refine ⟨hlen.symm, rfl, rfl, _, elem, alloc_get _ _, hsz, ?_⟩
    simp only [Array.toList_append]
    rw [show m.o = 0 from rfl, List.drop_zero, hl2, List.take_append_of_le_length (by simp), List.take_of_length_le (Nat.le_refl _)]
    exact hcs.mono (gd.le_put m))
  refine ⟨_, g', e', ?_⟩
  have hput : (ρ.put H.next m) H.next = some m := by simp [Ren.put]
  have := VR.opened (ρ := ρ.put H.next m) H.next 0 need need newCap m hput (by simp [Meta.isOpen, m]) hcap (by simp [m]; omega)
  simpa [m] using this

theorem isIntP_spec {t : TypeId} {b : Bool} (h : isIntP P t = some b) : ∃ d, P.underlying t = some d ∧ (match d with | .int _ => true | _ => false) = b := by
  unfold isIntP at h
  cases hu : P.underlying t with
  | none => simp [hu] at h
  | some d =>
    simp only [hu, Option.map_some, Option.some.injEq] at h
    refine ⟨d, rfl, ?_⟩
    rw [← h]
    cases d <;> rfl


/-- Cells behind which others have been laid. -/
theorem laid_behind {c : List Value} {a l n : Nat} {old new : List Value} (hl : old.length = l) (ho : ∀ j v, old[j]? = some v → c[a + j]? = some v) (hn : new.length = n) (hfit : a + l + n ≤ c.length) :
    ((c.take (a + l) ++ new ++ c.drop (a + l + n)).drop a).take (l + n) = old ++ new := by
  apply List.ext_getElem?
  intro j
  simp only [List.getElem?_take, List.getElem?_drop, List.getElem?_append, List.length_append, List.length_take, hl, hn]
  by_cases h1 : j < l
  · obtain ⟨v, hv⟩ : ∃ v, old[j]? = some v := ⟨_, List.getElem?_eq_getElem (by omega)⟩
    have h2 := ho j v hv
    rw [if_pos (by omega), if_pos (by omega), if_pos (by omega), if_pos (by omega), if_pos h1, h2, hv]
  · by_cases h2 : j < l + n
    · rw [if_pos h2, if_pos (by omega), if_neg (by omega), if_neg h1]
      congr 1; omega
    · rw [if_neg h2, if_neg h1]
      rw [List.getElem?_eq_none (by omega)]

/-- What a slice of the evaluator is. -/
theorem slice_inv {i k len cap : Nat} {x' : Value} (h : VR ρ (.slice (some ⟨i, k, none⟩) len cap) x') :
    ∃ m, ρ i = some m ∧ ∃ (off capC : Nat), x' = .slice (some ⟨m.b, off, none⟩) len capC ∧ cap ≤ capC ∧ (m.isOpen k cap = false → off = m.o + k ∧ capC = cap) ∧
      (m.isOpen k cap = true → (off = m.o + k ∧ off + capC * m.es ≤ m.size) ∨ (len = 0 ∧ cap = 0 ∧ capC = 0)) := by
  cases h with
  | slice i k len cap m hm ho =>
    refine ⟨m, hm, _, _, rfl, Nat.le_refl _, fun _ => ⟨rfl, rfl⟩, ?_⟩
    intro h; rw [ho] at h; cases h
  | opened i k len cap capC m hm ho hc hs =>
    refine ⟨m, hm, _, _, rfl, hc, ?_, fun _ => .inl ⟨rfl, hs⟩⟩
    intro h; rw [ho] at h; cases h
  | empty i k off m hm ho _ =>
    refine ⟨m, hm, _, _, rfl, Nat.le_refl _, ?_, fun _ => .inr ⟨rfl, rfl, rfl⟩⟩
    intro h; rw [ho] at h; cases h
theorem slice_off {i k len cap : Nat} {x' : Value} (h : VR ρ (.slice (some ⟨i, k, none⟩) len cap) x') {m : Meta} {off capC : Nat} (hm : ρ i = some m) (e : x' = .slice (some ⟨m.b, off, none⟩) len capC) (ho : m.isOpen k cap = true) : off ≤ m.size := by
  cases h with
  | slice i k len cap m' hm' ho' => rw [hm] at hm'; cases hm'; rw [ho] at ho'; cases ho'
  | opened i k len cap capC' m' hm' ho' hc hs => rw [hm] at hm'; cases hm'; cases e; omega
  | empty i k off' m' hm' ho' hz => rw [hm] at hm'; cases hm'; cases e; exact hz
theorem slice_mk {i k len len' cap : Nat} {m : Meta} {off capC : Nat} (hm : ρ i = some m) (hc : cap ≤ capC) (h1 : m.isOpen k cap = false → off = m.o + k ∧ capC = cap)
    (h2 : m.isOpen k cap = true → (off = m.o + k ∧ off + capC * m.es ≤ m.size) ∨ (len' = 0 ∧ cap = 0 ∧ capC = 0)) (hl : cap = 0 → len = 0) (hz : m.isOpen k cap = true → off ≤ m.size) :
    VR ρ (.slice (some ⟨i, k, none⟩) len cap) (.slice (some ⟨m.b, off, none⟩) len capC) := by
  by_cases ho : m.isOpen k cap = true
  · rcases h2 ho with ⟨rfl, hs⟩ | ⟨_, rfl, rfl⟩
    · exact .opened i k len cap capC m hm ho hc hs
    · rw [hl rfl]; exact .empty i k off m hm ho (hz ho)
  · obtain ⟨rfl, rfl⟩ := h1 (by simpa using ho)
    exact .slice i k len _ m hm (by simpa using ho)

theorem write_empty {i k : Nat} {m : Meta} {H' : Heap} (g : Gam w0 ρ H w) (hm : ρ i = some m) (h : H.write i k [] = some H') : Gam w0 ρ H' w ∧ Ext ρ ρ H H' := by
  obtain ⟨w', hr, h1, h2⟩ := g.write (P := default) hm .nil h
  have : w' = w := by cases hr; rfl
  subst this
  exact ⟨h1, h2⟩

theorem appendA_sound (g : Gam w0 ρ H w) {argTypes : Array TypeId} {type : TypeId} {args args' : Array Value} {v : Value} {H' : Heap} (ha : LR ρ args.toList args'.toList) (h : appendA P H argTypes args = some (v, H')) :
    ∃ ρ' v' w', Gam w0 ρ' H' w' ∧ Ext ρ ρ' H H' ∧ VR ρ' v v' ∧ (Builtin.append_ argTypes type args').run P w = .ok v' w' := by
  unfold appendA at h
  split at h
  case h_2 => cases h
  rename_i o1 o2 o3 sType base sLen sCap x h0 h1 h2
  have h0' : argTypes[0]? = some sType := h0
  obtain ⟨s', e1, hs⟩ := ha.get (n := 0) (v := .slice base sLen sCap) (by simpa [vAt] using h1)
  obtain ⟨x', e2, hx⟩ := ha.get (n := 1) (v := x) (by simpa [vAt] using h2)
  have e1' : args'[0]? = some s' := by simpa using e1
  have e2' : args'[1]? = some x' := by simpa using e2
  cases hu : P.underlying sType with
  | none => simp [hu] at h
  | some d =>
    cases d with
    | slice elem =>
      simp only [hu, Option.bind_eq_bind, Option.bind_some] at h
      cases hi : P.info? elem with
      | none => simp [hi] at h
      | some i =>
        simp only [hi, Option.bind_some] at h
        cases hz : i.zero with
        | none => simp [hz] at h
        | some z =>
          simp only [hz, Option.bind_some] at h
          obtain ⟨zeros, hzs, h⟩ := Option.bind_eq_some_iff.1 h
          obtain ⟨n, hn, h⟩ := Option.bind_eq_some_iff.1 h
          obtain ⟨new, hnew, h⟩ := Option.bind_eq_some_iff.1 h
          split at h
          · cases h
          · rename_i hc
            simp only [Bool.or_eq_true, bne_iff_ne, ne_eq, not_or, Bool.not_eq_true, Decidable.not_not] at hc
            obtain ⟨⟨hz0, hzs2⟩, hnl⟩ := hc
            have hzero : ∀ xType, argTypes[1]? = some xType → ∃ d, P.underlying xType = some d ∧ (match d with | .int _ => true | _ => false) = false := by
              intro xType hx1
              have ht : tAt argTypes 1 = some xType := hx1
              simp only [zerosP, ht] at hzs
              obtain ⟨d, hd, hd2⟩ := isIntP_spec hzs
              exact ⟨d, hd, by rw [hz0] at hd2; cases d <;> first | rfl | simp at hd2⟩
            have hlr := lenA_run (P := P) hx hn w
            obtain ⟨new', hnlr, hnrun⟩ := firstA_run (P := P) g hx hnew
            have gd := g.drawn (w.drawn + 1)
            obtain ⟨new2, hnlr2, hnrun2⟩ := firstA_run (P := P) gd hx hnew
            split at h
            · -- there is room
              rename_i hle
              cases base with
              | none =>
                simp only at h
                split at h
                · rename_i hn0
                  simp only [Option.some.injEq, Prod.mk.injEq] at h
                  obtain ⟨rfl, rfl⟩ := h
                  have hs' : s' = .slice none sLen sCap := by cases hs; rfl
                  rw [hs'] at e1'
                  refine ⟨ρ, _, w, g, .refl _ _, .nilSlice _ _, ?_⟩
                  exact append_fits h0' e1' e2' hu hi hzero hlr hle hnrun rfl
                · cases h
              | some a =>
                obtain ⟨b, off, sp⟩ := a
                cases sp with
                | some q => simp at h
                | none =>
                  simp only at h
                  obtain ⟨H1, hw1, h⟩ := Option.bind_eq_some_iff.1 h
                  simp only [Option.some.injEq, Prod.mk.injEq] at h
                  obtain ⟨rfl, rfl⟩ := h
                  obtain ⟨m, hm, offC, capC, es', hcap, hx1, hx2⟩ := slice_inv hs
                  rw [es'] at e1'
                  have hmk : VR ρ (.slice (some ⟨b, off, none⟩) (sLen + n) sCap) (.slice (some ⟨m.b, offC, none⟩) (sLen + n) capC) :=
                    slice_mk (len' := sLen) hm hcap hx1 hx2 (by omega) (slice_off hs hm es')
                  by_cases hoff : offC = m.o + off
                  · obtain ⟨w', hst, g', ext⟩ := g.write (P := P) hm hnlr hw1
                    refine ⟨ρ, _, w', g', ext, hmk, ?_⟩
                    refine append_fits h0' e1' e2' hu hi hzero hlr (by omega) hnrun ?_
                    simp only [addr_add, hoff]
                    rw [Nat.add_assoc]; exact hst
                  · have h0c : sLen = 0 ∧ sCap = 0 ∧ capC = 0 := by
                      by_cases ho : m.isOpen off sCap = true
                      · rcases hx2 ho with h | h
                        · exact absurd h.1 hoff
                        · exact h
                      · exact absurd (hx1 (by simpa using ho)).1 hoff
                    obtain ⟨s0, c0, cc0⟩ := h0c
                    have hn0 : n = 0 := by omega
                    have hnil : new = [] := List.length_eq_zero_iff.1 (by rw [hnl, hn0]; simp)
                    subst hnil
                    cases hnlr
                    obtain ⟨g', ext⟩ := write_empty g hm hw1
                    refine ⟨ρ, _, w, g', ext, hmk, ?_⟩
                    exact append_fits h0' e1' e2' hu hi hzero hlr (by omega) hnrun rfl
            · rename_i hgt
              split at h
              · cases h
              · rename_i hc2
                simp only [Bool.or_eq_true, decide_eq_true_eq, not_or, gt_iff_lt, Nat.not_lt] at hc2
                obtain ⟨hbytes, hsmall⟩ := hc2
                cases base with
                | none =>
                  simp only at h
                  split at h
                  · rename_i hs0
                    simp only [Option.some.injEq, Prod.mk.injEq] at h
                    obtain ⟨rfl, rfl⟩ := h
                    have hs' : s' = .slice none sLen sCap := by cases hs; rfl
                    rw [hs'] at e1'
                    obtain ⟨newCap, hcap, hrun⟩ := append_grows (type := type) (old := []) h0' e1' e2' hu hi hz hzero hlr hgt hbytes hsmall rfl hnrun2
                    obtain ⟨ρ', g', ext, hv⟩ := g.grown (cs := new) (old := []) (new := new2) (es := i.size) (newCap := newCap) (need := sLen + n) (elem := elem) hnlr2 (by rw [hnl, hs0, Nat.zero_add]) hzs2 hcap
                    exact ⟨ρ', _, _, g', ext, hv, hrun⟩
                  · cases h
                | some a =>
                  obtain ⟨b, off, sp⟩ := a
                  cases sp with
                  | some q => simp at h
                  | none =>
                    simp only at h
                    obtain ⟨old, hold, h⟩ := Option.bind_eq_some_iff.1 h
                    obtain ⟨ob, hob, h⟩ := Option.bind_eq_some_iff.1 h
                    obtain ⟨m, hm, offC, capC, es', hcap, hx1, hx2⟩ := slice_inv hs
                    rw [es'] at e1'
                    obtain ⟨holdlen, old', holr, hocell⟩ := g.cellsAt hm hold
                    have holdrun : (Builtin.firstCells i.size sLen (.slice (some ⟨m.b, offC, none⟩) sLen capC)).run P { w with drawn := w.drawn + 1 } = .ok old'.toArray { w with drawn := w.drawn + 1 } := by
                      by_cases hoff : offC = m.o + off
                      · rw [hoff]
                        have h3 := run_loadCells_list (P := P) { w with drawn := w.drawn + 1 } ⟨m.b, m.o + off, none⟩ old' (fun j u hu => by rw [addr_add]; exact hocell j u hu)
                        rwa [← holr.length, holdlen] at h3
                      · have h0c : sLen = 0 := by
                          by_cases ho : m.isOpen off sCap = true
                          · rcases hx2 ho with h | h
                            · exact absurd h.1 hoff
                            · exact h.1
                          · exact absurd (hx1 (by simpa using ho)).1 hoff
                        rw [h0c, Nat.zero_mul] at holdlen
                        have : old' = [] := List.length_eq_zero_iff.1 (by rw [← holr.length, holdlen])
                        rw [this, h0c]
                        simp only [Builtin.firstCells, Nat.zero_mul]
                        rfl
                    have hlen2 : (old ++ new).length = (sLen + n) * i.size := by rw [List.length_append, holdlen, hnl, Nat.add_mul]
                    cases ob with
                    | cells cs ty o es =>
                      simp only at h
                      obtain ⟨k1, k2, k3, c, ty', hb, hsz, hlr2⟩ := g.obj b m _ hm hob
                      have hiso : m.isOpen off sCap = (o && off + sCap * es == cs.length) := by simp [Meta.isOpen, k1, k2, k3]
                      split at h
                      · rename_i hopen
                        rw [hopen] at hiso
                        split at h
                        · rename_i hcond
                          simp only [Bool.and_eq_true, decide_eq_true_eq] at hcond
                          obtain ⟨⟨hes, hgb⟩, hok⟩ := hcond
                          simp only [Option.some.injEq, Prod.mk.injEq] at h
                          obtain ⟨rfl, rfl⟩ := h
                          by_cases hfit : sLen + n ≤ capC
                          · obtain ⟨hoff, hroom⟩ : offC = m.o + off ∧ offC + capC * m.es ≤ m.size := by
                              rcases hx2 hiso with h | h
                              · exact h
                              · omega
                            rw [k3, hes] at hroom
                            have hmul : (sLen + n) * i.size ≤ capC * i.size := Nat.mul_le_mul_right _ hfit
                            have hnl' : new'.length = n * i.size := by rw [← hnlr.length, hnl]
                            have hadd : (sLen + n) * i.size = sLen * i.size + n * i.size := Nat.add_mul _ _ _
                            have hst := run_storeCells_at (P := P) m.b (offC + sLen * i.size) ty' new' 0 c w hb (by omega) (hnlr.one hok)
                            simp only [Nat.add_zero] at hst
                            have hnewrow := setRow_heap w m.b c (c.toList.take (offC + sLen * i.size) ++ new' ++ c.toList.drop (offC + sLen * i.size + new'.length)).toArray ty' (0, 0) hb
                            let mm : Meta := ⟨m.b, m.o + off, (sLen + n) * i.size, true, i.size, m.size, by omega⟩
                            obtain ⟨g', ext⟩ := g.move (n := mm) (x := .cells (old ++ new) elem true i.size) (d := .dead cs.length o es)
                              (w' := w.setRow m.b (c.toList.take (offC + sLen * i.size) ++ new' ++ c.toList.drop (offC + sLen * i.size + new'.length)).toArray) hm hgb hob rfl rfl rfl (setRow_size _ _ _) (fun k hk => setRow_heap_ne _ _ _ _ hk) rfl rfl rfl
                              (by
                                refine ⟨hlen2.symm, rfl, rfl, _, ty', hnewrow, ?_, ?_⟩
                                · simp only [List.size_toArray, List.length_append, List.length_take, List.length_drop, Array.length_toList]
                                  show _ = m.size
                                  omega
                                · rw [show mm.o = offC from hoff.symm, hlen2, hadd, hnl']
                                  rw [laid_behind (c := c.toList) (a := offC) (l := sLen * i.size) (n := n * i.size) (old := old') (new := new') (by rw [← holr.length, holdlen]) (fun j v hv => by
                                      have h5 := hocell j v hv
                                      simp only [World.cell?, hb, Option.isSome_none, Bool.false_eq_true, if_false] at h5
                                      rw [hoff]; simpa using h5) hnl' (by simp only [Array.length_toList]; omega)]
                                  exact (holr.append hnlr).mono (g.le_put mm)) ⟨k1, k2, k3⟩
                            have hput : (ρ.put H.next mm) H.next = some mm := by simp [Ren.put]
                            have hv := VR.opened (ρ := ρ.put H.next mm) H.next 0 (sLen + n) (sLen + n) capC mm hput (by simp [Meta.isOpen, mm]) hfit (by
                              show m.o + off + 0 + capC * i.size ≤ m.size
                              omega)
                            refine ⟨_, _, _, g', ext, ?_, append_fits h0' e1' e2' hu hi hzero hlr hfit hnrun (by simp only [addr_add]; exact hst)⟩
                            rw [show mm.o + 0 = offC from by rw [hoff]; rfl] at hv
                            exact hv
                          · obtain ⟨gk, extk⟩ := g.die (d := .dead cs.length o es) hm hgb hob rfl ⟨k1, k2, k3⟩
                            obtain ⟨newCap, hcap2, hrun⟩ := append_grows (type := type) h0' e1' e2' hu hi hz hzero hlr hfit hbytes hsmall holdrun hnrun2
                            obtain ⟨ρ', g', ext, hv⟩ := gk.grown (cs := old ++ new) (es := i.size) (newCap := newCap) (need := sLen + n) (elem := elem) (holr.append hnlr2) hlen2 hzs2 hcap2
                            exact ⟨ρ', _, _, g', extk.trans ext, hv, hrun⟩
                        · cases h
                      · rename_i hopen
                        simp only [Bool.not_eq_true] at hopen
                        rw [hopen] at hiso
                        obtain ⟨hoff, hcc⟩ := hx1 hiso
                        simp only [Option.some.injEq, Prod.mk.injEq] at h
                        obtain ⟨rfl, rfl⟩ := h
                        obtain ⟨newCap, hcap2, hrun⟩ := append_grows (type := type) h0' e1' e2' hu hi hz hzero hlr (by rw [hcc]; exact hgt) hbytes hsmall holdrun hnrun2
                        obtain ⟨ρ', g', ext, hv⟩ := g.grown (cs := old ++ new) (es := i.size) (newCap := newCap) (need := sLen + n) (elem := elem) (holr.append hnlr2) hlen2 hzs2 hcap2
                        exact ⟨ρ', _, _, g', ext, hv, hrun⟩
                    | _ => simp at h
    | _ => simp [hu] at h

end Go.Abs
