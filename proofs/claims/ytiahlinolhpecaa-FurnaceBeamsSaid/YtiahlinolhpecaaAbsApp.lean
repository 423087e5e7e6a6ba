/- Append to cells in any number. -/
import Derived.Test.YtiahlinolhpecaaAbsWpA
namespace Go.Abs
open Go.RowKit
variable {P : Program} {ρ : Ren} {w0 w : World} {H : Heap}

/-- Gam speaks of what is found in the heap. -/
theorem Gam.congr (g : Gam w0 ρ H w) {H' : Heap} (hg : ∀ i, H'.get i = H.get i) (hn : H'.next = H.next) : Gam w0 ρ H' w :=
  ⟨by rw [hn]; exact g.gb, fun i hi => g.fresh i (by rw [← hn]; exact hi), g.below, g.own, g.glob,
    fun i j mi mj hgi ⟨oi, a, b⟩ ⟨oj, c, d⟩ => g.inj i j mi mj hgi ⟨oi, by rw [← hg]; exact a, b⟩ ⟨oj, by rw [← hg]; exact c, d⟩,
    fun i m o hm ho => g.obj i m o hm (by rw [← hg]; exact ho), fun i hi hn' => g.gmap i hi (by rw [← hg]; exact hn')⟩
/-- A block is seen otherwise. -/
theorem Gam.recast (g : Gam w0 ρ H w) {i : Nat} {o o' : AObj} (ho : H.get i = some o) (ha : o'.alive = o.alive) (hr : ∀ m, ρ i = some m → ObjR ρ w m o → ObjR ρ w m o') : Gam w0 ρ (H.set i o') w := by
  have live : ∀ {j}, (H.set i o').live j → H.live j := by
    rintro j ⟨x, hx, hal⟩
    rw [Heap.get_set] at hx
    split at hx
    · rename_i e; cases hx; exact ⟨o, by rw [e]; exact ho, by rw [← ha]; exact hal⟩
    · exact ⟨x, hx, hal⟩
  refine ⟨g.gb, g.fresh, g.below, g.own, g.glob, fun j k mj mk hgj hj hk => g.inj j k mj mk hgj (live hj) (live hk), fun j m x hm hx => ?_, fun j hj hn => ?_⟩
  · rw [Heap.get_set] at hx
    split at hx
    · rename_i e; subst e; cases hx; exact hr m hm (g.obj _ m o hm ho)
    · exact g.obj j m x hm hx
  · rw [Heap.get_set] at hn
    split at hn
    · rename_i e; exact g.gmap j hj (by rw [e, ho]; simp)
    · exact g.gmap j hj hn

theorem srcK_out (g : Gam w0 ρ H w) {es n : Nat} {x x' : Value} (hx : VR ρ x x') {k : List Value → Prop} (hk : srcK H es n x k) : ∃ new, firstA H es n x = some new ∧ new.length = n * es ∧ (∀ v ∈ new, cellP v = true) ∧ k new := by
  unfold srcK at hk
  split at hk
  · rename_i i o len cap
    obtain ⟨m, hm, _⟩ := slice_inv hx
    split at hk
    · rename_i cs opn e hget
      obtain ⟨hle, hk⟩ := bcase_out hk
      simp only [decide_eq_true_eq] at hle
      refine ⟨_, ?_, by simp; omega, ?_, hk⟩
      · simp only [firstA, Heap.cellsAt, hget]
        rw [if_pos hle]
      · intro v hv
        exact (g.obj i m _ hm hget).2 v (List.mem_of_mem_drop (List.mem_of_mem_take hv))
    · rename_i cs ty opn e hget
      obtain ⟨hle, hk⟩ := bcase_out hk
      obtain ⟨hp, hk⟩ := bcase_out hk
      simp only [decide_eq_true_eq] at hle
      refine ⟨_, ?_, by simp; omega, List.all_eq_true.1 hp, hk⟩
      simp only [firstA, Heap.cellsAt, hget]
      rw [if_pos hle]
    · cases hk
  · obtain ⟨hn, hk⟩ := bcase_out hk
    simp only [beq_iff_eq] at hn
    subst hn
    exact ⟨[], rfl, by simp, fun v hv => (List.not_mem_nil hv).elim, hk⟩
  · cases hk

/-- What append leaves, in the evaluator's terms. -/
def AppS (P : Program) (w0 : World) (ρ : Ren) (H : Heap) (w : World) (argTypes : Array TypeId) (type : TypeId) (args' : Array Value) (k : Value → Heap → Prop) : Prop :=
  ∃ ρ' v v' w' H', k v H' ∧ Gam w0 ρ' H' w' ∧ Ext ρ ρ' H H' ∧ VR ρ' v v' ∧ (Builtin.append_ argTypes type args').run P w = .ok v' w'

theorem ext_congr {ρ' : Ren} {H H' H1 H2 : Heap} (e : Ext ρ ρ' H H1) (hn0 : H'.next = H.next) (hg0 : ∀ i, ρ i = none → H'.get i = H.get i) (hn : H2.next = H1.next) (hg : ∀ i, i < H.next → ρ i = none → H2.get i = H1.get i) : Ext ρ ρ' H' H2 :=
  ⟨e.le, by rw [hn0, hn]; exact e.next, fun i hi hr => by
    rw [hn0] at hi
    obtain ⟨h1, h2⟩ := e.keep i hi hr
    exact ⟨h1, by rw [hg i hi hr, h2, hg0 i hr]⟩⟩

theorem all_cellOk {l : List Value} (h : ∀ v ∈ l, cellP v = true) : l.all cellOk = true := List.all_eq_true.2 fun v hv => by have := h v hv; simp only [cellP, Bool.and_eq_true] at this; exact this.2

/-- cells that hold no address, seen so. -/
theorem obj_sym {m : Meta} {cs : List Value} {ty : TypeId} {o : Bool} {es : Nat} (hp : ∀ v ∈ cs, cellP v = true) (r : ObjR ρ w m (.cells cs ty o es)) : ObjR ρ w m (.sym cs o es) := by
  obtain ⟨a, b, c, d, e, f, g, i⟩ := r
  exact ⟨⟨a, b, c, d, e, (0, 0), ⟨f, fun _ => rfl⟩, g, i⟩, hp⟩
theorem obj_cells {m : Meta} {cs : List Value} {es : Nat} (r : ObjR ρ w m (.sym cs true es)) : ObjR ρ w m (.cells cs 0 true es) := by
  obtain ⟨⟨a, b, c, d, e, z, f, g, i⟩, _⟩ := r
  obtain rfl := f.2 rfl
  exact ⟨a, b, c, d, e, f.1, g, i⟩

theorem wpAppend_run (g : Gam w0 ρ H w) {argTypes : Array TypeId} {type : TypeId} {args args' : Array Value} {k : Value → Heap → Prop} (ha : LR ρ args.toList args'.toList) (hk : wpAppend P H argTypes args k) : AppS P w0 ρ H w argTypes type args' k := by
  unfold wpAppend at hk
  split at hk
  case h_2 => cases hk
  rename_i o1 o2 o3 sType base sLen sCap x h0 h1 h2
  cases hu : P.underlying sType with
  | none => simp [hu] at hk
  | some d =>
    cases d with
    | slice elem =>
      simp only [hu] at hk
      split at hk
      case h_2 => cases hk
      rename_i q1 q2 q3 i n hi hz0 hn
      split at hk
      case isFalse =>
        split at hk
        · rename_i v H' he
          obtain ⟨ρ', v', w', r1, r2, r3, r4⟩ := appendA_sound (type := type) g ha he
          exact ⟨ρ', v, v', w', H', hk, r1, r2, r3, r4⟩
        · cases hk
      rename_i hc
      obtain ⟨hpt, hz⟩ := hc
      obtain ⟨z, hzz, hzs⟩ := Option.map_eq_some_iff.1 hz
      obtain ⟨s', e1, hs⟩ := ha.get (n := 0) (v := .slice base sLen sCap) (by simpa [vAt] using h1)
      obtain ⟨x', e2, hx⟩ := ha.get (n := 1) (v := x) (by simpa [vAt] using h2)
      replace hk := srcK_out g hx hk
      obtain ⟨new, hnew, hnl, hnp, hk⟩ := hk
      -- append in a heap that says the same
      have run : ∀ {H1 : Heap} {v : Value} {H2 : Heap}, Gam w0 ρ H1 w → appendA P H1 argTypes args = some (v, H2) → ∃ ρ' v' w', Gam w0 ρ' H2 w' ∧ Ext ρ ρ' H1 H2 ∧ VR ρ' v v' ∧ (Builtin.append_ argTypes type args').run P w = .ok v' w' :=
        fun g1 he => appendA_sound (type := type) g1 ha he
      have hcheck : (false || z.cells.size != i.size || new.length != n * i.size) = false := by simp [hzs, hnl]
      -- appendA, opened
      have open1 : ∀ {H1 : Heap}, firstA H1 i.size n x = some new → appendA P H1 argTypes args =
          (if sLen + n ≤ sCap then
            match base with
            | some ⟨b, off, none⟩ => (H1.write b (off + sLen * i.size) new).bind fun H' => some (.slice base (sLen + n) sCap, H')
            | none => if n = 0 then some (.slice base (sLen + n) sCap, H1) else none
            | _ => none
          else
            if ((2 * (sLen + n) + 768) * i.bytes > 2 ^ 48 || decide (sLen + n > 2 ^ 40)) = true then none else
            match base with
            | none => if sLen = 0 then some (.slice (some ⟨H1.next, 0, none⟩) (sLen + n) (sLen + n), H1.new (.cells new elem true i.size)) else none
            | some ⟨b, off, none⟩ => (H1.cellsAt b off (sLen * i.size)).bind fun old =>
              (H1.get b).bind fun ob => match ob with
              | .cells cs _ o es =>
                if (o && off + sCap * es == cs.length) = true then
                  if (es = i.size && decide (gbase ≤ b) && new.all cellOk) = true then
                    some (.slice (some ⟨(H1.set b (.dead cs.length o es)).next, 0, none⟩) (sLen + n) (sLen + n), (H1.set b (.dead cs.length o es)).new (.cells (old ++ new) elem true i.size))
                  else none
                else some (.slice (some ⟨H1.next, 0, none⟩) (sLen + n) (sLen + n), H1.new (.cells (old ++ new) elem true i.size))
              | _ => none
            | _ => none) := by
        intro H1 hf
        unfold appendA
        simp only [h0, h1, h2, hu, hi, hzz, hz0, hn, hf, Option.bind_eq_bind, Option.bind_some, hcheck, Bool.false_eq_true, if_false]
        rfl
      have hcell1 : ∀ {b : Nat} {ob : AObj} {cs : List Value} {ty : TypeId} {o : Bool} {es : Nat} (j q r : Nat), H.get b = some ob → (ob = .cells cs ty o es ∨ ob = .sym cs o es) → (H.set b (.cells cs 0 o es)).cellsAt j q r = H.cellsAt j q r := by
        intro b ob cs ty o es j q r hb hob
        unfold Heap.cellsAt
        rw [Heap.get_set]
        by_cases e : j = b
        · rw [if_pos e, e, hb]
          rcases hob with rfl | rfl <;> rfl
        · rw [if_neg e]
      have hfirst1 : ∀ {b : Nat} {ob : AObj} {cs : List Value} {ty : TypeId} {o : Bool} {es : Nat}, H.get b = some ob → (ob = .cells cs ty o es ∨ ob = .sym cs o es) → firstA (H.set b (.cells cs 0 o es)) i.size n x = some new := by
        intro b ob cs ty o es hb hob
        rw [← hnew]
        unfold firstA
        split <;> first
          | exact hcell1 _ _ _ hb hob
          | rfl
      have hgrowbound : ∀ {y : Prop}, bcase (decide (sCap < sLen + n)) (bcase (decide ((2 * (sLen + n) + 768) * i.bytes ≤ 281474976710656)) (bcase (decide (sLen + n ≤ 1099511627776)) y False) False) False →
          y ∧ ¬ sLen + n ≤ sCap ∧ ¬ ((2 * (sLen + n) + 768) * i.bytes > 2 ^ 48 || decide (sLen + n > 2 ^ 40)) = true := by
        intro y hy
        obtain ⟨a1, hy⟩ := bcase_out hy
        obtain ⟨a2, hy⟩ := bcase_out hy
        obtain ⟨a3, hy⟩ := bcase_out hy
        simp only [decide_eq_true_eq] at a1 a2 a3
        refine ⟨hy, by omega, ?_⟩
        simp only [Bool.or_eq_true, decide_eq_true_eq, not_or]
        exact ⟨by omega, by omega⟩
      -- the new block is seen as cells without addresses
      have fin : ∀ {ρ' : Ren} {w' : World} {Hk : Heap} {v v' : Value} {old : List Value}, Gam w0 ρ' (Hk.new (.cells (old ++ new) elem true i.size)) w' → Ext ρ ρ' H (Hk.new (.cells (old ++ new) elem true i.size)) → H.next ≤ Hk.next → (∀ v ∈ old, cellP v = true) → VR ρ' v v' → (Builtin.append_ argTypes type args').run P w = .ok v' w' →
          k v (Hk.new (.sym (old ++ new) true i.size)) → AppS P w0 ρ H w argTypes type args' k := by
        intro ρ' w' Hk v v' old g' ext hnx hop hv hrun hkk
        have hall : ∀ v ∈ old ++ new, cellP v = true := fun v hv => (List.mem_append.1 hv).elim (hop v) (hnp v)
        have g2 := g'.recast (i := Hk.next) (o := .cells (old ++ new) elem true i.size) (o' := .sym (old ++ new) true i.size) (by rw [Heap.get_new, if_pos rfl]) rfl (fun m _ r => obj_sym hall r)
        have hget : ∀ j, (Hk.new (.sym (old ++ new) true i.size)).get j = ((Hk.new (.cells (old ++ new) elem true i.size)).set Hk.next (.sym (old ++ new) true i.size)).get j := by
          intro j
          rw [Heap.get_new, Heap.get_set, Heap.get_new]
          by_cases e : j = Hk.next
          · rw [if_pos e, if_pos e]
          · rw [if_neg e, if_neg e, if_neg e]
        refine ⟨ρ', v, v', w', _, hkk, g2.congr hget rfl, ?_, hv, hrun⟩
        refine ext_congr ext rfl (fun _ _ => rfl) rfl (fun j hj _ => ?_)
        rw [Heap.get_new, Heap.get_new, if_neg (by omega), if_neg (by omega)]
      by_cases h0n : n = 0
      · subst h0n
        have hnil : new = [] := List.length_eq_zero_iff.1 (by simpa using hnl)
        subst hnil
        replace hk : bcase (decide (sLen ≤ sCap)) (keepK H i.size base sLen sCap k) False := hk
        replace hk := bcase_out hk; obtain ⟨hle, hk⟩ := hk
        simp only [decide_eq_true_eq] at hle
        unfold keepK at hk
        split at hk
        · obtain ⟨ρ', v', w', r1, r2, r3, r4⟩ := run (H1 := H) (v := .slice none sLen sCap) (H2 := H) g (by rw [open1 hnew, if_pos (by omega)]; rfl)
          exact ⟨ρ', _, v', w', H, hk, r1, r2, r3, r4⟩
        · rename_i b off
          split at hk
          case h_2 => cases hk
          rename_i cs o es' sy harr
          split at hk
          case isFalse => cases hk
          rename_i hcond
          obtain ⟨rfl, hgb, hsy⟩ := hcond
          replace hk := bcase_out hk; obtain ⟨hle2, hk⟩ := hk
          simp only [decide_eq_true_eq] at hle2
          obtain ⟨ob, hob, harr⟩ := Option.bind_eq_some_iff.1 harr
          obtain ⟨m, hm, _⟩ := slice_inv hs
          have hkind : ∃ ty, (ob = .cells cs ty o i.size ∨ ob = .sym cs o i.size) ∧ (sy = true → ob = .sym cs o i.size) ∧ (sy = false → ob = .cells cs ty o i.size) := by
            cases ob <;> simp only [arrOf, Option.some.injEq, Prod.mk.injEq] at harr
            · obtain ⟨rfl, rfl, e3, rfl⟩ := harr; subst e3; exact ⟨_, .inl rfl, by simp, fun _ => rfl⟩
            all_goals first
              | (obtain ⟨rfl, rfl, e3, rfl⟩ := harr; subst e3; exact ⟨0, .inr rfl, fun _ => rfl, by simp⟩)
              | cases harr
          obtain ⟨ty, hk1, hk2, hk3⟩ := hkind
          have g1 : Gam w0 ρ (H.set b (.cells cs 0 o i.size)) w := g.recast hob (by rcases hk1 with rfl | rfl <;> rfl) (fun m' hm' r => by
            cases hsy2 : sy with
            | true => obtain rfl := hk2 hsy2; obtain rfl := hsy hsy2; exact obj_cells r
            | false => obtain rfl := hk3 hsy2; exact r)
          have hgetb : (H.set b (.cells cs 0 o i.size)).get b = some (.cells cs 0 o i.size) := by rw [Heap.get_set, if_pos rfl]
          have hw : (H.set b (.cells cs 0 o i.size)).write b (off + sLen * i.size) [] = some ((H.set b (.cells cs 0 o i.size)).set b (.cells (listSet cs (off + sLen * i.size) []) 0 o i.size)) := by
            unfold Heap.write
            rw [hgetb]
            simp only [List.length_nil, Nat.add_zero, List.all_nil, Bool.and_true]
            rw [if_pos (by simp [hle2, hgb])]
          have hls : listSet cs (off + sLen * i.size) [] = cs := by simp [listSet]
          rw [hls] at hw
          obtain ⟨ρ', v', w', r1, r2, r3, r4⟩ := run (v := .slice (some ⟨b, off, none⟩) sLen sCap) (H2 := (H.set b (.cells cs 0 o i.size)).set b (.cells cs 0 o i.size)) g1 (by rw [open1 (hfirst1 (ty := ty) hob hk1), if_pos (by omega)]; show (Option.bind _ _) = _; rw [hw]; rfl)
          have g2 := r1.recast (i := b) (o := .cells cs 0 o i.size) (o' := ob) (by rw [Heap.get_set, if_pos rfl]) (by rcases hk1 with rfl | rfl <;> rfl) (fun m' hm' r => by
            cases hsy2 : sy with
            | true => obtain rfl := hk2 hsy2; exact obj_sym (g.obj b m _ hm hob).2 r
            | false => obtain rfl := hk3 hsy2; exact r)
          have hget : ∀ j, H.get j = (((H.set b (.cells cs 0 o i.size)).set b (.cells cs 0 o i.size)).set b ob).get j := by
            intro j
            rw [Heap.get_set, Heap.get_set, Heap.get_set]
            by_cases e : j = b
            · rw [if_pos e, e, hob]
            · rw [if_neg e, if_neg e, if_neg e]
          refine ⟨ρ', _, v', w', H, hk, g2.congr hget rfl, ?_, r3, r4⟩
          refine ext_congr r2 rfl (fun j hj => ?_) rfl (fun j _ hj => ?_)
          · have : j ≠ b := fun e => by rw [e, hm] at hj; cases hj
            rw [Heap.get_set, if_neg this]
          · have : j ≠ b := fun e => by rw [e, hm] at hj; cases hj
            rw [Heap.get_set, if_neg this, Heap.get_set, if_neg this]
        · cases hk
      · have hb0 : (n == 0) = false := by simpa using h0n
        rw [hb0] at hk
        replace hk := hgrowbound hk; obtain ⟨hk, hgt, hbig⟩ := hk
        unfold growK at hk
        split at hk
        · replace hk := bcase_out hk; obtain ⟨hs0, hk⟩ := hk
          simp only [beq_iff_eq] at hs0
          obtain ⟨ρ', v', w', r1, r2, r3, r4⟩ := run (v := .slice (some ⟨H.next, 0, none⟩) (sLen + n) (sLen + n)) (H2 := H.new (.cells ([] ++ new) elem true i.size)) g (by rw [open1 hnew, if_neg hgt, if_neg hbig]; simp only [hs0, if_true]; rfl)
          exact fin r1 r2 (Nat.le_refl _) (fun v hv => (List.not_mem_nil hv).elim) r3 r4 hk
        · rename_i b off
          split at hk
          case h_2 => cases hk
          rename_i cs o es' sy harr
          split at hk
          case isFalse => cases hk
          rename_i hcond
          obtain ⟨rfl, hgb⟩ := hcond
          replace hk := bcase_out hk; obtain ⟨hle2, hk⟩ := hk
          replace hk := bcase_out hk; obtain ⟨hsp, hk⟩ := hk
          simp only [decide_eq_true_eq] at hle2
          obtain ⟨ob, hob, harr⟩ := Option.bind_eq_some_iff.1 harr
          obtain ⟨m, hm, _⟩ := slice_inv hs
          have hkind : ∃ ty, (ob = .cells cs ty o i.size ∨ ob = .sym cs o i.size) ∧ (sy = true → ob = .sym cs o i.size) ∧ (sy = false → ob = .cells cs ty o i.size) := by
            cases ob <;> simp only [arrOf, Option.some.injEq, Prod.mk.injEq] at harr
            · obtain ⟨rfl, rfl, e3, rfl⟩ := harr; subst e3; exact ⟨_, .inl rfl, by simp, fun _ => rfl⟩
            all_goals first
              | (obtain ⟨rfl, rfl, e3, rfl⟩ := harr; subst e3; exact ⟨0, .inr rfl, fun _ => rfl, by simp⟩)
              | cases harr
          obtain ⟨ty, hk1, hk2, hk3⟩ := hkind
          have hold : ∀ v ∈ (cs.drop off).take (sLen * i.size), cellP v = true := by
            intro v hv
            cases hsy2 : sy with
            | true => obtain rfl := hk2 hsy2; exact (g.obj b m _ hm hob).2 v (List.mem_of_mem_drop (List.mem_of_mem_take hv))
            | false => rw [hsy2, Bool.false_or] at hsp; exact List.all_eq_true.1 hsp v hv
          have hcellsAt : ∀ {H1 : Heap}, H1.get b = some (.cells cs 0 o i.size) → H1.cellsAt b off (sLen * i.size) = some ((cs.drop off).take (sLen * i.size)) := by
            intro H1 h
            simp only [Heap.cellsAt, h]
            rw [if_pos hle2]
          have hgetb : (H.set b (.cells cs 0 o i.size)).get b = some (.cells cs 0 o i.size) := by rw [Heap.get_set, if_pos rfl]
          have g1 : (sy = true → o = true) → Gam w0 ρ (H.set b (.cells cs 0 o i.size)) w := fun hsy => g.recast hob (by rcases hk1 with rfl | rfl <;> rfl) (fun m' hm' r => by
            cases hsy2 : sy with
            | true => obtain rfl := hk2 hsy2; obtain rfl := hsy hsy2; exact obj_cells r
            | false => obtain rfl := hk3 hsy2; exact r)
          split at hk
          · rename_i ho
            subst ho
            replace hk := bcase_out hk; obtain ⟨hend, hk⟩ := hk
            simp only [decide_eq_true_eq] at hend
            obtain ⟨ρ', v', w', r1, r2, r3, r4⟩ := run (v := .slice (some ⟨H.next, 0, none⟩) (sLen + n) (sLen + n)) (H2 := ((H.set b (.cells cs 0 true i.size)).set b (.dead cs.length true i.size)).new (.cells ((cs.drop off).take (sLen * i.size) ++ new) elem true i.size)) (g1 (fun _ => rfl)) (by
              rw [open1 (hfirst1 (ty := ty) hob hk1), if_neg hgt, if_neg hbig]
              simp only [hcellsAt hgetb, hgetb, Option.bind_some]
              rw [if_pos (by simp [hend]), if_pos (by simp [hgb, all_cellOk hnp])]
              rfl)
            have hget : ∀ j, ((H.set b (.dead cs.length true i.size)).new (.cells ((cs.drop off).take (sLen * i.size) ++ new) elem true i.size)).get j = (((H.set b (.cells cs 0 true i.size)).set b (.dead cs.length true i.size)).new (.cells ((cs.drop off).take (sLen * i.size) ++ new) elem true i.size)).get j := by
              intro j
              rw [Heap.get_new, Heap.get_new]
              simp only [Heap.next_set]
              by_cases e : j = H.next
              · simp only [e, if_true]
              · simp only [e, if_false]
                rw [Heap.get_set, Heap.get_set, Heap.get_set]
                by_cases e2 : j = b
                · rw [if_pos e2, if_pos e2]
                · rw [if_neg e2, if_neg e2, if_neg e2]
            have r1' := r1.congr hget rfl
            have r2' : Ext ρ ρ' H ((H.set b (.dead cs.length true i.size)).new (.cells ((cs.drop off).take (sLen * i.size) ++ new) elem true i.size)) := ext_congr r2 rfl (fun j hj => by
              have : j ≠ b := fun e => by rw [e, hm] at hj; cases hj
              rw [Heap.get_set, if_neg this]) rfl (fun j _ _ => hget j)
            exact fin r1' r2' (Nat.le_refl _) hold r3 r4 hk
          · rename_i ho
            simp only [Bool.not_eq_true] at ho
            subst ho
            split at hk
            · cases hk
            rename_i hsy
            obtain ⟨ρ', v', w', r1, r2, r3, r4⟩ := run (v := .slice (some ⟨H.next, 0, none⟩) (sLen + n) (sLen + n)) (H2 := (H.set b (.cells cs 0 false i.size)).new (.cells ((cs.drop off).take (sLen * i.size) ++ new) elem true i.size)) (g1 (fun h => absurd h hsy)) (by
              rw [open1 (hfirst1 (ty := ty) hob hk1), if_neg hgt, if_neg hbig]
              simp only [hcellsAt hgetb, hgetb, Option.bind_some]
              rfl)
            have hob2 := hk3 (by simpa using hsy)
            have g3 := r1.recast (i := b) (o := .cells cs 0 false i.size) (o' := ob) (by
                rw [Heap.get_new]
                rw [if_neg (by have := g.lt hm; simp only [Heap.next_set]; omega), hgetb]) (by rw [hob2]; rfl) (fun m' hm' r => by rw [hob2]; exact r)
            have hget : ∀ j, (H.new (.cells ((cs.drop off).take (sLen * i.size) ++ new) elem true i.size)).get j = (((H.set b (.cells cs 0 false i.size)).new (.cells ((cs.drop off).take (sLen * i.size) ++ new) elem true i.size)).set b ob).get j := by
              intro j
              rw [Heap.get_new, Heap.get_set, Heap.get_new, Heap.get_set]
              by_cases e2 : j = b
              · rw [if_pos e2, e2, if_neg (by have := g.lt hm; omega), hob]
              · rw [if_neg e2, if_neg e2]
                rfl
            have r1' := g3.congr hget rfl
            have r2' : Ext ρ ρ' H (H.new (.cells ((cs.drop off).take (sLen * i.size) ++ new) elem true i.size)) := ext_congr r2 rfl (fun j hj => by
              have : j ≠ b := fun e => by rw [e, hm] at hj; cases hj
              rw [Heap.get_set, if_neg this]) rfl (fun j _ hj => by
                have : j ≠ b := fun e => by rw [e, hm] at hj; cases hj
                rw [hget, Heap.get_set, if_neg this])
            exact fin r1' r2' (Nat.le_refl _) hold r3 r4 hk
        · cases hk
    | _ => simp [hu] at hk

theorem wpStore_run (g : Gam w0 ρ H w) {t : TypeId} {p p' v v' : Value} {k : Heap → Prop} (hp : VR ρ p p') (hv : VR ρ v v') (h : wpStore P H t p v k) :
    ∃ H' w', k H' ∧ Gam w0 ρ H' w' ∧ Ext ρ ρ H H' ∧ (Instr.storeAt t p' v').run P w = .ok () w' := by
  unfold wpStore at h
  split at h
  case h_2 => cases h
  rename_i i off
  split at h
  · rename_i cs es hg
    split at h
    case isFalse => cases h
    rename_i hc
    obtain ⟨hz, hkn, hcp, hgb⟩ := hc
    obtain ⟨hle, h⟩ := bcase_out h
    simp only [decide_eq_true_eq] at hle
    have hpv := List.all_eq_true.1 hcp
    have hps : ∀ m, ρ i = some m → ∀ x ∈ cs, cellP x = true := fun m hm => (g.obj i m _ hm hg).2
    have hm : ∃ m, ρ i = some m := by
      cases hp with
      | ptr i k m hm => exact ⟨m, hm⟩
      | glob i k hi => exfalso; unfold gbase abase at *; omega
    obtain ⟨m, hm⟩ := hm
    have g1 : Gam w0 ρ (H.set i (.cells cs 0 true es)) w := g.recast hg rfl (fun m' _ r => obj_cells r)
    have hgetb : (H.set i (.cells cs 0 true es)).get i = some (.cells cs 0 true es) := by rw [Heap.get_set, if_pos rfl]
    have hw : storeA P (H.set i (.cells cs 0 true es)) t (.pointer (some ⟨i, off, none⟩)) v = some ((H.set i (.cells cs 0 true es)).set i (.cells (listSet cs off v.cells.toList) 0 true es)) := by
      simp only [storeA, hz, Option.bind_eq_bind, Option.bind_some, hkn, Bool.and_true, decide_true, if_true]
      unfold Heap.write
      rw [hgetb]
      simp only [Array.length_toList]
      rw [if_pos (by simp [hle, hgb, all_cellOk hpv])]
    obtain ⟨w', g2, ext, hrun⟩ := storeA_sound g1 hp hv hw
    have hall : ∀ x ∈ listSet cs off v.cells.toList, cellP x = true := by
      intro x hx
      simp only [listSet, List.mem_append] at hx
      rcases hx with (hx | hx) | hx
      · exact hps m hm x (List.mem_of_mem_take hx)
      · exact hpv x hx
      · exact hps m hm x (List.mem_of_mem_drop hx)
    have g3 := g2.recast (i := i) (o := .cells (listSet cs off v.cells.toList) 0 true es) (o' := .sym (listSet cs off v.cells.toList) true es) (by rw [Heap.get_set, if_pos rfl]) rfl (fun m' _ r => obj_sym hall r)
    have hget : ∀ j, (H.set i (.sym (listSet cs off v.cells.toList) true es)).get j = (((H.set i (.cells cs 0 true es)).set i (.cells (listSet cs off v.cells.toList) 0 true es)).set i (.sym (listSet cs off v.cells.toList) true es)).get j := by
      intro j
      simp only [Heap.get_set]
      by_cases e : j = i
      · simp [e]
      · simp [e]
    refine ⟨_, w', h, g3.congr hget rfl, ?_, hrun⟩
    refine ext_congr ext rfl (fun j hj => ?_) rfl (fun j _ hj => ?_)
    · have : j ≠ i := fun e => by rw [e, hm] at hj; cases hj
      rw [Heap.get_set, if_neg this]
    · have : j ≠ i := fun e => by rw [e, hm] at hj; cases hj
      simp [Heap.get_set, this]
  · split at h
    · rename_i H' he
      obtain ⟨w', a, b, c⟩ := storeA_sound g hp hv he
      exact ⟨H', w', h, a, b, c⟩
    · cases h

theorem store_op (g : Gam w0 ρ H w) {env env' : Operand → Value} {o : Oper} {k : Heap → Prop} (henv : ∀ y ∈ o.op.operands, VR ρ (env y) (env' y)) (hi : isStore o = true) (hk : wpStore P H (storeOf o).1 (env (storeOf o).2.1) (env (storeOf o).2.2) k) :
    ∃ H' w', k H' ∧ Gam w0 ρ H' w' ∧ Ext ρ ρ H H' ∧ (execOp env' o).run P w = .ok .skip w' := by
  obtain ⟨dst, op, type, pos, after, guard⟩ := o
  cases op <;> first
    | (cases hi; done)
    | skip
  rename_i t a x
  obtain ⟨H', w', h1, h2, h3, h4⟩ := wpStore_run g (henv a (by simp [Op.operands])) (henv x (by simp [Op.operands])) hk
  refine ⟨H', w', h1, h2, h3, ?_⟩
  have h5 : (Instr.storeAt t (env' a) (env' x)).run P w = .ok () w' := h4
  simp only [execOp, Sem.run_bind, h5, Result.andThen_ok]
  rfl

theorem append_op (g : Gam w0 ρ H w) {env env' : Operand → Value} {o : Oper} {k : Value → Heap → Prop} (henv : ∀ y ∈ o.op.operands, VR ρ (env y) (env' y)) (hi : isAppend o = true) (hk : wpAppend P H (argTypesOf o) ((argsOf o).map env) k) :
    ∃ ρ' v v' w' H', k v H' ∧ Gam w0 ρ' H' w' ∧ Ext ρ ρ' H H' ∧ VR ρ' v v' ∧ (execOp env' o).run P w = .ok (.value v') w' := by
  obtain ⟨dst, op, type, pos, after, guard⟩ := o
  cases op <;> first
    | (cases hi; done)
    | skip
  rename_i c
  obtain ⟨callee, cargs, argTypes⟩ := c
  cases callee <;> first
    | (cases hi; done)
    | skip
  rename_i b
  cases b <;> first
    | (cases hi; done)
    | skip
  have ha : LR ρ (cargs.map env).toList (cargs.map env').toList := maps_LR (fun y hy => henv y (by simp [Op.operands, Call.operands, hy]))
  obtain ⟨ρ', v, v', w', H', h1, h2, h3, h4, h5⟩ := wpAppend_run (type := type) g ha hk
  refine ⟨ρ', v, v', w', H', h1, h2, h3, h4, ?_⟩
  show (do let d ← resolve env' ⟨.builtin .append, cargs, argTypes⟩ type; invoke d.target d.args : Sem Next).run P w = _
  simp only [resolve, Sem.run_bind, Sem.run_pure, Result.andThen_ok]
  exact builtin_val (b := .append) (e := Builtin.append_ argTypes type (cargs.map env')) rfl h5
end Go.Abs
