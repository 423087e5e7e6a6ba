/- Texts of the proof, put together: AbsApp, AbsReads, AbsWpB, AbsWpC, AbsGc, AbsHold, AbsCon, AbsCon2, AbsCon3, AbsCon4, AbsLoop, AbsUse, AbsLaw, AbsRead, Flat, AbsReadG, AbsRead2, AbsOpen, AbsSameD, AbsFrameD, AbsXD, AbsSame. -/
import Derived.Test.YtchgncpfaclccaaP2
import Derived.Test.YtchgncpfaclccaaP1
import Derived.IntWalk
import Derived.ReadAgain
import Derived.ChangeBears
import Derived.ChangeSlices
import Derived.ProofKit
import Derived.OpenShut
import Derived.ChangeSame
import Derived.ChangeArms
import Derived.RowKit
import Derived.DataReads
import Derived.Laws.IdiomArrays
/- Append to cells in any number. -/
namespace Go.Abs
open Go.RowKit
variable {P : Program} {ρ : Ren} {w0 : Start P} {w : World} {H : Heap}

/-- Gam speaks of what is found in the heap. -/
theorem Gam.congr (g : Gam w0 ρ H w) {H' : Heap} (hg : ∀ i, H'.get i = H.get i) (hn : H'.next = H.next) : Gam w0 ρ H' w :=
  ⟨by rw [hn]; exact g.gb, fun i hi => g.fresh i (by rw [← hn]; exact hi), g.below, g.own, g.glob,
    fun i j mi mj hgi ⟨oi, a, b⟩ ⟨oj, c, d⟩ => g.inj i j mi mj hgi ⟨oi, by rw [← hg]; exact a, b⟩ ⟨oj, by rw [← hg]; exact c, d⟩,
    fun i m o hm ho => g.obj i m o hm (by rw [← hg]; exact ho), fun i hi hn' => g.gmap i hi (by rw [← hg]; exact hn'), g.pins, g.vars, g.itok,
    fun own rest h => let ⟨m, F, h1, h2, h3⟩ := g.yld own rest (by rw [← hg]; exact h); ⟨m, F, h1, h2, fun j n hj ⟨o, ho, ha⟩ => h3 j n hj ⟨o, by rw [← hg]; exact ho, ha⟩⟩⟩
/-- A block is seen otherwise. -/
theorem Gam.recast (g : Gam w0 ρ H w) {i : Nat} {o o' : AObj} (ho : H.get i = some o) (ha : o'.alive = o.alive) (hr : ∀ m, ρ i = some m → ObjR ρ w m o → ObjR ρ w m o') (hyo : o'.isYld = false := by rfl) : Gam w0 ρ (H.set i o') w := by
  have live : ∀ {j}, (H.set i o').live j → H.live j := by
    rintro j ⟨x, hx, hal⟩
    rw [Heap.get_set] at hx
    split at hx
    · rename_i e; cases hx; exact ⟨o, by rw [e]; exact ho, by rw [← ha]; exact hal⟩
    · exact ⟨x, hx, hal⟩
  refine ⟨g.gb, g.fresh, g.below, g.own, g.glob, fun j k mj mk hgj hj hk => g.inj j k mj mk hgj (live hj) (live hk), fun j m x hm hx => ?_, fun j hj hn => ?_, g.pins, g.vars, g.itok, fun own rest h => ?_⟩
  · rw [Heap.get_set] at hx
    split at hx
    · rename_i e; subst e; cases hx; exact hr m hm (g.obj _ m o hm ho)
    · exact g.obj j m x hm hx
  · rw [Heap.get_set] at hn
    split at hn
    · rename_i e; exact g.gmap j hj (by rw [e, ho]; simp)
    · exact g.gmap j hj hn
  · rw [Heap.get_set] at h
    split at h
    · cases h; cases hyo
    · obtain ⟨m, F, h1, h2, h3⟩ := g.yld own rest h
      exact ⟨m, F, h1, h2, fun j n hj hl => h3 j n hj (live hl)⟩

theorem srcK_out (g : Gam w0 ρ H w) {es n : Nat} {x x' : Value} (hx : VR ρ x x') {k : List Value → Prop} (hk : srcK H es n x k) : ∃ new, firstA H es n x = some new ∧ new.length = n * es ∧ (∀ v ∈ new, cellP v = true) ∧ k new := by
  unfold srcK at hk
  split at hk
  · rename_i i o len cap
    obtain ⟨m, hm, _⟩ := slice_inv hx
    split at hk
    · rename_i cs opn e hget
      obtain ⟨hle, hk⟩ := bcase_out hk
      simp only [decide_eq_true_eq] at hle
      refine ⟨_, ?_, by simp; omega, ?_, hk⟩
      · simp only [firstA, Heap.cellsAt, hget]
        rw [if_pos hle]
      · intro v hv
        exact (g.obj i m _ hm hget).2 v (List.mem_of_mem_drop (List.mem_of_mem_take hv))
    · rename_i cs ty opn e hget
      obtain ⟨hle, hk⟩ := bcase_out hk
      obtain ⟨hp, hk⟩ := bcase_out hk
      simp only [decide_eq_true_eq] at hle
      refine ⟨_, ?_, by simp; omega, List.all_eq_true.1 hp, hk⟩
      simp only [firstA, Heap.cellsAt, hget]
      rw [if_pos hle]
    · cases hk
  · obtain ⟨hn, hk⟩ := bcase_out hk
    simp only [beq_iff_eq] at hn
    subst hn
    exact ⟨[], rfl, by simp, fun v hv => (List.not_mem_nil hv).elim, hk⟩
  · cases hk

/-- What append leaves, in the evaluator's terms. -/
def AppS (P : Program) (w0 : Start P) (ρ : Ren) (H : Heap) (w : World) (argTypes : Array TypeId) (type : TypeId) (args' : Array Value) (k : Value → Heap → Prop) : Prop :=
  ∃ ρ' v v' w' H', k v H' ∧ Gam w0 ρ' H' w' ∧ Ext ρ ρ' H H' ∧ VR ρ' v v' ∧ (Builtin.append_ argTypes type args').run P w = .ok v' w'

theorem ext_congr {ρ' : Ren} {H H' H1 H2 : Heap} (e : Ext ρ ρ' H H1) (hn0 : H'.next = H.next) (hg0 : ∀ i, ρ i = none → H'.get i = H.get i) (hn : H2.next = H1.next) (hg : ∀ i, i < H.next → ρ i = none → H2.get i = H1.get i) : Ext ρ ρ' H' H2 :=
  ⟨e.le, by rw [hn0, hn]; exact e.next, fun i hi hr => by
    rw [hn0] at hi
    obtain ⟨h1, h2⟩ := e.keep i hi hr
    exact ⟨h1, by rw [hg i hi hr, h2, hg0 i hr]⟩⟩

theorem all_cellOk {l : List Value} (h : ∀ v ∈ l, cellP v = true) : l.all cellOk = true := List.all_eq_true.2 fun v hv => by have := h v hv; simp only [cellP, Bool.and_eq_true] at this; exact this.2

/-- cells that hold no address, seen so. -/
theorem obj_sym {m : Meta} {cs : List Value} {ty : TypeId} {o : Bool} {es : Nat} (hp : ∀ v ∈ cs, cellP v = true) (r : ObjR ρ w m (.cells cs ty o es)) : ObjR ρ w m (.sym cs o es) := by
  obtain ⟨a, b, c, d, e, f, g, i⟩ := r
  exact ⟨⟨a, b, c, d, e, (0, 0), ⟨f, fun _ => rfl⟩, g, i⟩, hp⟩
theorem obj_cells {m : Meta} {cs : List Value} {es : Nat} (r : ObjR ρ w m (.sym cs true es)) : ObjR ρ w m (.cells cs 0 true es) := by
  obtain ⟨⟨a, b, c, d, e, z, f, g, i⟩, _⟩ := r
  obtain rfl := f.2 rfl
  exact ⟨a, b, c, d, e, f.1, g, i⟩

/-- A closed block of the call's own, told as open under a new number. -/
theorem Gam.reopen (g : Gam w0 ρ H w) {b n c es : Nat} {cs : List Value} {ty : TypeId} {v' : Value} (hi : gbase ≤ b) (ho : H.get b = some (.cells cs ty false es)) (hp : ∀ v ∈ cs, cellP v = true)
    (hv : VR ρ (.slice (some ⟨b, 0, none⟩) n c) v') (hc : c * es = cs.length) :
    ∃ ρ', Gam w0 ρ' ((H.set b (.dead cs.length false es)).new (.sym cs true es)) w ∧ Ext ρ ρ' H ((H.set b (.dead cs.length false es)).new (.sym cs true es)) ∧ VR ρ' (.slice (some ⟨H.next, 0, none⟩) n c) v' := by
  have hlc := slice_lc hv
  obtain ⟨m, hm, off, capC, rfl, hcap, h1, h2⟩ := slice_inv hv
  obtain ⟨q1, q2, q3, q4, q5, q6, q7, q8⟩ := g.obj b m _ hm ho
  obtain ⟨rfl, rfl⟩ := h1 (by simp [Meta.isOpen, q2])
  have hw := m.hw
  let m2 : Meta := { m with opn := true }
  have hr : ObjR (ρ.put H.next m2) w m2 (.sym cs true es) := obj_sym (ty := q5) hp ⟨q1, rfl, q3, q4, q5, q6, q7, q8.mono (g.le_put m2)⟩
  obtain ⟨g', e'⟩ := g.move (n := m2) (x := .sym cs true es) (d := .dead cs.length false es) hm hi ho rfl rfl rfl rfl (fun _ _ => rfl) rfl rfl rfl hr ⟨q1, q2, q3⟩
  refine ⟨_, g', e', ?_⟩
  have := VR.opened (ρ := ρ.put H.next m2) H.next 0 n capC capC m2 (by simp [Ren.put]) (by simp [Meta.isOpen, m2, q1, q3, hc]) (Nat.le_refl _) (by simp only [m2, q3]; omega) hlc
  simpa [m2] using this

theorem wpAppend_run (g : Gam w0 ρ H w) {argTypes : Array TypeId} {type : TypeId} {args args' : Array Value} {k : Value → Heap → Prop} (ha : LR ρ args.toList args'.toList) (hk : wpAppend P H argTypes args k) : AppS P w0 ρ H w argTypes type args' k := by
  unfold wpAppend at hk
  split at hk
  case h_2 => cases hk
  rename_i o1 o2 o3 sType base sLen sCap x h0 h1 h2
  cases hu : P.underlying sType with
  | none => simp [hu] at hk
  | some d =>
    cases d with
    | slice elem =>
      simp only [hu] at hk
      split at hk
      case h_2 => cases hk
      rename_i q1 q2 q3 i n hi hz0 hn
      split at hk
      case isFalse =>
        split at hk
        · rename_i v H' he
          obtain ⟨ρ', v', w', r1, r2, r3, r4⟩ := appendA_sound (type := type) g ha he
          exact ⟨ρ', v, v', w', H', hk, r1, r2, r3, r4⟩
        · cases hk
      rename_i hc
      obtain ⟨hpt, hz⟩ := hc
      obtain ⟨z, hzz, hzs⟩ := Option.map_eq_some_iff.1 hz
      obtain ⟨s', e1, hs⟩ := ha.get (n := 0) (v := .slice base sLen sCap) (by simpa [vAt] using h1)
      obtain ⟨x', e2, hx⟩ := ha.get (n := 1) (v := x) (by simpa [vAt] using h2)
      replace hk := srcK_out g hx hk
      obtain ⟨new, hnew, hnl, hnp, hk⟩ := hk
      -- append in a heap that says the same
      have run : ∀ {H1 : Heap} {v : Value} {H2 : Heap}, Gam w0 ρ H1 w → appendA P H1 argTypes args = some (v, H2) → ∃ ρ' v' w', Gam w0 ρ' H2 w' ∧ Ext ρ ρ' H1 H2 ∧ VR ρ' v v' ∧ (Builtin.append_ argTypes type args').run P w = .ok v' w' :=
        fun g1 he => appendA_sound (type := type) g1 ha he
      have hcheck : (false || z.cells.size != i.size || new.length != n * i.size) = false := by simp [hzs, hnl]
      -- appendA, opened
      have open1 : ∀ {H1 : Heap}, firstA H1 i.size n x = some new → appendA P H1 argTypes args =
          (if sLen + n ≤ sCap then
            match base with
            | some ⟨b, off, none⟩ => (H1.write b (off + sLen * i.size) new).bind fun H' => some (.slice base (sLen + n) sCap, H')
            | none => if n = 0 then some (.slice base (sLen + n) sCap, H1) else none
            | _ => none
          else
            if ((2 * (sLen + n) + 768) * i.bytes > 2 ^ 48 || decide (sLen + n > 2 ^ 40)) = true then none else
            match base with
            | none => if sLen = 0 then some (.slice (some ⟨H1.next, 0, none⟩) (sLen + n) (sLen + n), H1.new (.cells new elem true i.size)) else none
            | some ⟨b, off, none⟩ => (H1.cellsAt b off (sLen * i.size)).bind fun old =>
              (H1.get b).bind fun ob => match ob with
              | .cells cs _ o es =>
                if (o && off + sCap * es == cs.length) = true then
                  if (es = i.size && decide (gbase ≤ b) && new.all cellOk) = true then
                    some (.slice (some ⟨(H1.set b (.dead cs.length o es)).next, 0, none⟩) (sLen + n) (sLen + n), (H1.set b (.dead cs.length o es)).new (.cells (old ++ new) elem true i.size))
                  else none
                else some (.slice (some ⟨H1.next, 0, none⟩) (sLen + n) (sLen + n), H1.new (.cells (old ++ new) elem true i.size))
              | _ => none
            | _ => none) := by
        intro H1 hf
        unfold appendA
        simp only [h0, h1, h2, hu, hi, hzz, hz0, hn, hf, Option.bind_eq_bind, Option.bind_some, hcheck, Bool.false_eq_true, if_false]
        rfl
      have hcell1 : ∀ {b : Nat} {ob : AObj} {cs : List Value} {ty : TypeId} {o : Bool} {es : Nat} (j q r : Nat), H.get b = some ob → (ob = .cells cs ty o es ∨ ob = .sym cs o es) → (H.set b (.cells cs 0 o es)).cellsAt j q r = H.cellsAt j q r := by
        intro b ob cs ty o es j q r hb hob
        unfold Heap.cellsAt
        rw [Heap.get_set]
        by_cases e : j = b
        · rw [if_pos e, e, hb]
          rcases hob with rfl | rfl <;> rfl
        · rw [if_neg e]
      have hfirst1 : ∀ {b : Nat} {ob : AObj} {cs : List Value} {ty : TypeId} {o : Bool} {es : Nat}, H.get b = some ob → (ob = .cells cs ty o es ∨ ob = .sym cs o es) → firstA (H.set b (.cells cs 0 o es)) i.size n x = some new := by
        intro b ob cs ty o es hb hob
        rw [← hnew]
        unfold firstA
        split <;> first
          | exact hcell1 _ _ _ hb hob
          | rfl
      have hgrowbound : ∀ {y : Prop}, bcase (decide (sCap < sLen + n)) (bcase (decide ((2 * (sLen + n) + 768) * i.bytes ≤ 281474976710656)) (bcase (decide (sLen + n ≤ 1099511627776)) y False) False) False →
          y ∧ ¬ sLen + n ≤ sCap ∧ ¬ ((2 * (sLen + n) + 768) * i.bytes > 2 ^ 48 || decide (sLen + n > 2 ^ 40)) = true := by
        intro y hy
        obtain ⟨a1, hy⟩ := bcase_out hy
        obtain ⟨a2, hy⟩ := bcase_out hy
        obtain ⟨a3, hy⟩ := bcase_out hy
        simp only [decide_eq_true_eq] at a1 a2 a3
        refine ⟨hy, by omega, ?_⟩
        simp only [Bool.or_eq_true, decide_eq_true_eq, not_or]
        exact ⟨by omega, by omega⟩
      -- the new block is seen as cells without addresses
      have fin : ∀ {ρ' : Ren} {w' : World} {Hk : Heap} {v v' : Value} {old : List Value}, Gam w0 ρ' (Hk.new (.cells (old ++ new) elem true i.size)) w' → Ext ρ ρ' H (Hk.new (.cells (old ++ new) elem true i.size)) → H.next ≤ Hk.next → (∀ v ∈ old, cellP v = true) → VR ρ' v v' → (Builtin.append_ argTypes type args').run P w = .ok v' w' →
          k v (Hk.new (.sym (old ++ new) true i.size)) → AppS P w0 ρ H w argTypes type args' k := by
        intro ρ' w' Hk v v' old g' ext hnx hop hv hrun hkk
        have hall : ∀ v ∈ old ++ new, cellP v = true := fun v hv => (List.mem_append.1 hv).elim (hop v) (hnp v)
        have g2 := g'.recast (i := Hk.next) (o := .cells (old ++ new) elem true i.size) (o' := .sym (old ++ new) true i.size) (by rw [Heap.get_new, if_pos rfl]) rfl (fun m _ r => obj_sym hall r)
        have hget : ∀ j, (Hk.new (.sym (old ++ new) true i.size)).get j = ((Hk.new (.cells (old ++ new) elem true i.size)).set Hk.next (.sym (old ++ new) true i.size)).get j := by
          intro j
          rw [Heap.get_new, Heap.get_set, Heap.get_new]
          by_cases e : j = Hk.next
          · rw [if_pos e, if_pos e]
          · rw [if_neg e, if_neg e, if_neg e]
        refine ⟨ρ', v, v', w', _, hkk, g2.congr hget rfl, ?_, hv, hrun⟩
        refine ext_congr ext rfl (fun _ _ => rfl) rfl (fun j hj _ => ?_)
        rw [Heap.get_new, Heap.get_new, if_neg (by omega), if_neg (by omega)]
      by_cases h0n : n = 0
      · subst h0n
        have hnil : new = [] := List.length_eq_zero_iff.1 (by simpa using hnl)
        subst hnil
        replace hk : bcase (decide (sLen ≤ sCap)) (keepK H i.size base sLen sCap k) False := hk
        replace hk := bcase_out hk; obtain ⟨hle, hk⟩ := hk
        simp only [decide_eq_true_eq] at hle
        unfold keepK at hk
        split at hk
        · obtain ⟨ρ', v', w', r1, r2, r3, r4⟩ := run (H1 := H) (v := .slice none sLen sCap) (H2 := H) g (by rw [open1 hnew, if_pos (by omega)]; rfl)
          exact ⟨ρ', _, v', w', H, hk, r1, r2, r3, r4⟩
        · rename_i b off
          split at hk
          case h_2 => cases hk
          rename_i cs o es' sy harr
          have base : es' = i.size → gbase ≤ b → (sy = true → o = true) → off + sLen * i.size ≤ cs.length → ∃ ρ' v' w', Gam w0 ρ' H w' ∧ Ext ρ ρ' H H ∧ VR ρ' (.slice (some ⟨b, off, none⟩) sLen sCap) v' ∧ (Builtin.append_ argTypes type args').run P w = .ok v' w' := by
            intro e0 hgb hsy hle2
            subst e0
            obtain ⟨ob, hob, harr⟩ := Option.bind_eq_some_iff.1 harr
            obtain ⟨m, hm, _⟩ := slice_inv hs
            have hkind : ∃ ty, (ob = .cells cs ty o i.size ∨ ob = .sym cs o i.size) ∧ (sy = true → ob = .sym cs o i.size) ∧ (sy = false → ob = .cells cs ty o i.size) := by
              cases ob <;> simp only [arrOf, Option.some.injEq, Prod.mk.injEq] at harr
              · obtain ⟨rfl, rfl, e3, rfl⟩ := harr; subst e3; exact ⟨_, .inl rfl, by simp, fun _ => rfl⟩
              all_goals first
                | (obtain ⟨rfl, rfl, e3, rfl⟩ := harr; subst e3; exact ⟨0, .inr rfl, fun _ => rfl, by simp⟩)
                | cases harr
            obtain ⟨ty, hk1, hk2, hk3⟩ := hkind
            have g1 : Gam w0 ρ (H.set b (.cells cs 0 o i.size)) w := g.recast hob (by rcases hk1 with rfl | rfl <;> rfl) (fun m' hm' r => by
              cases hsy2 : sy with
              | true => obtain rfl := hk2 hsy2; obtain rfl := hsy hsy2; exact obj_cells r
              | false => obtain rfl := hk3 hsy2; exact r)
            have hgetb : (H.set b (.cells cs 0 o i.size)).get b = some (.cells cs 0 o i.size) := by rw [Heap.get_set, if_pos rfl]
            have hw : (H.set b (.cells cs 0 o i.size)).write b (off + sLen * i.size) [] = some ((H.set b (.cells cs 0 o i.size)).set b (.cells (listSet cs (off + sLen * i.size) []) 0 o i.size)) := by
              unfold Heap.write
              rw [hgetb]
              simp only [List.length_nil, Nat.add_zero, List.all_nil, Bool.and_true]
              rw [if_pos (by simp [hle2, mb_of hgb])]
            have hls : listSet cs (off + sLen * i.size) [] = cs := by simp [listSet]
            rw [hls] at hw
            obtain ⟨ρ', v', w', r1, r2, r3, r4⟩ := run (v := .slice (some ⟨b, off, none⟩) sLen sCap) (H2 := (H.set b (.cells cs 0 o i.size)).set b (.cells cs 0 o i.size)) g1 (by rw [open1 (hfirst1 (ty := ty) hob hk1), if_pos (by omega)]; show (Option.bind _ _) = _; rw [hw]; rfl)
            have g2 := r1.recast (i := b) (o := .cells cs 0 o i.size) (o' := ob) (by rw [Heap.get_set, if_pos rfl]) (by rcases hk1 with rfl | rfl <;> rfl) (fun m' hm' r => by
              cases hsy2 : sy with
              | true => obtain rfl := hk2 hsy2; exact obj_sym (g.obj b m _ hm hob).2 r
              | false => obtain rfl := hk3 hsy2; exact r) (by rcases hk1 with rfl | rfl <;> rfl)
            have hget : ∀ j, H.get j = (((H.set b (.cells cs 0 o i.size)).set b (.cells cs 0 o i.size)).set b ob).get j := by
              intro j
              rw [Heap.get_set, Heap.get_set, Heap.get_set]
              by_cases e : j = b
              · rw [if_pos e, e, hob]
              · rw [if_neg e, if_neg e, if_neg e]
            refine ⟨ρ', v', w', g2.congr hget rfl, ?_, r3, r4⟩
            refine ext_congr r2 rfl (fun j hj => ?_) rfl (fun j _ hj => ?_)
            · have : j ≠ b := fun e => by rw [e, hm] at hj; cases hj
              rw [Heap.get_set, if_neg this]
            · have : j ≠ b := fun e => by rw [e, hm] at hj; cases hj
              rw [Heap.get_set, if_neg this, Heap.get_set, if_neg this]
          split at hk
          · rename_i hcl
            obtain ⟨e1, e2, e3, e4, hgb, e6, e7, e8⟩ := hcl
            obtain ⟨ρ', v', w', r1, r2, r3, r4⟩ := base e4 hgb (fun h => by rw [e1] at h; cases h) (by rw [e3, e6, e7]; omega)
            obtain ⟨ob, hob, harr⟩ := Option.bind_eq_some_iff.1 harr
            have hob2 : ∃ ty, ob = .cells cs ty false i.size := by
              subst e1; subst e2; subst e4
              cases ob <;> simp only [arrOf, Option.some.injEq, Prod.mk.injEq] at harr
              · obtain ⟨rfl, rfl, e5, _⟩ := harr; subst e5; exact ⟨_, rfl⟩
              all_goals first
                | (obtain ⟨_, _, _, e5⟩ := harr; cases e5)
                | cases harr
            obtain ⟨ty, rfl⟩ := hob2
            rw [e3] at r3
            obtain ⟨ρ2, g2, x2, v2⟩ := r1.reopen hgb hob (List.all_eq_true.1 e8) r3 e7
            rw [e2] at hk
            exact ⟨ρ2, _, v', w', _, hk, g2, r2.trans x2, v2, r4⟩
          · split at hk
            case isFalse => cases hk
            rename_i hcond
            obtain ⟨e0, hgb, hsy⟩ := hcond
            replace hk := bcase_out hk; obtain ⟨hle2, hk⟩ := hk
            simp only [decide_eq_true_eq] at hle2
            obtain ⟨ρ', v', w', r1, r2, r3, r4⟩ := base e0 hgb hsy hle2
            exact ⟨ρ', _, v', w', H, hk, r1, r2, r3, r4⟩
        · cases hk
      · have hb0 : (n == 0) = false := by simpa using h0n
        rw [hb0] at hk
        replace hk := hgrowbound hk; obtain ⟨hk, hgt, hbig⟩ := hk
        unfold growK at hk
        split at hk
        · replace hk := bcase_out hk; obtain ⟨hs0, hk⟩ := hk
          simp only [beq_iff_eq] at hs0
          obtain ⟨ρ', v', w', r1, r2, r3, r4⟩ := run (v := .slice (some ⟨H.next, 0, none⟩) (sLen + n) (sLen + n)) (H2 := H.new (.cells ([] ++ new) elem true i.size)) g (by rw [open1 hnew, if_neg hgt, if_neg hbig]; simp only [hs0, if_true]; rfl)
          exact fin r1 r2 (Nat.le_refl _) (fun v hv => (List.not_mem_nil hv).elim) r3 r4 hk
        · rename_i b off
          split at hk
          case h_2 => cases hk
          rename_i cs o es' sy harr
          split at hk
          case isFalse => cases hk
          rename_i hcond
          obtain ⟨rfl, hgb⟩ := hcond
          replace hk := bcase_out hk; obtain ⟨hle2, hk⟩ := hk
          replace hk := bcase_out hk; obtain ⟨hsp, hk⟩ := hk
          simp only [decide_eq_true_eq] at hle2
          obtain ⟨ob, hob, harr⟩ := Option.bind_eq_some_iff.1 harr
          obtain ⟨m, hm, _⟩ := slice_inv hs
          have hkind : ∃ ty, (ob = .cells cs ty o i.size ∨ ob = .sym cs o i.size) ∧ (sy = true → ob = .sym cs o i.size) ∧ (sy = false → ob = .cells cs ty o i.size) := by
            cases ob <;> simp only [arrOf, Option.some.injEq, Prod.mk.injEq] at harr
            · obtain ⟨rfl, rfl, e3, rfl⟩ := harr; subst e3; exact ⟨_, .inl rfl, by simp, fun _ => rfl⟩
            all_goals first
              | (obtain ⟨rfl, rfl, e3, rfl⟩ := harr; subst e3; exact ⟨0, .inr rfl, fun _ => rfl, by simp⟩)
              | cases harr
          obtain ⟨ty, hk1, hk2, hk3⟩ := hkind
          have hold : ∀ v ∈ (cs.drop off).take (sLen * i.size), cellP v = true := by
            intro v hv
            cases hsy2 : sy with
            | true => obtain rfl := hk2 hsy2; exact (g.obj b m _ hm hob).2 v (List.mem_of_mem_drop (List.mem_of_mem_take hv))
            | false => rw [hsy2, Bool.false_or] at hsp; exact List.all_eq_true.1 hsp v hv
          have hcellsAt : ∀ {H1 : Heap}, H1.get b = some (.cells cs 0 o i.size) → H1.cellsAt b off (sLen * i.size) = some ((cs.drop off).take (sLen * i.size)) := by
            intro H1 h
            simp only [Heap.cellsAt, h]
            rw [if_pos hle2]
          have hgetb : (H.set b (.cells cs 0 o i.size)).get b = some (.cells cs 0 o i.size) := by rw [Heap.get_set, if_pos rfl]
          have g1 : (sy = true → o = true) → Gam w0 ρ (H.set b (.cells cs 0 o i.size)) w := fun hsy => g.recast hob (by rcases hk1 with rfl | rfl <;> rfl) (fun m' hm' r => by
            cases hsy2 : sy with
            | true => obtain rfl := hk2 hsy2; obtain rfl := hsy hsy2; exact obj_cells r
            | false => obtain rfl := hk3 hsy2; exact r)
          split at hk
          · rename_i ho
            subst ho
            replace hk := bcase_out hk; obtain ⟨hend, hk⟩ := hk
            simp only [decide_eq_true_eq] at hend
            obtain ⟨ρ', v', w', r1, r2, r3, r4⟩ := run (v := .slice (some ⟨H.next, 0, none⟩) (sLen + n) (sLen + n)) (H2 := ((H.set b (.cells cs 0 true i.size)).set b (.dead cs.length true i.size)).new (.cells ((cs.drop off).take (sLen * i.size) ++ new) elem true i.size)) (g1 (fun _ => rfl)) (by
              rw [open1 (hfirst1 (ty := ty) hob hk1), if_neg hgt, if_neg hbig]
              simp only [hcellsAt hgetb, hgetb, Option.bind_some]
              rw [if_pos (by simp [hend]), if_pos (by simp [hgb, all_cellOk hnp])]
              rfl)
            have hget : ∀ j, ((H.set b (.dead cs.length true i.size)).new (.cells ((cs.drop off).take (sLen * i.size) ++ new) elem true i.size)).get j = (((H.set b (.cells cs 0 true i.size)).set b (.dead cs.length true i.size)).new (.cells ((cs.drop off).take (sLen * i.size) ++ new) elem true i.size)).get j := by
              intro j
              rw [Heap.get_new, Heap.get_new]
              simp only [Heap.next_set]
              by_cases e : j = H.next
              · simp only [e, if_true]
              · simp only [e, if_false]
                rw [Heap.get_set, Heap.get_set, Heap.get_set]
                by_cases e2 : j = b
                · rw [if_pos e2, if_pos e2]
                · rw [if_neg e2, if_neg e2, if_neg e2]
            have r1' := r1.congr hget rfl
            have r2' : Ext ρ ρ' H ((H.set b (.dead cs.length true i.size)).new (.cells ((cs.drop off).take (sLen * i.size) ++ new) elem true i.size)) := ext_congr r2 rfl (fun j hj => by
              have : j ≠ b := fun e => by rw [e, hm] at hj; cases hj
              rw [Heap.get_set, if_neg this]) rfl (fun j _ _ => hget j)
            exact fin r1' r2' (Nat.le_refl _) hold r3 r4 hk
          · rename_i ho
            simp only [Bool.not_eq_true] at ho
            subst ho
            split at hk
            · cases hk
            rename_i hsy
            obtain ⟨ρ', v', w', r1, r2, r3, r4⟩ := run (v := .slice (some ⟨H.next, 0, none⟩) (sLen + n) (sLen + n)) (H2 := (H.set b (.cells cs 0 false i.size)).new (.cells ((cs.drop off).take (sLen * i.size) ++ new) elem true i.size)) (g1 (fun h => absurd h hsy)) (by
              rw [open1 (hfirst1 (ty := ty) hob hk1), if_neg hgt, if_neg hbig]
              simp only [hcellsAt hgetb, hgetb, Option.bind_some]
              rfl)
            have hob2 := hk3 (by simpa using hsy)
            have g3 := r1.recast (i := b) (o := .cells cs 0 false i.size) (o' := ob) (by
                rw [Heap.get_new]
                rw [if_neg (by have := g.lt hm; simp only [Heap.next_set]; omega), hgetb]) (by rw [hob2]; rfl) (fun m' hm' r => by rw [hob2]; exact r) (by rw [hob2]; rfl)
            have hget : ∀ j, (H.new (.cells ((cs.drop off).take (sLen * i.size) ++ new) elem true i.size)).get j = (((H.set b (.cells cs 0 false i.size)).new (.cells ((cs.drop off).take (sLen * i.size) ++ new) elem true i.size)).set b ob).get j := by
              intro j
              rw [Heap.get_new, Heap.get_set, Heap.get_new, Heap.get_set]
              by_cases e2 : j = b
              · rw [if_pos e2, e2, if_neg (by have := g.lt hm; omega), hob]
              · rw [if_neg e2, if_neg e2]
                rfl
            have r1' := g3.congr hget rfl
            have r2' : Ext ρ ρ' H (H.new (.cells ((cs.drop off).take (sLen * i.size) ++ new) elem true i.size)) := ext_congr r2 rfl (fun j hj => by
              have : j ≠ b := fun e => by rw [e, hm] at hj; cases hj
              rw [Heap.get_set, if_neg this]) rfl (fun j _ hj => by
                have : j ≠ b := fun e => by rw [e, hm] at hj; cases hj
                rw [hget, Heap.get_set, if_neg this])
            exact fin r1' r2' (Nat.le_refl _) hold r3 r4 hk
        · cases hk
    | _ => simp [hu] at hk

theorem seenK_out {v : Value} {k : Value → Prop} (h : seenK v k) : k v := by
  unfold seenK at h
  split at h <;> exact h
theorem cellsK_out : ∀ {l : List Value} {k : List Value → Nat → Prop}, cellsK l k → k l l.length
  | [], _, h => h
  | v :: r, k, h => by
    have h1 := seenK_out h
    exact cellsK_out (l := r) (k := fun vs n => k (v :: vs) (n + 1)) h1
theorem wpStore_run (g : Gam w0 ρ H w) {t : TypeId} {p p' v v' : Value} {k : Heap → Prop} (hp : VR ρ p p') (hv : VR ρ v v') (h : wpStore P H t p v k) :
    ∃ H' w', k H' ∧ Gam w0 ρ H' w' ∧ Ext ρ ρ H H' ∧ (Instr.storeAt t p' v').run P w = .ok () w' := by
  unfold wpStore at h
  split at h
  case h_2 => cases h
  rename_i i off
  split at h
  · rename_i cs es hg
    split at h
    case isFalse => cases h
    rename_i hc
    obtain ⟨hz, hkn, hcp, hgb⟩ := hc
    obtain ⟨hle, h⟩ := bcase_out (cellsK_out h)
    simp only [decide_eq_true_eq, Array.length_toList] at hle
    have hpv := List.all_eq_true.1 hcp
    have hps : ∀ m, ρ i = some m → ∀ x ∈ cs, cellP x = true := fun m hm => (g.obj i m _ hm hg).2
    have hm : ∃ m, ρ i = some m := by
      cases hp with
      | ptr i k m hm => exact ⟨m, hm⟩
      | glob i k hi => exfalso; unfold mbase abase at *; omega
    obtain ⟨m, hm⟩ := hm
    have g1 : Gam w0 ρ (H.set i (.cells cs 0 true es)) w := g.recast hg rfl (fun m' _ r => obj_cells r)
    have hgetb : (H.set i (.cells cs 0 true es)).get i = some (.cells cs 0 true es) := by rw [Heap.get_set, if_pos rfl]
    have hw : storeA P (H.set i (.cells cs 0 true es)) t (.pointer (some ⟨i, off, none⟩)) v = some ((H.set i (.cells cs 0 true es)).set i (.cells (listSet cs off v.cells.toList) 0 true es)) := by
      simp only [storeA, hz, Option.bind_eq_bind, Option.bind_some, hkn, Bool.and_true, decide_true, if_true]
      unfold Heap.write
      rw [hgetb]
      simp only [Array.length_toList]
      rw [if_pos (by simp [hle, hgb, all_cellOk hpv])]
    obtain ⟨w', g2, ext, hrun⟩ := storeA_sound g1 hp hv hw
    have hall : ∀ x ∈ listSet cs off v.cells.toList, cellP x = true := by
      intro x hx
      simp only [listSet, List.mem_append] at hx
      rcases hx with (hx | hx) | hx
      · exact hps m hm x (List.mem_of_mem_take hx)
      · exact hpv x hx
      · exact hps m hm x (List.mem_of_mem_drop hx)
    have g3 := g2.recast (i := i) (o := .cells (listSet cs off v.cells.toList) 0 true es) (o' := .sym (listSet cs off v.cells.toList) true es) (by rw [Heap.get_set, if_pos rfl]) rfl (fun m' _ r => obj_sym hall r)
    have hget : ∀ j, (H.set i (.sym (listSet cs off v.cells.toList) true es)).get j = (((H.set i (.cells cs 0 true es)).set i (.cells (listSet cs off v.cells.toList) 0 true es)).set i (.sym (listSet cs off v.cells.toList) true es)).get j := by
      intro j
      simp only [Heap.get_set]
      by_cases e : j = i
      · simp [e]
      · simp [e]
    refine ⟨_, w', h, g3.congr hget rfl, ?_, hrun⟩
    refine ext_congr ext rfl (fun j hj => ?_) rfl (fun j _ hj => ?_)
    · have : j ≠ i := fun e => by rw [e, hm] at hj; cases hj
      rw [Heap.get_set, if_neg this]
    · have : j ≠ i := fun e => by rw [e, hm] at hj; cases hj
      simp [Heap.get_set, this]
  · split at h
    · rename_i H' he
      obtain ⟨w', a, b, c⟩ := storeA_sound g hp hv he
      exact ⟨H', w', h, a, b, c⟩
    · cases h

theorem store_op (g : Gam w0 ρ H w) {env env' : Operand → Value} {o : Oper} {k : Heap → Prop} (henv : ∀ y ∈ o.op.operands, VR ρ (env y) (env' y)) (hi : isStore o = true) (hk : wpStore P H (storeOf o).1 (env (storeOf o).2.1) (env (storeOf o).2.2) k) :
    ∃ H' w', k H' ∧ Gam w0 ρ H' w' ∧ Ext ρ ρ H H' ∧ (execOp env' o).run P w = .ok .skip w' := by
  obtain ⟨dst, op, type, pos, after, guard⟩ := o
  cases op <;> first
    | (cases hi; done)
    | skip
  rename_i t a x
  obtain ⟨H', w', h1, h2, h3, h4⟩ := wpStore_run g (henv a (by simp [Op.operands])) (henv x (by simp [Op.operands])) hk
  refine ⟨H', w', h1, h2, h3, ?_⟩
  have h5 : (Instr.storeAt t (env' a) (env' x)).run P w = .ok () w' := h4
  simp only [execOp, Sem.run_bind, h5, Result.andThen_ok]
  rfl

theorem append_op (g : Gam w0 ρ H w) {env env' : Operand → Value} {o : Oper} {k : Value → Heap → Prop} (henv : ∀ y ∈ o.op.operands, VR ρ (env y) (env' y)) (hi : isAppend o = true) (hk : wpAppend P H (argTypesOf o) ((argsOf o).map env) k) :
    ∃ ρ' v v' w' H', k v H' ∧ Gam w0 ρ' H' w' ∧ Ext ρ ρ' H H' ∧ VR ρ' v v' ∧ (execOp env' o).run P w = .ok (.value v') w' := by
  obtain ⟨dst, op, type, pos, after, guard⟩ := o
  cases op <;> first
    | (cases hi; done)
    | skip
  rename_i c
  obtain ⟨callee, cargs, argTypes⟩ := c
  cases callee <;> first
    | (cases hi; done)
    | skip
  rename_i b
  cases b <;> first
    | (cases hi; done)
    | skip
  have ha : LR ρ (cargs.map env).toList (cargs.map env').toList := maps_LR (fun y hy => henv y (by simp [Op.operands, Call.operands, hy]))
  obtain ⟨ρ', v, v', w', H', h1, h2, h3, h4, h5⟩ := wpAppend_run (type := type) g ha hk
  refine ⟨ρ', v, v', w', H', h1, h2, h3, h4, ?_⟩
  show (do let d ← resolve env' ⟨.builtin .append, cargs, argTypes⟩ type; invoke d.target d.args : Sem Next).run P w = _
  simp only [resolve, Sem.run_bind, Sem.run_pure, Result.andThen_ok]
  exact builtin_val (b := .append) (e := Builtin.append_ argTypes type (cargs.map env')) rfl h5
theorem zero_rep {a : Array Value} {v0 : Value} (h : a.toList = [v0]) (n : Nat) : (Builtin.zeroCells a n).toList = List.replicate n v0 := by
  obtain rfl : a = #[v0] := Array.ext' (by simpa using h)
  apply List.ext_getElem
  · simp [Builtin.zeroCells]
  · intro i h1 h2
    simp [Builtin.zeroCells, Nat.mod_one]
theorem make_op (g : Gam w0 ρ H w) {env env' : Operand → Value} {o : Oper} {k : Value → Heap → Prop} (henv : ∀ y ∈ o.op.operands, VR ρ (env y) (env' y)) (hi : isMake o = true) (hk : wpMake P H (makeOf o).1 (env (makeOf o).2.1) (env (makeOf o).2.2) k) :
    ∃ ρ' v v' w' H', k v H' ∧ Gam w0 ρ' H' w' ∧ Ext ρ ρ' H H' ∧ VR ρ' v v' ∧ (execOp env' o).run P w = .ok (.value v') w' := by
  obtain ⟨t, l, c, hop⟩ : ∃ t l c, o.op = .makeSlice t l c := by
    unfold isMake at hi
    split at hi
    · rename_i t x c e; exact ⟨t, _, c, e⟩
    · cases hi
  have em : makeOf o = (t, l, c) := by simp [makeOf, hop]
  rw [em] at hk
  simp only at hk
  unfold wpMake at hk
  split at hk
  case h_2 => cases hk
  rename_i l0 c0 el ec
  cases hu : P.underlying t with
  | none => simp [hu] at hk
  | some d =>
    cases d with
    | slice elem =>
      simp only [hu] at hk
      split at hk
      case h_2 => cases hk
      rename_i i hin
      split at hk
      case h_2 => cases hk
      rename_i z hz
      split at hk
      case h_2 => cases hk
      rename_i v0 hzc
      split at hk
      case isFalse => cases hk
      rename_i hc
      obtain ⟨hs, hv0, hp⟩ := hc
      obtain ⟨h1, hk⟩ := bcase_out hk
      obtain ⟨h2, hk⟩ := bcase_out hk
      obtain ⟨h3, hk⟩ := bcase_out hk
      obtain ⟨h4, hk⟩ := bcase_out hk
      obtain rfl : l0 = c0 := eq_of_beq h1
      have h2 := of_decide_eq_true h2
      have h3 := of_decide_eq_true h3
      have h4 := of_decide_eq_true h4
      have hzs : z.cells.size = i.size := by rw [hs, ← Array.length_toList, hzc]; rfl
      have ha : allocOf P env o = some (.slice l0.toNat l0.toNat, .cells (Builtin.zeroCells z.cells l0.toNat).toList elem false i.size) := by
        simp only [allocOf, hop, el, ec, hu, hin, hz, Option.bind_eq_bind, Option.bind_some]
        rw [if_pos ⟨h2, Int.le_refl _, h3, h4, hp, hzs⟩]
      obtain ⟨obj, m, hb, hrun, hobj, hvr⟩ := (allocOf_sound henv ha w).run
      rw [zero_rep hzc, hs] at hobj
      let m2 : Meta := { m with opn := true }
      have hpc : ∀ v ∈ List.replicate l0.toNat v0, cellP v = true := fun v hv => by rw [(List.mem_replicate.1 hv).2]; exact hv0
      have ho : ObjR (ρ.put H.next m2) (w.alloc obj) m2 (.sym (List.replicate l0.toNat v0) true 1) := by
        obtain ⟨q1, q2, q3, q4, q5, q6, q7, q8⟩ := hobj (ρ.put H.next m2) (g.le_put m2)
        exact obj_sym (ty := q5) hpc ⟨q1, rfl, q3, q4, q5, q6, q7, q8⟩
      obtain ⟨g', e'⟩ := g.new (.sym (List.replicate l0.toNat v0) true 1) obj m2 hb ho
      obtain ⟨q1, q2, q3, q4, q5, q6, q7, q8⟩ := hobj ρ (fun _ _ h => h)
      have hoff : m.o = 0 := by
        have hv := hvr (ρ.put H.next m) H.next (by simp [Ren.put])
        obtain ⟨m', hm', off, capC, e1, e2, e3, e4⟩ := slice_inv hv
        obtain rfl : m = m' := by simpa [Ren.put] using hm'
        have := (e3 (by simp [Meta.isOpen, q2])).1
        simp only [Mk.val, Value.slice.injEq, Option.some.injEq, Addr.mk.injEq] at e1
        omega
      have hw := m.hw
      simp only [List.length_replicate] at q1
      refine ⟨_, _, _, _, _, hk, g', e', ?_, hrun⟩
      have := VR.opened (ρ := ρ.put H.next m2) H.next 0 l0.toNat l0.toNat l0.toNat m2 (by simp [Ren.put]) (by simp [Meta.isOpen, m2, q1, q3]) (Nat.le_refl _) (by simp only [m2, q3]; omega) (Nat.le_refl _)
      simpa [m2, hoff, hb, Mk.val] using this
    | _ => simp [hu] at hk
end Go.Abs

/- From the evaluator's values to data. -/
namespace Go.Abs
open Go.RowKit
variable {P : Program} {ρ : Ren} {w0 : Start P} {w : World} {H : Heap}

/-! ### From the evaluator's values to data -/
theorem LR.eq_of_plain {l l' : List Value} (h : LR ρ l l') (hp : ∀ v ∈ l, cellP v = true) : l' = l := LR.plain_eq (fun v v' h1 h2 => Abs.plain_eq 8 v v' h1 h2) h (List.all_eq_true.2 (fun v hv => cellP_plain (hp v hv)))

/-- Another world with the same blocks. -/
def Alike (ρ : Ren) (H : Heap) (w w2 : World) : Prop := ∀ i m o, ρ i = some m → H.get i = some o → o.alive = true → o.isYld = false → w2.heap[m.b]? = w.heap[m.b]?
theorem Alike.refl (w : World) : Alike ρ H w w := fun _ _ _ _ _ _ _ => rfl
theorem reads_slW (g : Gam w0 ρ H w) {w2 : World} (hw2 : Alike ρ H w w2) {i o len cap : Nat} {v' : Value} (hv : VR ρ (.slice (some ⟨i, o, none⟩) len cap) v') {cs : List Value} {es : Nat}
    (hget : ∃ opn, H.get i = some (.sym cs opn es) ∨ ∃ ty, H.get i = some (.cells cs ty opn es)) (hle : o + len * es ≤ cs.length) (hp : ∀ v ∈ (cs.drop o).take (len * es), cellP v = true) :
    Reads w2 (.sl len es ((cs.drop o).take (len * es))) v' := by
  have hlc := slice_lc hv
  obtain ⟨m, hm, off, capC, rfl, hcap, h1, h2⟩ := slice_inv hv
  obtain ⟨opn, hget⟩ := hget
  have key : m.known = cs.length ∧ ∃ c ty fz, w2.heap[m.b]? = some (.cells c ty fz) ∧ c.size = m.size ∧ LR ρ cs ((c.toList.drop m.o).take cs.length) := by
    rcases hget with hget | ⟨ty, hget⟩
    · obtain ⟨⟨a, b, c, d, e, f, g1, g2, g3⟩, _⟩ := g.obj i m _ hm hget
      exact ⟨a, d, e, f, (hw2 i m _ hm hget rfl rfl).trans g1.1, g2, g3⟩
    · obtain ⟨a, b, c, d, e, g1, g2, g3⟩ := g.obj i m _ hm hget
      exact ⟨a, d, e, _, (hw2 i m _ hm hget rfl rfl).trans g1, g2, g3⟩
  obtain ⟨hk, c, ty, fz, hb, hsz, hlr⟩ := key
  have hw := m.hw
  have hlr2 : LR ρ ((cs.drop o).take (len * es)) ((((c.toList.drop m.o).take cs.length).drop o).take (len * es)) := (hlr.drop o).take _
  have heq := LR.eq_of_plain hlr2 hp
  have hlen : ((cs.drop o).take (len * es)).length = len * es := by simp; omega
  have hat : off = m.o + o ∨ (len = 0 ∧ off ≤ m.size) := by
    by_cases ho : m.isOpen o cap = true
    · rcases h2 ho with h | h
      · exact .inl h.1
      · exact .inr ⟨h.1, slice_off hv hm rfl ho⟩
    · exact .inl (h1 (by simpa using ho)).1
  rcases hat with rfl | ⟨rfl, hoff⟩
  · refine .sl _ _ _ _ _ _ c ty fz hb (by rw [hlen]; omega) ?_ hlen hp (by omega)
    rw [hlen]
    rw [← heq]
    rw [List.drop_take, List.take_take, List.drop_drop]
    congr 1
    omega
  · have hnil : (cs.drop o).take (0 * es) = [] := by simp
    rw [hnil]
    exact .sl 0 es [] _ _ _ c ty fz hb (by simp; omega) (by simp) (by simp) (fun v hv => by cases hv) (Nat.zero_le _)

theorem readCells_outW (g : Gam w0 ρ H w) {w2 : World} (hw2 : Alike ρ H w w2) : ∀ (l : List Value) {l' : List Value} {k : List D → Prop}, LR ρ l l' → readCells H l k → ∃ ds, ReadsL w2 ds l' ∧ k ds
  | [], _, k, .nil, h => ⟨[], .nil, h⟩
  | v :: r, _, k, .cons hv ht, h => by
    unfold readCells at h
    split at h
    · obtain ⟨ds, h1, h2⟩ := readCells_outW g hw2 r ht h
      cases hv
      exact ⟨_, .cons .nil h1, h2⟩
    · rename_i i o len cap
      split at h
      · rename_i cs opn es hget
        obtain ⟨hle, h⟩ := bcase_out h
        obtain ⟨ds, h1, h2⟩ := readCells_outW g hw2 r ht h
        simp only [decide_eq_true_eq] at hle
        refine ⟨_, .cons (reads_slW g hw2 hv ⟨opn, .inl hget⟩ hle ?_) h1, h2⟩
        intro v hv'
        cases hv with
        | slice i k len cap m hm ho hl => exact (g.obj i m _ hm hget).2 v (List.mem_of_mem_drop (List.mem_of_mem_take hv'))
        | opened i k len cap capC m hm ho hc hs hl => exact (g.obj i m _ hm hget).2 v (List.mem_of_mem_drop (List.mem_of_mem_take hv'))
        | empty i k off m hm ho hz => exact (g.obj i m _ hm hget).2 v (List.mem_of_mem_drop (List.mem_of_mem_take hv'))
      · rename_i cs ty opn es hget
        obtain ⟨hle, h⟩ := bcase_out h
        obtain ⟨hp, h⟩ := bcase_out h
        obtain ⟨ds, h1, h2⟩ := readCells_outW g hw2 r ht h
        simp only [decide_eq_true_eq] at hle
        exact ⟨_, .cons (reads_slW g hw2 hv ⟨opn, .inr ⟨ty, hget⟩⟩ hle (List.all_eq_true.1 hp)) h1, h2⟩
      · cases h
    · split at h
      · rename_i hp
        obtain ⟨ds, h1, h2⟩ := readCells_outW g hw2 r ht h
        rw [plain_eq 8 _ _ hp hv]
        exact ⟨_, .cons (.val _ hp) h1, h2⟩
      · cases h

theorem ReadsL.append {a b : List D} {l l' : List Value} (h : ReadsL w a l) (k : ReadsL w b l') : ReadsL w (a ++ b) (l ++ l') := by
  induction a generalizing l with
  | nil => cases h; exact k
  | cons d a ih => cases h with | cons h t => exact .cons h (ih t)
theorem readVals_outW (g : Gam w0 ρ H w) {w2 : World} (hw2 : Alike ρ H w w2) : ∀ (l : List Value) {l' : List Value} {k : List D → Prop}, LR ρ l l' → readVals H l k → ∃ ds, ReadsL w2 ds l' ∧ k ds
  | [], _, k, .nil, h => ⟨[], .nil, h⟩
  | v :: r, _, k, .cons hv ht, h => by
    unfold readVals at h
    split at h
    · rename_i e; cases e
    · rename_i cs r' e
      simp only [List.cons.injEq] at e
      obtain ⟨rfl, rfl⟩ := e
      cases hv with
      | agg _ a' ha ra =>
        obtain ⟨ds, h1, h⟩ := readCells_outW g hw2 _ (LR.of_arr ha ra) h
        obtain ⟨rs, h2, h⟩ := readVals_outW g hw2 _ ht h
        exact ⟨_, .cons (by simpa using Reads.agg (w := w2) ds a'.toList h1) h2, h⟩
    · rename_i v' r' hne e
      simp only [List.cons.injEq] at e
      obtain ⟨rfl, rfl⟩ := e
      obtain ⟨ds, h1, h⟩ := readCells_outW g hw2 _ (.cons hv .nil) h
      obtain ⟨rs, h2, h⟩ := readVals_outW g hw2 _ ht h
      exact ⟨_, h1.append h2, h⟩
theorem readVals_out (g : Gam w0 ρ H w) (l : List Value) {l' : List Value} {k : List D → Prop} (hl : LR ρ l l') (h : readVals H l k) : ∃ ds, ReadsL w ds l' ∧ k ds := readVals_outW g (.refl w) l hl h
end Go.Abs

/- One operation, operations in their order: what is left to show is enough. -/
namespace Go.Abs
open Go.RowKit
variable {P : Program} {ρ : Ren} {w0 : Start P} {w : World} {H : Heap} {h : Handler}

/-- A call ends as said. -/
def CallH (P : Program) (f : FuncId) (args : Array Value) (H : Heap) (k : Value → Heap → Prop) : Prop :=
  ∀ (w0 : Start P) (ρ : Ren) (w : World) (args' : Array Value) (n : Nat), Gam w0 ρ H w → LR ρ args.toList args'.toList →
    CallsIn Fence.wide n P f args' w fun e w' => ∃ v H' ρ' v', k v H' ∧ e = .returned v' ∧ VR ρ' v v' ∧ Gam w0 ρ' H' w' ∧ Ext ρ ρ' H H'
def HandlerOK (P : Program) (h : Handler) : Prop := ∀ g args ats H k, h g args ats H k → CallH P g args H k

/-- What is handed on to a round. -/
theorem yield_op (g : Gam w0 ρ H w) {A : AAct} {env' : Operand → Value} {o : Oper} {k : Value → Heap → Prop} (henv : ∀ y ∈ o.op.operands, VR ρ (A.eval y) (env' y)) (hi : yieldOf A o = true) (hk : wpYield H ((argsOf o).map A.eval).toList k) :
    (∀ c, o.op ≠ .defer c) ∧ ∃ l f tmps assign body, (execOp env' o).run P w = .ok (.round l f tmps assign body) w ∧ ∀ rC n, RoundIn (Fr rC) n P l f tmps assign body w fun e w' => ∃ b H', e = .returned (.bool b) ∧ k (.bool b) H' ∧ Gam w0 ρ H' w' ∧ Ext ρ ρ H H' := by
  obtain ⟨dst, op, type, pos, after, guard⟩ := o
  cases op <;> first
    | (cases hi; done)
    | skip
  rename_i c
  obtain ⟨callee, cargs, argTypes⟩ := c
  cases callee <;> first
    | (cases hi; done)
    | skip
  rename_i f
  refine ⟨(fun c e => by cases e), ?_⟩
  have ha : LR ρ (cargs.map A.eval).toList (cargs.map env').toList := maps_LR (fun y hy => henv y (by simp [Op.operands, Call.operands, hy]))
  have hf := henv f (by simp [Op.operands, Call.operands])
  obtain ⟨fv, hfv⟩ : ∃ fv, env' f = fv := ⟨_, rfl⟩
  rw [hfv] at hf
  simp only [yieldOf] at hi
  split at hi
  case h_2 => cases hi
  rename_i l x y ef
  have hl : l = ynum := by simpa using hi
  subst hl
  rw [ef] at hf
  cases hf with
  | yield _ m hm =>
    unfold wpYield at hk
    split at hk
    case h_2 => cases hk
    rename_i rest hget
    obtain ⟨m2, F, hm2, hit, hd⟩ := g.yld _ _ hget
    have hal : Alike ρ H w (hide F w) := fun i m o hm ho ha hy => hide_off (hd i m hm ⟨o, ho, ha⟩ (fun e => by subst e; rw [hget] at ho; cases ho; cases hy))
    obtain ⟨ds, hr, rest', ⟨rfl⟩, hk1, hk2⟩ := readVals_outW g hal _ (by simpa [argsOf] using ha) hk
    rw [hm] at hm2
    cases hm2
    obtain ⟨L, hL, hsz, hround⟩ := g.itok.round hit (cargs.map env') (by simpa using hr)
    refine ⟨m.b, _, _, _, _, ?_, fun rC n => (hround rC n).mono ?_⟩
    · have hgo : (getObj m.b).run P w = .ok (.loop L) w := by simp [getObj, Sem.run, hL]
      show (do let d ← resolve env' ⟨.value f, cargs, argTypes⟩ type; invoke d.target d.args : Sem Next).run P w = _
      simp only [resolve, hfv, Deferred.ofValue, Sem.run_bind, Sem.run_pure, Result.andThen_ok, invoke, Instr.yield, Instr.getLoop, hgo, Array.empty_append]
      rw [if_neg (by rw [hsz]; simp)]
      rfl
    · rintro e w' ⟨b, F', rfl, hit', h1, h2, h3, hs, hkk, hF⟩
      cases b with
      | true =>
        obtain ⟨g', e'⟩ := g.round hget hm hd hit (by simpa using hit') h1 h2 h3 hs hkk hF
        exact ⟨true, _, rfl, hk1, g', e'⟩
      | false =>
        obtain ⟨g', e'⟩ := g.round hget hm hd hit (by simpa using hit') h1 h2 h3 hs hkk hF
        exact ⟨false, _, rfl, hk2, g', e'⟩

theorem wpOp_L (hh : HandlerOK P h) (g : Gam w0 ρ H w) {ops : Array Oper} {o : Oper} {A : AAct} {a : Act} {rC : Option Nat} {n : Nat} {next : Act → World → Prop} {Q : Exit → Act → World → Prop} {k : AAct → Heap → Prop}
    (ra : ∀ t, t ∈ looks ops o → VR ρ (A.slot t) (a.tmps.getD t undef)) (hop : wpOp P h o A H k)
    (K : ∀ ρ' v v' w' H', VR ρ' v v' → k (A.put o.dst v) H' → Gam w0 ρ' H' w' → Ext ρ ρ' H H' → next (a.put o.dst v') w') : o.wpIn (Fr rC) n P a w next Q := by
  have hs := evalN_sound (P := P) (w0 := w0)
  have plain1 : ∀ {nx : ANext} {H' : Heap}, opA P H A.eval o = some (nx, H') → (match nx with | .value v => k (A.put o.dst v) H' | .skip => k (A.put o.dst undef) H' | .enter f args => ∃ ats, h f args ats H' (fun v H'' => k (A.put o.dst v) H'') | .round _ _ => False) → o.wpIn (Fr rC) n P a w next Q := by
    intro nx H' hop hk
    obtain ⟨ρ1, nx', w1, g1, ext1, hnx, hrun⟩ := opA_sound g (env' := a.eval) (fun y hy => eval_L ra y hy) hop
    refine ⟨fun f _ => Fr_fn _ f, ?_⟩
    rw [Oper.semAt_eq _ _ _ (no_defer hop), hrun]
    have dep : (Fr rC).depth.isSome = true → 1 ≤ n := by rw [Fr_depth]; simp
    cases hnx with
    | value hv => exact K ρ1 _ _ w1 H' hv hk g1 ext1
    | skip => exact K ρ1 _ _ w1 H' (VR.undef _) hk g1 ext1
    | enter ha =>
      obtain ⟨ats, hc⟩ := hk
      refine ⟨dep, (Fr_calls (hh _ _ _ _ _ hc w0 ρ1 w1 _ (n - 1) g1 ha)).mono ?_⟩
      rintro e w2 ⟨v, H2, ρ2, v', hk2, rfl, hv, g2, ext2⟩
      exact K ρ2 _ _ w2 H2 hv hk2 g2 (ext1.trans ext2)
    | round hm hL ha => exact hk.elim
  unfold wpOp at hop
  split at hop
  · rename_i hst
    obtain ⟨H', w1, hk, g1, ext1, hrun⟩ := store_op (P := P) g (env' := a.eval) (fun y hy => eval_L ra y hy) hst hop
    refine ⟨fun f _ => Fr_fn _ f, ?_⟩
    rw [Oper.semAt_eq _ _ _ (fun c e => by simp [isStore, e] at hst), hrun]
    exact K ρ undef undef w1 H' (VR.undef _) hk g1 ext1
  split at hop
  · split at hop
    · rename_i H' he
      exact plain1 he hop
    · cases hop
  · split at hop
    · split at hop
      · rename_i hy
        obtain ⟨hnd, l, f, tmps, assign, body, hrun, hround⟩ := yield_op (P := P) g (env' := a.eval) (fun y hy => eval_L ra y hy) hy hop
        refine ⟨fun f _ => Fr_fn _ f, ?_⟩
        rw [Oper.semAt_eq _ _ _ hnd, hrun]
        have dep : (Fr rC).depth.isSome = true → 1 ≤ n := by rw [Fr_depth]; simp
        refine ⟨dep, (hround _ _).mono ?_⟩
        rintro e w2 ⟨b, H2, rfl, hk2, g2, ext2⟩
        exact K ρ _ _ w2 H2 (.bool b) hk2 g2 ext2
      split at hop
      · rename_i v H' he
        exact plain1 he (wpVal_out hop)
      · rename_i g' args H' he
        exact plain1 he ⟨_, hop⟩
      · cases hop
    · split at hop
      · rename_i hap
        obtain ⟨ρ1, v, v', w1, H', hk, g1, ext1, hv, hrun⟩ := append_op (P := P) g (env' := a.eval) (fun y hy => eval_L ra y hy) hap hop
        refine ⟨fun f _ => Fr_fn _ f, ?_⟩
        rw [Oper.semAt_eq _ _ _ (fun c e => by simp [isAppend, e] at hap), hrun]
        exact K ρ1 v v' w1 H' hv hk g1 ext1
      · split at hop
        · rename_i hmk'
          have hmk := hmk'.1
          obtain ⟨ρ1, v, v', w1, H', hk, g1, ext1, hv, hrun⟩ := make_op (P := P) g (env' := a.eval) (fun y hy => eval_L ra y hy) hmk hop
          refine ⟨fun f _ => Fr_fn _ f, ?_⟩
          rw [Oper.semAt_eq _ _ _ (fun c e => by simp [isMake, e] at hmk), hrun]
          exact K ρ1 v v' w1 H' hv hk g1 ext1
        · obtain ⟨v, H', he, hk⟩ := wpVop_out hop
          exact plain1 he hk

theorem asize_put' (A : AAct) (dst : Option Tmp) (v : Value) : (A.put dst v).size = A.size := by
  cases dst with
  | none => rfl
  | some d => simp only [AAct.put, AAct.put1]; split <;> rfl

theorem wpOps_sound (hh : HandlerOK P h) {rC : Option Nat} {n : Nat} {ops : Array Oper} {Q : Exit → Act → World → Prop} : ∀ (l : List Nat) {ρ : Ren} {H : Heap} {w : World} {A : AAct} {a : Act} {k : AAct → Heap → Prop}, Gam w0 ρ H w → ActR ρ A a →
    wpOps P h ops l A H k → (∀ ρ' A' H' a' w', k A' H' → A'.size = A.size → ActR ρ' A' a' → Gam w0 ρ' H' w' → Ext ρ ρ' H H' → Q .normal a' w') → wpOpsIn (Fr rC) n P ops Q l a w := by
  intro l
  induction l with
  | nil =>
    intro ρ H w A a k g ra h K
    exact K ρ A H a w h rfl ra g (.refl _ _)
  | cons i rest ih =>
    intro ρ H w A a k g ra h K
    simp only [wpOps] at h
    simp only [wpOpsIn]
    cases ho : ops[i]? with
    | none =>
      simp only [ho] at h ⊢
      exact ih g ra h K
    | some o =>
      simp only [ho] at h ⊢
      cases hw : wantedA ops A o with
      | none => simp [hw] at h
      | some b =>
        have hwr := wanted_R ra hw
        cases b with
        | true =>
          simp only [hw] at h
          rw [if_pos hwr]
          refine wpOp_L hh g (ops := ops) (fun t _ => ra.slot t) h ?_
          intro ρ1 v v' w1 H1 hv hk g1 ext1
          exact ih g1 ((ra.mono ext1.le).put _ hv) hk (fun ρ2 A2 H2 a2 w2 q1 q2 q3 q4 q5 => K ρ2 A2 H2 a2 w2 q1 (q2.trans (asize_put' _ _ _)) q3 q4 (ext1.trans q5))
        | false =>
          simp only [hw] at h
          rw [if_neg (by rw [hwr]; simp)]
          exact ⟨fun f _ => Fr_fn _ f, ih g (ra.put _ (VR.undef _)) h (fun ρ2 A2 H2 a2 w2 q1 q2 q3 q4 q5 => K ρ2 A2 H2 a2 w2 q1 (q2.trans (asize_put' _ _ _)) q3 q4 q5)⟩
end Go.Abs

/- A region whose order is drawn, in continuations. -/
namespace Go.Abs
open Go.RowKit
variable {P : Program} {ρ : Ren} {w0 : Start P} {w : World} {H : Heap} {h : Handler}
variable {ρ0 : Ren} {H0 : Heap} {ops : Array Oper} {D shut : List Nat} {listed : Array Bool} {A : AAct} {a : Act}

theorem Inv.turnK (iv : Inv w0 ρ0 H0 ops D shut listed ρ A H a w) (hh : HandlerOK P h) (hf : flowGood ops = true) {rC : Option Nat} {n : Nat} {Q : Exit → Act → World → Prop} {i : Nat} {o : Oper} (hi : ops[i]? = some o) (_hm : isMajor o = true) (hD : i ∉ D) (hr : ∀ p ∈ bAfter o, listed.getD p false = true)
    {k : AAct → Heap → Prop} (hk : (wantedA ops A o = some true ∧ wpOp P h o A H k) ∨ (wantedA ops A o = some false ∧ k (A.put o.dst undef) H)) {K : Act → World → Prop}
    (hK : ∀ ρ' A' H' a' w', k A' H' → A'.size = A.size → Inv w0 ρ0 H0 ops (i :: D) (i :: (bAfter o ++ shut)) (listed.setIfInBounds i true) ρ' A' H' a' w' → K a' w') : wpOpIn (Fr rC) n P ops Q i K a w := by
  have hilt : i < listed.size := by rw [iv.lsize]; exact (Array.getElem?_eq_some_iff.1 hi).1
  have hset : (listed.setIfInBounds i true).getD i false = true := by simp [Array.getD_eq_getD_getElem?, hilt]
  have hunl : ∀ j, (listed.setIfInBounds i true).getD j false = false → i ≠ j ∧ listed.getD j false = false := by
    intro j hj
    have hne : i ≠ j := fun e => by subst e; rw [hset] at hj; cases hj
    exact ⟨hne, by rw [← getD_set_ne false hne]; exact hj⟩
  have hll := iv.looks hf hi hr
  have core : ∀ (ρ' : Ren) (v v' : Value) (w' : World) (H' : Heap), VR ρ' v v' → Gam w0 ρ' H' w' → Ext ρ ρ' H H' → (∀ a' w', Inv w0 ρ0 H0 ops (i :: D) (i :: (bAfter o ++ shut)) (listed.setIfInBounds i true) ρ' (A.put o.dst v) H' a' w' → K a' w') → K (a.put o.dst v') w' := by
    intro ρ' v v' w' H' hv g' ext' hK
    refine hK _ w' ⟨g', iv.ext.trans ext', iv.gb, by rw [csize_put, asize_put]; exact iv.size, ?_, ?_, by simpa using iv.lsize, ?_, ?_, ?_, ⟨⟨o, hi, fun p hp => iv.sub p (hr p hp)⟩, iv.topo⟩, ?_, ?_⟩
    · rw [cdefers_put, adefers_put]
      exact ⟨iv.defers.1, fun i D' e => let ⟨m, h1, h2⟩ := iv.defers.2 i D' e; ⟨m, ext'.le _ _ h1, h2⟩⟩
    · intro t ht
      rw [cslot_put, aslot_put, iv.size]
      by_cases e : o.dst = some t ∧ t < A.size
      · rw [if_pos e, if_pos e]; exact hv
      · rw [if_neg e, if_neg e]
        refine (iv.slot t ?_).mono ext'.le
        intro j oj hj huj hoj
        have hne : i ≠ j := fun e => hD (e ▸ hj)
        exact ht j oj (List.mem_cons_of_mem _ hj) (by rw [getD_set_ne false hne]; exact huj) hoj
    · intro j hj
      by_cases hij : i = j
      · exact hij ▸ List.mem_cons_self ..
      · exact List.mem_cons_of_mem _ (iv.sub j (by rw [← getD_set_ne false hij]; exact hj))
    · intro j oj hj hoj hmj
      rcases List.mem_cons.1 hj with rfl | hj
      · exact hset
      · exact getD_set_true (iv.maj j oj hj hoj hmj)
    · intro j oj hj hoj p hp
      by_cases hij : i = j
      · subst hij; rw [hi] at hoj; cases hoj; exact getD_set_true (hr p hp)
      · exact getD_set_true (iv.clL j oj (by rw [← getD_set_ne false hij]; exact hj) hoj p hp)
    · intro j hj
      rcases List.mem_cons.1 hj with rfl | hj
      · exact hset
      · rcases List.mem_append.1 hj with hj | hj
        · exact getD_set_true (hr j hj)
        · exact getD_set_true (iv.shutL j hj)
    · intro j oj d b hj huj hoj hal hd hbk
      obtain ⟨hij, huj⟩ := hunl j huj
      have hjD : j ∈ D := by
        rcases List.mem_cons.1 hj with e | hj
        · exact absurd e.symm hij
        · exact hj
      have hdne : o.dst ≠ some d := flow_dst hf hi hoj hij hd
      rw [aslot_put, if_neg (fun h => hdne h.1)] at hbk
      obtain ⟨h1, h2, h3⟩ := iv.pend j oj d b hjD huj hoj hal hd hbk
      exact ⟨(ext'.keep b h3 h1).1, h2, Nat.lt_of_lt_of_le h3 ext'.next⟩
  unfold wpOpIn
  simp only [hi]
  rcases hk with ⟨hw, hk⟩ | ⟨hw, hk⟩
  · rw [if_pos (wanted_L hll hw)]
    refine wpOp_L hh iv.gam hll hk ?_
    intro ρ' v v' w' H' hv hk' g' ext'
    exact core ρ' v v' w' H' hv g' ext' (fun a' w' iv' => hK ρ' _ H' a' w' hk' (asize_put' _ _ _) iv')
  · rw [if_neg (by rw [wanted_L hll hw]; simp)]
    exact ⟨fun f _ => Fr_fn _ f, core ρ undef undef w _ (VR.undef _) iv.gam (.refl _ _) (fun a' w' iv' => hK ρ _ _ a' w' hk (asize_put' _ _ _) iv')⟩

theorem wpMinor_out {ops : Array Oper} {o : Oper} {k : AAct → Heap → Prop} (hk : wpMinor P ops A H o k) : ∃ A' H', execMinor P ops A H o = some (A', H') ∧ k A' H' ∧ A'.size = A.size := by
  unfold wpMinor at hk
  split at hk
  · cases hk
  rename_i hr
  cases hw : wantedA ops A o with
  | none => simp [hw] at hk
  | some wb =>
    cases wb with
    | false =>
      simp only [hw] at hk
      exact ⟨_, _, by simp [execMinor, hr, minorA, hw], hk, asize_put' _ _ _⟩
    | true =>
      simp only [hw] at hk
      cases hal : allocOf P A.eval o with
      | some kx =>
        obtain ⟨m, x⟩ := kx
        simp only [hal] at hk
        exact ⟨_, _, by simp [execMinor, hr, minorA, hw, hal], hk, asize_put' _ _ _⟩
      | none =>
        simp only [hal] at hk
        split at hk
        · cases hk
        rename_i hia
        obtain ⟨v, H', hv, hk⟩ := wpVop_out hk
        exact ⟨_, _, by simp [execMinor, hr, minorA, hw, hal, hv, hia], hk, asize_put' _ _ _⟩

theorem stillK_out {ops : Array Oper} {j : Nat} (hk : stillK P ops A H j) : StillP P ops A H j := by
  unfold stillK at hk
  cases hj : ops[j]? with
  | none => simp [hj] at hk
  | some o =>
    refine ⟨o, hj, ?_⟩
    simp only [hj] at hk
    cases hw : wantedA ops A o with
    | none => simp [hw] at hk
    | some wb =>
      cases wb with
      | false =>
        refine .inl ⟨rfl, fun d hd => ?_⟩
        simp only [hw, hd] at hk
        split at hk
        · rename_i hlt; exact ⟨hlt, hk⟩
        · cases hk
      | true =>
        refine .inr ⟨rfl, ?_⟩
        simp only [hw] at hk
        cases hal : allocOf P A.eval o with
        | some kx =>
          obtain ⟨m, x⟩ := kx
          simp only [hal] at hk
          cases hd : o.dst with
          | none => simp [hd] at hk
          | some d =>
            simp only [hd] at hk
            split at hk
            · rename_i hlt
              cases hb : blk (A.slot d) with
              | none => simp [hb] at hk
              | some i =>
                simp only [hb] at hk
                exact .inl ⟨m, x, d, i, rfl, rfl, hlt, hb, hk.1, hk.2⟩
            · cases hk
        | none =>
          simp only [hal] at hk
          split at hk
          · cases hk
          rename_i hia
          obtain ⟨v, H', hv, hk⟩ := wpVop_out hk
          refine .inr ⟨rfl, by simpa using hia, v, H', hv, fun d hd => ?_⟩
          simp only [hd] at hk
          split at hk
          · rename_i hlt; exact ⟨hlt, hk⟩
          · cases hk

theorem allK_out {ops : Array Oper} {again : List Nat} : ∀ (l : List Nat), allK P ops A H again l → (∀ j ∈ l, StillP P ops A H j) ∧ distinctOk (again.map (laid ops A)) = true
  | [], hk => ⟨fun j hj => (List.not_mem_nil hj).elim, (bcase_out hk).1⟩
  | j :: r, ⟨h1, h2⟩ => by
    obtain ⟨q1, q2⟩ := allK_out r h2
    refine ⟨fun i hi => ?_, q2⟩
    rcases List.mem_cons.1 hi with rfl | hi
    · exact stillK_out h1
    · exact q1 i hi

theorem run_minorsK (hf : flowGood ops = true) {k : AAct → Heap → Prop} : ∀ (rest : List PItem) {D : List Nat} {A : AAct} {H : Heap}, planGood ops rest D shut = true → wpAny P h ops rest A H k → Inv w0 ρ0 H0 ops D shut listed ρ A H a w →
    ∃ x rest' D' A' H', PItem.stops x = true ∧ planGood ops (x :: rest') D' shut = true ∧ wpAny P h ops (x :: rest') A' H' k ∧ Inv w0 ρ0 H0 ops D' shut listed ρ A' H' a w ∧ A'.size = A.size := by
  intro rest
  induction rest with
  | nil => intro D A H hp; simp [planGood] at hp
  | cons x rest ih =>
    intro D A H hp hk iv
    cases x with
    | major i again => exact ⟨_, _, _, _, _, rfl, hp, hk, iv, rfl⟩
    | last again => exact ⟨_, _, _, _, _, rfl, hp, hk, iv, rfl⟩
    | minor i =>
      simp only [planGood] at hp
      simp only [wpAny] at hk
      cases hi : ops[i]? with
      | none => simp [hi] at hp
      | some o =>
        simp only [hi, Bool.and_eq_true, Bool.not_eq_true'] at hp hk
        obtain ⟨⟨⟨h1, h2⟩, h3⟩, h4⟩ := hp
        obtain ⟨A1, H1, he, hk, hsz⟩ := wpMinor_out hk
        obtain ⟨x', r', D', A', H', q1, q2, q3, q4, q5⟩ := ih h4 hk (iv.minor hf hi h1 (by simpa using h2) (fun p hp => by simpa using List.all_eq_true.1 h3 p hp) he)
        exact ⟨x', r', D', A', H', q1, q2, q3, q4, q5.trans hsz⟩

theorem Inv.doneK (iv : Inv w0 ρ0 H0 ops D shut listed ρ A H a w) {x : PItem} {rest : List PItem} {k : AAct → Heap → Prop} (hst : x.stops = true) (hp : planGood ops (x :: rest) D shut = true) (hk : wpAny P h ops (x :: rest) A H k) (hnil : Region.ready .any ops listed = []) :
    k A H ∧ Fin w0 ρ0 H0 A H a w := by
  have hall := iv.topo.all iv.lsize hnil
  cases x with
  | minor i => cases hst
  | major i again =>
    exfalso
    simp only [planGood] at hp
    cases hi : ops[i]? with
    | none => simp [hi] at hp
    | some o =>
      simp only [hi, Bool.and_eq_true, Bool.not_eq_true'] at hp
      obtain ⟨⟨⟨⟨⟨h1, h2⟩, h3⟩, h4⟩, h5⟩, h6⟩ := hp
      have hjlt : i < listed.size := by rw [iv.lsize]; exact (Array.getElem?_eq_some_iff.1 hi).1
      have hl : listed.getD i false = false := by
        cases hl : listed.getD i false with
        | false => rfl
        | true => have := iv.sub i hl; simp at h2; exact absurd this h2
      have : i ∈ Region.ready .any ops listed := mem_ready.2 ⟨by rw [← hl]; simp [Array.getD_eq_getD_getElem?, hjlt], o, hi, bAfter_ready.2 (fun p hp => hall p (by simpa using List.all_eq_true.1 h3 p hp))⟩
      rw [hnil] at this
      cases this
  | last again =>
    simp only [wpAny] at hk
    refine ⟨hk.2, ρ, ⟨iv.size, fun t => iv.slot t (fun j o hj hun => ?_), iv.defers⟩, iv.gam, iv.ext⟩
    rw [hall j hj] at hun
    cases hun

theorem any_walkK (hh : HandlerOK P h) (hf : flowGood ops = true) {rC : Option Nat} {n : Nat} {Q : Exit → Act → World → Prop} {k : AAct → Heap → Prop} {sz : Nat} (hQ : ∀ A' H' a w, k A' H' → A'.size = sz → Fin w0 ρ0 H0 A' H' a w → Q .normal a w) : ∀ (fuel : Nat) {D shut : List Nat} {listed : Array Bool} {ρ : Ren} {A : AAct} {H : Heap} {a : Act} {w : World} {x : PItem} {rest : List PItem},
    x.stops = true → planGood ops (x :: rest) D shut = true → wpAny P h ops (x :: rest) A H k → Inv w0 ρ0 H0 ops D shut listed ρ A H a w → A.size = sz → listed.toList.count true + fuel = ops.size → wpAnyIn (Fr rC) n P .any ops Q fuel listed a w := by
  intro fuel
  induction fuel with
  | zero =>
    intro D shut listed ρ A H a w x rest hst hp hk iv hsz hc
    have hnil : Region.ready .any ops listed = [] := by
      have hall : ∀ b ∈ listed.toList, true = b := List.count_eq_length.1 (by have := iv.lsize; simp at hc ⊢; omega)
      refine List.eq_nil_iff_forall_not_mem.2 fun j hj => ?_
      obtain ⟨h0, o, hj, _⟩ := mem_ready.1 hj
      have hjlt : j < listed.size := by rw [iv.lsize]; exact (Array.getElem?_eq_some_iff.1 hj).1
      have := hall listed[j] (by simp)
      simp [Array.getD_eq_getD_getElem?, hjlt, ← this] at h0
    exact ⟨hnil, hQ _ _ _ _ (iv.doneK hst hp hk hnil).1 hsz (iv.doneK hst hp hk hnil).2⟩
  | succ fuel ih =>
    intro D shut listed ρ A H a w x rest hst hp hk iv hsz hc
    refine ⟨fun hnil => hQ _ _ _ _ (iv.doneK hst hp hk hnil).1 hsz (iv.doneK hst hp hk hnil).2, fun i hi => ?_⟩
    obtain ⟨h0, o, hi, hr⟩ := mem_ready.1 hi
    have hr := bAfter_ready.1 hr
    have hilt : i < listed.size := by rw [iv.lsize]; exact (Array.getElem?_eq_some_iff.1 hi).1
    have hun : listed.getD i false = false := by simpa [Array.getD_eq_getD_getElem?, hilt] using h0
    have hcount : (listed.setIfInBounds i true).toList.count true + fuel = ops.size := by
      have hg : listed.toList[i]'(by simpa using hilt) = false := by simpa [Array.getD_eq_getD_getElem?, hilt] using h0
      rw [Array.toList_setIfInBounds, List.count_set (by simpa using hilt), hg]
      simp
      simp at hc
      omega
    by_cases hD : i ∈ D
    · -- laid ahead
      have hagain : ∀ again : List Nat, (D.all (fun j => shut.contains j || again.contains j) = true) → ∀ j ∈ D, listed.getD j false = false → j ∈ again := by
        intro again hc j hj hu
        have := List.all_eq_true.1 hc j hj
        simp only [Bool.or_eq_true] at this
        rcases this with h | h
        · rw [iv.shutL j (by simpa using h)] at hu; cases hu
        · simpa using h
      have go : ∀ again, allK P ops A H again again → D.all (fun j => shut.contains j || again.contains j) = true → wpOpIn (Fr rC) n P ops Q i (wpAnyIn (Fr rC) n P .any ops Q fuel (listed.setIfInBounds i true)) a w := by
        intro again hall hcov
        have hmem := hagain again hcov
        obtain ⟨hall1, hall2⟩ := allK_out again hall
        refine iv.pending hf hi hD hun hr (hall1 i (hmem i hD hun)) ?_ (fun ρ' a' w' iv' => ih hst hp hk iv' hsz hcount)
        intro j' o' d d' b hj' hne hu' ho' hal' hal hd' hd hbk
        have e1 : laid ops A i = some b := by simp [laid, hi, hal, hd, hbk]
        have := distinct_two (f := laid ops A) hall2 (hmem i hD hun) (hmem j' hj' hu') (fun e => hne e.symm) e1
        simpa [laid, ho', hal', hd'] using this
      cases x with
      | minor _ => cases hst
      | major k' again =>
        simp only [planGood] at hp
        simp only [wpAny] at hk
        cases hk' : ops[k']? with
        | none => simp [hk'] at hp
        | some ok =>
          have hp' := hp
          simp only [hk', Bool.and_eq_true] at hp'
          exact go again hk.1 hp'.1.2
      | last again =>
        have hp' := hp
        simp only [planGood, Bool.and_eq_true] at hp'
        simp only [wpAny] at hk
        exact go again hk.1 hp'.2
    · cases x with
      | minor _ => cases hst
      | last again =>
        simp only [planGood, Bool.and_eq_true] at hp
        have := List.all_eq_true.1 hp.1 i (List.mem_range.2 (Array.getElem?_eq_some_iff.1 hi).1)
        exact absurd (by simpa using this) hD
      | major k' again =>
        simp only [planGood] at hp
        simp only [wpAny] at hk
        cases hk' : ops[k']? with
        | none => simp [hk'] at hp
        | some ok =>
          simp only [hk', Bool.and_eq_true, Bool.not_eq_true'] at hp hk
          obtain ⟨⟨⟨⟨⟨h1, h2⟩, h3⟩, h4⟩, h5⟩, h6⟩ := hp
          have hik : i = k' := by
            have := List.all_eq_true.1 h4 i (List.mem_range.2 (Array.getElem?_eq_some_iff.1 hi).1)
            simp only [hi, Option.map_some, Option.getD_some, Bool.or_eq_true, beq_iff_eq, Bool.not_eq_true'] at this
            rcases this with (e | e) | e
            · exact e
            · exact absurd (by simpa using e) hD
            · exfalso
              have : (bAfter o).all D.contains = true := List.all_eq_true.2 (fun p hp => by simpa using iv.sub p (hr p hp))
              rw [this] at e
              cases e
          subst hik
          rw [hi] at hk'
          cases hk'
          have hk2 := hk.2
          refine iv.turnK (k := fun A' H' => wpAny P h ops rest A' H' k) hh hf hi h1 hD hr ?_ (fun ρ' A' H' a' w' hk3 hs3 iv' => ?_)
          · cases hw : wantedA ops A o with
            | none => simp [hw] at hk2
            | some wb =>
              cases wb with
              | true => simp only [hw] at hk2; exact .inl ⟨rfl, hk2⟩
              | false => simp only [hw] at hk2; exact .inr ⟨rfl, hk2⟩
          · obtain ⟨x', rest', D', A2, H2, q1, q2, q3, q4, q5⟩ := run_minorsK hf rest h6 hk3 iv'
            exact ih q1 q2 q3 q4 (q5.trans (hs3.trans hsz)) hcount

theorem wpAny_sound (hh : HandlerOK P h) (hmix : P.follows .mixedOrders = true) (g : Gam w0 ρ H w) {rC : Option Nat} {id : Nat} {A : AAct} {a : Act} {k : AAct → Heap → Prop} {Q : Exit → Act → World → Prop} (n : Nat) (ra : ActR ρ A a)
    (hgood : regionGood ops = true) (hk : wpAny P h ops (plan ops) A H k) (K : ∀ ρ' A' H' a' w', k A' H' → A'.size = A.size → ActR ρ' A' a' → Gam w0 ρ' H' w' → Ext ρ ρ' H H' → Q .normal a' w') : (Code.region id ops true).wpIn (Fr rC) n P Q a w := by
  simp only [regionGood, Bool.and_eq_true] at hgood
  have iv : Inv w0 ρ H ops [] [] (Array.replicate ops.size false) ρ A H a { w with drawn := w.drawn + 1 } := by
    have hrep : ∀ j, (Array.replicate ops.size false).getD j false = false := by
      intro j
      simp only [Array.getD_eq_getD_getElem?, Array.getElem?_replicate]
      split <;> rfl
    exact ⟨gam_drew g, .refl _ _, g.gb, ra.size, ra.defers, fun t _ => ra.slot t, by simp, fun j hj => (by rw [hrep] at hj; cases hj), fun j o hj => (by cases hj), fun j o hj => (by rw [hrep] at hj; cases hj), trivial, fun j hj => (by cases hj), fun j o d b hj => (by cases hj)⟩
  obtain ⟨x, rest', D', A1, H1, q1, q2, q3, q4, q5⟩ := run_minorsK hgood.2 (plan ops) hgood.1 hk iv
  exact wpIn_region_any hmix (any_walkK hh hgood.2 (fun A' H' a w hk hs ⟨ρ', r1, r2, r3⟩ => K ρ' A' H' a w hk hs r1 r2 r3) ops.size q1 q2 q3 q4 q5 (by simp [List.count_replicate]))
end Go.Abs

/- What is kept at a loop stands for the whole. -/
namespace Go.Abs
open Go.RowKit
variable {P : Program} {ρ : Ren} {w0 : Start P} {w : World} {H : Heap}

theorem nodupB_spec : ∀ {l : List Nat}, nodupB l = true → l.Nodup
  | [], _ => List.nodup_nil
  | x :: l, h => by
    simp only [nodupB, Bool.and_eq_true, Bool.not_eq_true'] at h
    exact List.nodup_cons.2 ⟨by simpa using h.1, nodupB_spec h.2⟩

theorem Mu.find_mem : ∀ {μ : Mu} {i j : Nat}, μ.find i = some j → (i, j) ∈ μ
  | [], _, _, h => by cases h
  | (a, b) :: r, i, j, h => by
    unfold Mu.find at h
    split at h
    · rename_i e; cases h; subst e; exact List.mem_cons_self ..
    · exact List.mem_cons_of_mem _ (Mu.find_mem h)

/-- The renaming behind. -/
def Mu.ren (μ : Mu) (ρ : Ren) : Ren := fun j => match List.find? (fun p : Nat × Nat => p.2 == j) μ with | some p => ρ p.1 | none => none
theorem nodup_inj {α β : Type} {f : α → β} : ∀ {l : List α}, (l.map f).Nodup → ∀ {a b}, a ∈ l → b ∈ l → f a = f b → a = b
  | [], _, _, _, ha, _, _ => by cases ha
  | x :: l, h, a, b, ha, hb, e => by
    simp only [List.map_cons, List.nodup_cons, List.mem_map, not_exists, not_and] at h
    rcases List.mem_cons.1 ha with h1 | h1
    · rcases List.mem_cons.1 hb with h2 | h2
      · rw [h1, h2]
      · subst h1; exact absurd e.symm (h.1 b h2)
    · rcases List.mem_cons.1 hb with h2 | h2
      · subst h2; exact absurd e (h.1 a h1)
      · exact nodup_inj h.2 h1 h2 e
theorem Mu.ren_of {μ : Mu} (h2 : (μ.map (·.2)).Nodup) {i j : Nat} (h : (i, j) ∈ μ) : μ.ren ρ j = ρ i := by
  unfold Mu.ren
  cases hf : List.find? (fun p : Nat × Nat => p.2 == j) μ with
  | none =>
    have := List.find?_eq_none.1 hf (i, j) h
    simp at this
  | some p =>
    have hp := List.mem_of_find?_eq_some hf
    have he := List.find?_some hf
    simp only [beq_iff_eq] at he
    have : p = (i, j) := nodup_inj h2 hp h he
    rw [this]
theorem Mu.ren_some {μ : Mu} {j : Nat} {m : Meta} (h : μ.ren ρ j = some m) : ∃ i, (i, j) ∈ μ ∧ ρ i = some m := by
  unfold Mu.ren at h
  cases hf : List.find? (fun p : Nat × Nat => p.2 == j) μ with
  | none => rw [hf] at h; cases h
  | some p =>
    rw [hf] at h
    have hp := List.mem_of_find?_eq_some hf
    have he := List.find?_some hf
    simp only [beq_iff_eq] at he
    exact ⟨p.1, by rw [← he]; exact hp, h⟩

structure MuOK (μ : Mu) (nx : Nat) : Prop where
  fst : (μ.map (·.1)).Nodup
  snd : (μ.map (·.2)).Nodup
  cls : ∀ i j, (i, j) ∈ μ → (i < gbase ∧ j = i) ∨ (gbase ≤ i ∧ gbase ≤ j ∧ j < nx)
theorem gcGood_ok {μ : Mu} {b : Blocks} (h : gcGood μ b = true) : MuOK μ (heapOf b).next := by
  simp only [gcGood, Bool.and_eq_true] at h
  refine ⟨nodupB_spec h.1.1, nodupB_spec h.1.2, fun i j hij => ?_⟩
  have := List.all_eq_true.1 h.2 _ hij
  simp only at this
  split at this
  · rename_i hlt; exact .inl ⟨hlt, by simpa using this⟩
  · rename_i hge
    simp only [Bool.and_eq_true, decide_eq_true_eq] at this
    exact .inr ⟨by omega, this.1, this.2⟩

variable {μ : Mu} {nx : Nat}
theorem LR.map_left {ρ ρ2 : Ren} {f : Value → Value} (hf : ∀ v v', VR ρ v v' → VR ρ2 (f v) v') : ∀ {l l' : List Value}, LR ρ l l' → LR ρ2 (l.map f) l'
  | _, _, .nil => .nil
  | _, _, .cons h t => .cons (hf _ _ h) (LR.map_left hf t)

theorem mapV_VR (ok : MuOK μ nx) : ∀ (n : Nat) (v v' : Value), VR ρ v v' → VR (μ.ren ρ) (mapV μ n v) v'
  | 0, v, v', _ => .unknown _ _
  | n + 1, v, v', h => by
    have ih := mapV_VR ok n
    cases h with
    | bool b => exact .bool b
    | int k n => exact .int k n
    | float k n => exact .float k n
    | complex k n m => exact .complex k n m
    | string s => exact .string s
    | nilFunc => exact .nilFunc
    | nilIface => exact .nilIface
    | nilPtr => exact .nilPtr
    | nilSlice l c => exact .nilSlice l c
    | nilMap => exact .nilMap
    | unknown r v => unfold mapV; exact .unknown _ _
    | glob g k hg =>
      simp only [mapV]
      cases hm : μ.find g with
      | none => exact .unknown _ _
      | some j =>
        have hj : j = g := by
          rcases ok.cls _ _ (Mu.find_mem hm) with h | h
          · exact h.2
          · have := h.1; unfold gbase abase at *; omega
        subst hj
        exact .glob _ k hg
    | ptr i k m hm =>
      simp only [mapV]
      cases hf : μ.find i with
      | none => exact .unknown _ _
      | some j => exact .ptr j k m (by rw [Mu.ren_of ok.snd (Mu.find_mem hf)]; exact hm)
    | map i m hm =>
      simp only [mapV]
      cases hf : μ.find i with
      | none => exact .unknown _ _
      | some j => exact .map j m (by rw [Mu.ren_of ok.snd (Mu.find_mem hf)]; exact hm)
    | slice i k len cap m hm ho hl =>
      simp only [mapV]
      cases hf : μ.find i with
      | none => exact .unknown _ _
      | some j => exact .slice j k len cap m (by rw [Mu.ren_of ok.snd (Mu.find_mem hf)]; exact hm) ho hl
    | opened i k len cap capC m hm ho hc hs hl =>
      simp only [mapV]
      cases hf : μ.find i with
      | none => exact .unknown _ _
      | some j => exact .opened j k len cap capC m (by rw [Mu.ren_of ok.snd (Mu.find_mem hf)]; exact hm) ho hc hs hl
    | empty i k off m hm ho hz =>
      simp only [mapV]
      cases hf : μ.find i with
      | none => exact .unknown _ _
      | some j => exact .empty j k off m (by rw [Mu.ren_of ok.snd (Mu.find_mem hf)]; exact hm) ho hz
    | func f a b a' b' ha hb ra rb =>
      simp only [mapV]
      refine VR.func' ?_ ?_
      · simpa using LR.map_left ih (LR.of_arr ha ra)
      · simpa using LR.map_left ih (LR.of_arr hb rb)
    | yield l m hm =>
      simp only [mapV]
      cases hf : μ.find l with
      | none => exact .unknown _ _
      | some j => exact .yield j m (by rw [Mu.ren_of ok.snd (Mu.find_mem hf)]; exact hm)
    | iface t v v' hv => exact .iface t _ _ (ih _ _ hv)
    | agg a a' ha ra =>
      simp only [mapV]
      refine VR.agg' ?_
      simpa using LR.map_left ih (LR.of_arr ha ra)
    | tuple a a' ha ra =>
      simp only [mapV]
      refine VR.tuple' ?_
      simpa using LR.map_left ih (LR.of_arr ha ra)

theorem LR.plain_any {ρ ρ2 : Ren} : ∀ {l l' : List Value}, LR ρ l l' → (∀ v ∈ l, Abs.plain 8 v = true) → LR ρ2 l l'
  | _, _, .nil, _ => .nil
  | _, _, .cons h t, hp => by
    have h1 := hp _ (List.mem_cons_self ..)
    rw [Abs.plain_eq 8 _ _ h1 h]
    exact .cons (plain_refl _ 8 _ h1) (LR.plain_any t (fun v hv => hp v (List.mem_cons_of_mem _ hv)))
theorem ER.map_val {ρ ρ2 : Ren} {f : Value → Value} (hf : ∀ v v', VR ρ v v' → VR ρ2 (f v) v') : ∀ {l l' : List MapEntry}, ER ρ l l' → ER ρ2 (l.map fun e => { e with val := f e.val }) l'
  | _, _, .nil => .nil
  | _, _, .cons k kk v b t => .cons (by
      have := plain_eq 1 _ _ kk k
      rw [this]
      exact plain_refl _ 1 _ kk) kk (hf _ _ v) b (ER.map_val hf t)

theorem mapO_R (ok : MuOK μ nx) {m : Meta} {o o2 : AObj} (h : mapO μ o = some o2) (r : ObjR ρ w m o) : ObjR (μ.ren ρ) w m o2 ∧ o2.alive = o.alive := by
  cases o with
  | cells cs ty opn es =>
    simp only [mapO, Option.some.injEq] at h
    subst h
    obtain ⟨a, b, c, d, e, f, g, i⟩ := r
    exact ⟨⟨by simpa using a, b, c, d, e, f, g, by simpa using LR.map_left (mapV_VR ok 8) i⟩, rfl⟩
  | sym cs opn es =>
    simp only [mapO, Option.some.injEq] at h
    subst h
    obtain ⟨⟨a, b, c, d, e, z, f, g, i⟩, j⟩ := r
    exact ⟨⟨⟨a, b, c, d, e, z, f, g, i.plain_any (fun v hv => cellP_plain (j v hv))⟩, j⟩, rfl⟩
  | map es c =>
    simp only [mapO] at h
    split at h
    · simp only [Option.some.injEq] at h
      subst h
      obtain ⟨es', h1, h2⟩ := r
      exact ⟨⟨es', h1, ER.map_val (mapV_VR ok 8) h2⟩, rfl⟩
    · cases h
  | deferred => simp only [mapO, Option.some.injEq] at h; subst h; exact ⟨r, rfl⟩
  | taken => simp only [mapO, Option.some.injEq] at h; subst h; exact ⟨r, rfl⟩
  | yld _ _ => simp only [mapO, Option.some.injEq] at h; subst h; exact ⟨r, rfl⟩
  | dead _ _ _ => cases h
  | loop _ => cases h
  | siter _ _ => cases h

theorem foldl_tree {α : Type} (l : List (Nat × α)) : ∀ (t : Tree α) (m : Nat), (l.foldl (fun t (p : Nat × α) => t.set (p.1 + 1) p.1 p.2) t).get m = t.get m ∨ ∃ p ∈ l, p.1 = m ∧ (l.foldl (fun t (p : Nat × α) => t.set (p.1 + 1) p.1 p.2) t).get m = some p.2 := by
  induction l with
  | nil => intro t m; exact .inl rfl
  | cons p l ih =>
    intro t m
    simp only [List.foldl_cons]
    rcases ih (t.set (p.1 + 1) p.1 p.2) m with h | ⟨q, hq, h1, h2⟩
    · rw [h, Tree.get_set _ _ _ _ _ (by omega)]
      by_cases e : m = p.1
      · right; exact ⟨p, List.mem_cons_self .., e.symm, by rw [if_pos e]⟩
      · left; rw [if_neg e]
    · right; exact ⟨q, List.mem_cons_of_mem _ hq, h1, h2⟩
theorem foldlS_tree (l : Slots) : ∀ (t : Tree Value) (m : Nat), (l.foldl (fun t (p : Tmp × Value) => if p.1 < dbase then t.set (p.1 + 1) p.1 p.2 else t) t).get m = t.get m ∨ ∃ p ∈ l, p.1 < dbase ∧ p.1 = m ∧ (l.foldl (fun t (p : Tmp × Value) => if p.1 < dbase then t.set (p.1 + 1) p.1 p.2 else t) t).get m = some p.2 := by
  induction l with
  | nil => intro t m; exact .inl rfl
  | cons p l ih =>
    intro t m
    simp only [List.foldl_cons]
    rcases ih (if p.1 < dbase then t.set (p.1 + 1) p.1 p.2 else t) m with h | ⟨q, hq, h0, h1, h2⟩
    · rw [h]
      split
      · rename_i hd
        rw [Tree.get_set _ _ _ _ _ (by omega)]
        by_cases e : m = p.1
        · right; exact ⟨p, List.mem_cons_self .., hd, e.symm, by rw [if_pos e]⟩
        · left; rw [if_neg e]
      · exact .inl rfl
    · right; exact ⟨q, List.mem_cons_of_mem _ hq, h0, h1, h2⟩
/-- The marks that are kept. -/
theorem defOf_gcS {μ : Mu} {keep : List Tmp} {A : AAct} (h : gcDef μ keep A = true) : defOf (gcS μ keep A) = A.defers.map fun D => (μ.find D).getD 0 := by
  simp only [gcDef, Bool.and_eq_true] at h
  obtain ⟨h1, h2⟩ := h
  unfold defOf gcS
  rw [List.filterMap_append]
  have e1 : (keep.map fun k => (k, mapV μ 8 (A.slot k))).filterMap markOf = [] := by
    rw [List.filterMap_eq_nil_iff]
    intro p hp
    obtain ⟨k, hk, rfl⟩ := List.mem_map.1 hp
    have := List.all_eq_true.1 h1 k hk
    simp only [decide_eq_true_eq] at this
    simp [markOf, this]
  rw [e1, List.nil_append]
  clear e1 h1
  generalize A.defers = ds at h2
  induction ds with
  | nil => rfl
  | cons D r ih =>
    simp only [List.all_cons, Bool.and_eq_true] at h2
    obtain ⟨j, hj⟩ := Option.isSome_iff_exists.1 h2.1
    simp only [List.map_cons, List.filterMap_cons]
    rw [ih h2.2]
    simp [markOf, mapV, hj, dbase]
theorem heapOf_get {b : Blocks} {i : Nat} {o : AObj} (h : (heapOf b).get i = some o) : (i, o) ∈ b := by
  unfold heapOf Heap.get at h
  simp only at h
  rcases foldl_tree b .leaf i with h1 | ⟨p, hp, h1, h2⟩
  · rw [h] at h1; cases h1
  · rw [h] at h2; cases h2; rw [← h1]; exact hp
theorem gcB_mem {ν : Mu} : ∀ {μ : Mu} {j : Nat} {o : AObj}, (j, o) ∈ gcB H ν μ → ∃ i o', (i, j) ∈ μ ∧ H.get i = some o' ∧ mapO ν o' = some o
  | [], _, _, h => by cases h
  | p :: r, j, o, h => by
    unfold gcB at h
    split at h
    · rename_i o1 ho
      rcases List.mem_cons.1 h with e | h
      · simp only [Prod.mk.injEq] at e
        obtain ⟨rfl, rfl⟩ := e
        obtain ⟨o', h1, h2⟩ := Option.bind_eq_some_iff.1 ho
        exact ⟨p.1, o', List.mem_cons_self .., h1, h2⟩
      · obtain ⟨i, o', h1, h2, h3⟩ := gcB_mem h
        exact ⟨i, o', List.mem_cons_of_mem _ h1, h2, h3⟩
    · obtain ⟨i, o', h1, h2, h3⟩ := gcB_mem h
      exact ⟨i, o', List.mem_cons_of_mem _ h1, h2, h3⟩

theorem blank_get (sz m : Nat) : (blank sz).get m = if m < sz then some unknown else none := by
  unfold blank
  induction sz with
  | zero => rfl
  | succ k ih =>
    rw [List.range_succ, List.foldl_append]
    simp only [List.foldl_cons, List.foldl_nil]
    rw [Tree.get_set _ _ _ _ _ (by omega), ih]
    by_cases e : m = k
    · subst e; simp
    · rw [if_neg e]
      by_cases h : m < k
      · rw [if_pos h, if_pos (by omega)]
      · rw [if_neg h, if_neg (by omega)]

theorem gc_sub (g : Gam w0 ρ H w) {A : AAct} {a : Act} (ra : ActR ρ A a) {keep : List Tmp} (hgood' : gcAll μ keep A (gcB H μ μ) = true) :
    Gam w0 (μ.ren ρ) (heapOf (gcB H μ μ)) w ∧ ActR (μ.ren ρ) (actOf A.size (gcS μ keep A)) a := by
  simp only [gcAll, Bool.and_eq_true] at hgood'
  obtain ⟨hgood, hdef⟩ := hgood'
  have ok := gcGood_ok hgood
  have hgb : gbase ≤ (heapOf (gcB H μ μ)).next := Nat.le_add_right _ _
  -- a block that is kept
  have hget : ∀ {j : Nat} {o : AObj}, (heapOf (gcB H μ μ)).get j = some o → ∃ i o', (i, j) ∈ μ ∧ H.get i = some o' ∧ mapO μ o' = some o := fun h => gcB_mem (heapOf_get h)
  have hget' := @hget
  have hsnd : ∀ {i i' j : Nat}, (i, j) ∈ μ → (i', j) ∈ μ → i = i' := fun h1 h2 => by have := nodup_inj ok.snd h1 h2 rfl; cases this; rfl
  have hfst : ∀ {i j j' : Nat}, (i, j) ∈ μ → (i, j') ∈ μ → j = j' := fun h1 h2 => by have := nodup_inj ok.fst h1 h2 rfl; cases this; rfl
  have hgt : ∀ {i j : Nat}, (i, j) ∈ μ → gbase ≤ j → gbase ≤ i := fun {i j} h hj => by rcases ok.cls _ _ h with h | h <;> omega
  have hlt : ∀ {i j : Nat}, (i, j) ∈ μ → j < gbase → i < gbase ∧ j = i := fun {i j} h hj => by rcases ok.cls _ _ h with h | h <;> omega
  have obj : ∀ i m o, μ.ren ρ i = some m → (heapOf (gcB H μ μ)).get i = some o → ObjR (μ.ren ρ) w m o ∧ ∃ i0 o0, (i0, i) ∈ μ ∧ ρ i0 = some m ∧ H.get i0 = some o0 ∧ o.alive = o0.alive := by
    intro i m o hm ho
    obtain ⟨i0, hi0, hr0⟩ := Mu.ren_some hm
    obtain ⟨i1, o1, hi1, hg1, hmo⟩ := hget ho
    obtain rfl := hsnd hi0 hi1
    obtain ⟨r1, r2⟩ := mapO_R ok hmo (g.obj _ m _ hr0 hg1)
    exact ⟨r1, i0, o1, hi0, hr0, hg1, r2⟩
  have hmb : ∀ {i j : Nat}, (i, j) ∈ μ → mbase ≤ j → mbase ≤ i := fun {i j} h hj => by
    rcases ok.cls _ _ h with h | h
    · omega
    · exact mb_of h.1
  refine ⟨⟨hgb, ?_, g.below, ?_, ?_, ?_, fun i m o hm ho => (obj i m o hm ho).1, ?_, ?_, g.vars, g.itok, ?_⟩, ra.size, ?_, ?_⟩
  · intro i hi
    cases hr : μ.ren ρ i with
    | none => rfl
    | some m =>
      obtain ⟨i0, hi0, _⟩ := Mu.ren_some hr
      rcases ok.cls _ _ hi0 with h | h <;> omega
  · intro j m hm
    obtain ⟨i, hi, hr⟩ := Mu.ren_some hm
    obtain ⟨h1, h2⟩ := g.own i m hr
    exact ⟨h1, fun hj => h2 (hgt hi hj)⟩
  · intro j m hm hj
    obtain ⟨i, hi, hr⟩ := Mu.ren_some hm
    have := hlt hi (by unfold gbase abase at *; omega)
    rw [this.2]
    exact g.glob i m hr (by omega)
  · rintro i j mi mj hgi ⟨oi, gi, ai⟩ ⟨oj, gj, aj⟩ ei ej hb
    obtain ⟨_, i0, oi0, hi0, ri0, gi0, hai⟩ := obj i mi oi ei gi
    obtain ⟨_, j0, oj0, hj0, rj0, gj0, haj⟩ := obj j mj oj ej gj
    have := g.inj i0 j0 mi mj (hmb hi0 hgi) ⟨oi0, gi0, by rw [← hai]; exact ai⟩ ⟨oj0, gj0, by rw [← haj]; exact aj⟩ ri0 rj0 hb
    subst this
    exact hfst hi0 hj0
  · intro j hj hn
    cases ho : (heapOf (gcB H μ μ)).get j with
    | none => exact absurd ho hn
    | some o =>
      obtain ⟨i, o', hi, hg, _⟩ := hget ho
      have := hlt hi (by unfold gbase abase at *; omega)
      obtain ⟨m, hm⟩ := g.gmap i (by omega) (by rw [hg]; simp)
      exact ⟨m, by rw [Mu.ren_of ok.snd hi]; exact hm⟩
  · intro j m ha hj hm
    obtain ⟨i, hi, hr⟩ := Mu.ren_some hm
    have := hlt hi hj
    rw [this.2]
    exact g.pins i m (by omega) this.1 hr
  · intro own rest hget
    obtain ⟨i, o', hi, hg, hmo⟩ := hget' hget
    have hiy := hlt hi (by decide)
    obtain rfl : i = ynum := hiy.2.symm
    have ho' : o' = .yld own rest := by
      cases o' <;> simp only [mapO] at hmo <;> first
        | cases hmo
        | skip
      · split at hmo <;> cases hmo
      · rfl
    subst ho'
    obtain ⟨m, F, h1, h2, h3⟩ := g.yld own rest hg
    refine ⟨m, F, by rw [Mu.ren_of ok.snd hi]; exact h1, h2, fun j n hj hl hne hF => ?_⟩
    obtain ⟨oj, gj, aj⟩ := hl
    obtain ⟨_, j0, oj0, hj0, rj0, gj0, haj⟩ := obj j n oj hj gj
    exact h3 j0 n rj0 ⟨oj0, gj0, by rw [← haj]; exact aj⟩ (fun e => by subst e; exact hne (hfst hj0 hi)) hF
  · intro t
    unfold AAct.slot actOf
    simp only
    rcases foldlS_tree (gcS μ keep A) (blank A.size) t with h | ⟨p, hp, h0, h1, h2⟩
    · rw [h, blank_get]
      by_cases ht : t < A.size
      · rw [if_pos ht]; exact .unknown _ _
      · rw [if_neg ht]
        have : a.tmps.getD t undef = undef := by
          rw [Array.getD_eq_getD_getElem?, Array.getElem?_eq_none (by rw [ra.size]; exact Nat.le_of_not_lt ht)]
          rfl
        rw [this]
        exact VR.undef _
    · rw [h2]
      unfold gcS at hp
      rcases List.mem_append.1 hp with hp | hp
      · obtain ⟨k, _, rfl⟩ := List.mem_map.1 hp
        simp only at h1
        subst h1
        exact mapV_VR ok 8 _ _ (ra.slot k)
      · obtain ⟨D, _, rfl⟩ := List.mem_map.1 hp
        exact absurd h0 (Nat.lt_irrefl _)
  · have hde : (actOf A.size (gcS μ keep A)).defers = A.defers.map fun D => (μ.find D).getD 0 := defOf_gcS hdef
    rw [hde]
    refine ⟨by rw [List.length_map]; exact ra.defers.1, fun j D' h => ?_⟩
    rw [List.getElem?_map] at h
    obtain ⟨D, hD, rfl⟩ := Option.map_eq_some_iff.1 h
    obtain ⟨m, h1, h2⟩ := ra.defers.2 j D hD
    simp only [gcDef, Bool.and_eq_true] at hdef
    obtain ⟨q, hq⟩ := Option.isSome_iff_exists.1 (List.all_eq_true.1 hdef.2 D (List.mem_of_getElem? hD))
    exact ⟨m, by rw [hq]; simp only [Option.getD_some]; rw [Mu.ren_of ok.snd (Mu.find_mem hq)]; exact h1, h2⟩
end Go.Abs

/- Code, calls: what is left to show is enough. -/
namespace Go.Abs
open Go.RowKit
variable {P : Program} {ρ : Ren} {w0 : Start P} {w : World} {H : Heap} {h : Handler} {L : AtLoop}

abbrev Cont := Exit → AAct → Heap → Prop
def Post (w0 : Start P) (ρ : Ren) (H : Heap) (b : Bool) (sz : Nat) (K : Cont) : Exit → Act → World → Prop := fun e a' w' =>
  ∃ A' H' ρ', K e A' H' ∧ A'.size = sz ∧ ActR ρ' A' a' ∧ Gam w0 ρ' H' w' ∧ (b = true → Ext ρ ρ' H H')
/-- A piece of code leads to what is said. -/
def HoldsR (P : Program) (rC : Option Nat) (b : Bool) (sz : Nat) (c : Code) (A : AAct) (H : Heap) (K : Cont) : Prop :=
  ∀ (w0 : Start P) (ρ : Ren) (w : World) (a : Act) (n : Nat), Gam w0 ρ H w → ActR ρ A a → A.size = sz → c.wpIn (Fr rC) n P (Post w0 ρ H b sz K) a w
abbrev Holds (P : Program) := HoldsR P none
theorem Post.back {ρ' : Ren} {H' : Heap} {b : Bool} {sz : Nat} {K : Cont} {e : Exit} {a : Act} (ext : b = true → Ext ρ ρ' H H') (p : Post w0 ρ' H' b sz K e a w) : Post w0 ρ H b sz K e a w := by
  obtain ⟨A1, H1, ρ1, h1, h2, h3, h4, h5⟩ := p
  exact ⟨A1, H1, ρ1, h1, h2, h3, h4, fun hb => (ext hb).trans (h5 hb)⟩
theorem Post.mono {b : Bool} {sz : Nat} {K K' : Cont} {e : Exit} {a : Act} (p : Post w0 ρ H b sz K e a w) (hk : ∀ A H, K e A H → K' e A H) : Post w0 ρ H b sz K' e a w := by
  obtain ⟨A1, H1, ρ1, h1, h2, h3, h4, h5⟩ := p
  exact ⟨A1, H1, ρ1, hk _ _ h1, h2, h3, h4, h5⟩

/-- The loops of a piece of code, met at their heads, lead on. -/
def loopsOK (P : Program) (h : Handler) (L : AtLoop) (sz : Nat) : Code → Lv → Cont → Prop
  | .seq x y, l, k => loopsOK P h L sz x { l with normal := liveIn y l } (seqK (fun A' H' => wpT P h L 0 y l A' H' k) k) ∧ loopsOK P h L sz y l k
  | .cond _ x y, l, k => loopsOK P h L sz x l k ∧ loopsOK P h L sz y l k
  | .block i b, l, k => if isLoop b then i < rbase → ∀ s bl, L i s bl → Holds P false sz (.block i b) (actOf sz s) (heapOf bl) k else loopsOK P h L sz b { l with exits := (i, l.normal) :: l.exits } (blockK i k)
  | .rangeFunc f ps x y, _, k => ∀ s bl, L (rngId x y) s bl → Holds P false sz (.rangeFunc f ps x y) (actOf sz s) (heapOf bl) k
  | _, _, _ => True

theorem wpT_soundR (hh : HandlerOK P h) (hmix : P.follows .mixedOrders = true) {u : Nat} {b : Bool} (hb : u = 0 → b = false) {rC : Option Nat} (hrc : u = 0 → rC = none) {sz : Nat} : ∀ (c : Code) {l : Lv} {A : AAct} {H : Heap} {K : Cont}, wpT P h L u c l A H K → (u = 0 → loopsOK P h L sz c l K) → HoldsR P rC b sz c A H K := by
  intro c
  induction c with
  | skip =>
    intro l A H K hk _ w0 ρ w a n g ra hs
    exact wpIn_skip ⟨A, H, ρ, hk, hs, ra, g, fun _ => .refl _ _⟩
  | region id ops draw =>
    intro l A H K hk _ w0 ρ w a n g ra hs
    cases draw with
    | false => exact wpIn_region (wpOps_sound hh _ g ra hk (fun ρ' A' H' a' w' q1 q2 q3 q4 q5 => ⟨A', H', ρ', q1, q2.trans hs, q3, q4, fun _ => q5⟩))
    | true =>
      simp only [wpT] at hk
      split at hk
      · rename_i hgood
        exact wpAny_sound hh hmix g n ra hgood hk (fun ρ' A' H' a' w' q1 q2 q3 q4 q5 => ⟨A', H', ρ', q1, q2.trans hs, q3, q4, fun _ => q5⟩)
      · cases hk
  | seq x y ihx ihy =>
    intro l A H K hk hl w0 ρ w a n g ra hs
    simp only [wpT] at hk
    refine wpIn_seq (wpIn_mono (ihx hk (fun hu => by subst hu; exact (hl rfl).1) w0 ρ w a n g ra hs) ?_)
    rintro e a1 w1 ⟨A1, H1, ρ1, k1, s1, ra1, g1, ext1⟩
    cases e with
    | normal => exact wpIn_mono (ihy k1 (fun hu => (hl hu).2) w0 ρ1 w1 a1 n g1 ra1 s1) (fun e a w p => p.back ext1)
    | _ => exact ⟨A1, H1, ρ1, k1, s1, ra1, g1, ext1⟩
  | cond c x y ihx ihy =>
    intro l A H K hk hl w0 ρ w a n g ra hs
    simp only [wpT] at hk
    have hc := ra.eval c
    split at hk
    · rename_i ec
      rw [ec] at hc
      exact wpIn_cond_true hc.bool_inv (ihx hk (fun hu => (hl hu).1) w0 ρ w a n g ra hs)
    · rename_i ec
      rw [ec] at hc
      exact wpIn_cond_false hc.bool_inv (ihy hk (fun hu => (hl hu).2) w0 ρ w a n g ra hs)
    · cases hk
  | block id body ih =>
    intro l A H K hk hl w0 ρ w a n g ra hs
    simp only [wpT] at hk
    split at hk
    · rename_i hc
      obtain ⟨hu, hlp⟩ := hc
      have hlo := hl hu
      obtain rfl := hrc hu
      simp only [loopsOK, hlp, if_true] at hlo
      obtain ⟨hgood', hk⟩ := bcase_out hk
      simp only [Bool.and_eq_true, decide_eq_true_eq] at hgood'
      obtain ⟨hid, hgood⟩ := hgood'
      obtain ⟨g2, ra2⟩ := gc_sub g ra (keep := _) hgood
      have := hlo hid _ _ hk w0 _ w a n g2 (hs ▸ ra2) rfl
      refine wpIn_mono this ?_
      rintro e a' w' ⟨A1, H1, ρ1, k1, s1, ra1, g1, ext1⟩
      exact ⟨A1, H1, ρ1, k1, s1, ra1, g1, fun hb' => by rw [hb hu] at hb'; cases hb'⟩
    · rename_i hc
      have hnl : u = 0 → isLoop body = false := fun hu => by
        cases hlp : isLoop body with
        | false => rfl
        | true => exact absurd ⟨hu, hlp⟩ hc
      have hk2 := ih hk (fun hu => by
        have := hl hu
        simp only [loopsOK, hnl hu, Bool.false_eq_true, if_false] at this
        exact this) w0 ρ w a n g ra hs
      refine wpIn_block (wpIn_mono hk2 ?_)
      rintro e a1 w1 ⟨A1, H1, ρ1, k1, s1, ra1, g1, ext1⟩
      cases e with
      | exit id' =>
        simp only [blockK] at k1
        by_cases hid : id' = id
        · simp only [hid, if_true] at k1
          simp only [Exit.inBlock, hid, if_true]
          exact ⟨A1, H1, ρ1, k1, s1, ra1, g1, ext1⟩
        · simp only [hid, if_false] at k1
          simp only [Exit.inBlock, hid, if_false]
          exact ⟨A1, H1, ρ1, k1, s1, ra1, g1, ext1⟩
      | _ => exact ⟨A1, H1, ρ1, k1, s1, ra1, g1, ext1⟩
  | loop body ih =>
    intro l A H K hk hl w0 ρ w a n g ra hs
    simp only [wpT] at hk
    have hu : u ≠ 0 := fun hu => by rw [hu] at hk; exact hk
    have key : ∀ (m : Nat) (A : AAct) (H : Heap) (ρ : Ren) (w : World) (a : Act), wpLoop (fun A H k => wpT P h L u body l A H k) m A H K → Gam w0 ρ H w → ActR ρ A a → A.size = sz →
        body.wpIn (Fr rC) n P (Exit.then (LoopIn body (Fr rC) n P (Post w0 ρ H b sz K)) (Post w0 ρ H b sz K)) a w := by
      intro m
      induction m with
      | zero => intro A H ρ w a hk; exact hk.elim
      | succ m ihm =>
        intro A H ρ w a hk g ra hs
        simp only [wpLoop] at hk
        refine wpIn_mono (ih hk (fun h0 => absurd h0 hu) w0 ρ w a n g ra hs) ?_
        rintro e a1 w1 ⟨A1, H1, ρ1, k1, s1, ra1, g1, ext1⟩
        cases e with
        | normal => exact loopIn_mono (loopIn_once (ihm A1 H1 ρ1 w1 a1 k1 g1 ra1 s1)) (fun e a w p => p.back ext1)
        | _ => exact ⟨A1, H1, ρ1, k1, s1, ra1, g1, ext1⟩
    exact wpIn_loop_once (key _ A H ρ w a hk g ra hs)
  | exit id =>
    intro l A H K hk _ w0 ρ w a n g ra hs
    exact wpIn_exit ⟨A, H, ρ, hk, hs, ra, g, fun _ => .refl _ _⟩
  | ret =>
    intro l A H K hk _ w0 ρ w a n g ra hs
    exact wpIn_ret ⟨A, H, ρ, hk, hs, ra, g, fun _ => .refl _ _⟩
  | rangeFunc f ps x y _ _ =>
    intro l A H K hk hl w0 ρ w a n g ra hs
    simp only [wpT] at hk
    split at hk
    · rename_i hu
      have hlo := hl hu
      obtain rfl := hrc hu
      simp only [loopsOK] at hlo
      obtain ⟨hgood, hk⟩ := bcase_out hk
      obtain ⟨g2, ra2⟩ := gc_sub g ra (keep := _) hgood
      have := hlo _ _ hk w0 _ w a n g2 (hs ▸ ra2) rfl
      refine wpIn_mono this ?_
      rintro e a' w' ⟨A1, H1, ρ1, k1, s1, ra1, g1, ext1⟩
      exact ⟨A1, H1, ρ1, k1, s1, ra1, g1, fun hb' => by rw [hb hu] at hb'; cases hb'⟩
    · cases hk
  | label l => intro l A H K hk; exact hk.elim
  | goto l => intro l A H K hk; exact hk.elim
  | scope body _ => intro l A H K hk; exact hk.elim
  | refuse why => intro l A H K hk; exact hk.elim

theorem wpT_sound (hh : HandlerOK P h) (hmix : P.follows .mixedOrders = true) {u : Nat} {b : Bool} (hb : u = 0 → b = false) {sz : Nat} (c : Code) {l : Lv} {A : AAct} {H : Heap} {K : Cont} (hk : wpT P h L u c l A H K) (hl : u = 0 → loopsOK P h L sz c l K) : Holds P b sz c A H K :=
  wpT_soundR hh hmix hb (fun _ => rfl) c hk hl
/-- A call whose body has been walked. -/
theorem wpFn_run (hh : HandlerOK P h) (hmix : P.follows .mixedOrders = true) {u : Nat} {b : Bool} (hb : u = 0 → b = false) {f : FuncId} {fn : Func} {c : Code} (hf : P.funcs[f]? = some fn) (hc : fn.body = some c) {args : Array Value} {k : Value → Heap → Prop}
    (hk : wpFn P h L u f args H k) (hl : u = 0 → loopsOK P h L (max args.size fn.ntmps) c (fnLv fn) (fnK P fn k))
    (g : Gam w0 ρ H w) {args' : Array Value} (n : Nat) (ha : LR ρ args.toList args'.toList) :
    CallsIn Fence.wide n P f args' w fun e w' => ∃ v H' ρ' v', k v H' ∧ e = .returned v' ∧ VR ρ' v v' ∧ Gam w0 ρ' H' w' ∧ (b = true → Ext ρ ρ' H H') := by
  unfold wpFn at hk
  simp only [hf, hc] at hk
  refine callsIn_of_wp_marks hf hc trivial ?_
  refine wpIn_mono (wpT_sound hh hmix hb c hk hl w0 ρ w _ n g (initial_act ha fn.ntmps) rfl) ?_
  rintro e a1 w1 ⟨A1, H1, ρ1, k1, s1, ra1, g1, ext1⟩
  have fin : ∀ {v : Value} {H2 : Heap}, takeA A1.defers H1 = some H2 → resultsA P H2 fn A1 = some v → k v H2 → LeavesInM Fence.wide n P fn a1.tmps (fun e w' => ∃ v H' ρ' v', k v H' ∧ e = .returned v' ∧ VR ρ' v v' ∧ Gam w0 ρ' H' w' ∧ (b = true → Ext ρ ρ' H H')) a1.defers .returning w1 := by
    intro v H2 hd hr hkv
    have hdd := ra1.defers
    refine leaves_R (P := P) (ρ := ρ1) (w0 := w0) A1.defers a1.defers hd g1 hdd (fun w2 g2 ext2 => ?_)
    obtain ⟨v', hv, hrun⟩ := resultsA_sound g2 ra1 hr
    exact ⟨v', hrun, v, H2, ρ1, v', hkv, rfl, hv, g2, fun hb => (ext1 hb).trans ext2⟩
  cases e with
  | normal =>
    simp only [fnK] at k1
    split at k1
    · rename_i hd
      split at k1
      · rename_i v hr; exact fin hd hr k1
      · cases k1
    · cases k1
  | ret =>
    simp only [fnK] at k1
    split at k1
    · rename_i hd
      split at k1
      · rename_i v hr; exact fin hd hr k1
      · cases k1
    · cases k1
  | _ => exact k1.elim

theorem wpFn_call (hh : HandlerOK P h) (hmix : P.follows .mixedOrders = true) {u : Nat} (hu : u ≠ 0) {f : FuncId} {args : Array Value} {k : Value → Heap → Prop} (hk : wpFn P h L u f args H k) : CallH P f args H k := by
  intro w0 ρ w args' n g ha
  have hk' := hk
  unfold wpFn at hk'
  cases hf : P.funcs[f]? with
  | none => simp [hf] at hk'
  | some fn =>
    cases hc : fn.body with
    | none => simp [hf, hc] at hk'
    | some c =>
      refine (wpFn_run hh hmix (b := true) (fun h0 => absurd h0 hu) hf hc hk (fun h0 => absurd h0 hu) g n ha).mono ?_
      rintro e w' ⟨v, H', ρ', v', q1, q2, q3, q4, q5⟩
      exact ⟨v, H', ρ', v', q1, q2, q3, q4, q5 rfl⟩
end Go.Abs

/- Contracts: what a function does, in data. -/
namespace Go.Abs
open Go.RowKit
variable {P : Program} {ρ : Ren} {w0 : Start P} {w : World} {H : Heap}

/-! ### Data in the machine's memory -/
mutual
/-- A value that a call gives back reads as data; its slices lie in new blocks, none shared. -/
inductive Gives (w w' : World) : List Nat → D → Value → List Nat → Prop
  | val (u : List Nat) (v : Value) (h : plain 8 v = true) : Gives w w' u (.val v) v u
  | agg (u u' : List Nat) (ds : List D) (vs : List Value) (h : GivesL w w' u ds vs u') : Gives w w' u (.agg ds) (.agg vs.toArray) u'
  | nil (u : List Nat) : Gives w w' u .nil (.slice none 0 0) u
  | sl (u : List Nat) (n es : Nat) (cs : List Value) (b o cap : Nat) (c : Array Value) (ty : TypeId) (hb : w'.heap[b]? = some (.cells c ty (0, 0))) (hw : w.heap.size ≤ b) (hu : b ∉ u) (hs : o + cap * es ≤ c.size) (hcap : n ≤ cap)
      (hc : (c.toList.drop o).take cs.length = cs) (hn : cs.length = n * es) (hp : ∀ v ∈ cs, cellP v = true) : Gives w w' u (.sl n es cs) (.slice (some ⟨b, o, none⟩) n cap) (b :: u)
inductive GivesL (w w' : World) : List Nat → List D → List Value → List Nat → Prop
  | nil (u : List Nat) : GivesL w w' u [] [] u
  | cons {u u' u'' : List Nat} {d : D} {v : Value} {ds : List D} {vs : List Value} (h : Gives w w' u d v u') (t : GivesL w w' u' ds vs u'') : GivesL w w' u (d :: ds) (v :: vs) u''
end
/-- A CONTRACT: handed values that read as ds, the function gives back values that read as rs, and changes nothing that was there. -/
def Con (P : Program) (f : FuncId) (ds rs : List D) : Prop :=
  ∀ (w : World) (args : Array Value), GoodW P w → ReadsL w ds args.toList → Calls P f args w fun e w' => (∃ vs u, e = .returned (tupleOf vs) ∧ GivesL w w' [] rs vs u) ∧ Below w.heap.size w w'

end Go.Abs

/- Contracts: what a call gives back is laid in the caller's heap; what a function is handed, and gives. -/
namespace Go.Abs
open Go.RowKit
variable {P : Program} {ρ : Ren} {w0 : Start P} {w : World} {H : Heap}

/-- The world has grown. -/
theorem Gam.grow (g : Gam w0 ρ H w) {w' : World} (hb : Below w.heap.size w w') : Gam w0 ρ H w' :=
  ⟨g.gb, g.fresh, g.below.of_below hb, fun i m hm => ⟨Nat.lt_of_lt_of_le (g.own i m hm).1 hb.size, (g.own i m hm).2⟩, g.glob, g.inj,
    fun i m o hm ho => (g.obj i m o hm ho).mono ρ.le_refl (fun _ => hb.block _ (g.own i m hm).1), g.gmap, g.pins, g.vars, g.itok,
    g.yld_step (fun _ _ h => h) (fun _ h => h) hb.os hb.tape hb.output hb.size (fun k hk => .inl (hb.block k hk)) (fun j n hj hl hne => .inl ⟨j, n, hj, hl, hne, rfl⟩)⟩
/-- Where the rounds stand: what they change lies below N. -/
def YldB (w0 : Start P) (ρ : Ren) (H : Heap) (w : World) (N : Nat) : Prop :=
  ∀ own rest, H.get ynum = some (.yld own rest) → ∃ m F, ρ ynum = some m ∧ w0.it own rest F m.b w ∧ (∀ j n, ρ j = some n → H.live j → j ≠ ynum → ¬ F n.b) ∧ ∀ k, F k → k < N
theorem Gam.growB (g : Gam w0 ρ H w) {w' : World} (hb : Below w.heap.size w w') : YldB w0 ρ H w' w.heap.size := by
  intro own rest h
  obtain ⟨m, F, h1, h2, h3⟩ := g.yld own rest h
  exact ⟨m, F, h1, g.itok.stable h2 hb.os hb.tape hb.output hb.size (fun k hk _ => hb.block k hk), h3, g.itok.bound h2⟩
theorem YldB.toR {N : Nat} (h : YldB w0 ρ H w N) : YldR w0 ρ H w := fun own rest hg => let ⟨m, F, h1, h2, h3, _⟩ := h own rest hg; ⟨m, F, h1, h2, h3⟩
theorem YldB.adopt {N : Nat} (h : YldB w0 ρ H w N) (hgb : gbase ≤ H.next) {x : AObj} {m : Meta} (hN : N ≤ m.b) : YldB w0 (ρ.put H.next m) (H.new x) w N := by
  intro own rest hg
  have hyn : ynum ≠ H.next := by unfold gbase at hgb; unfold ynum; omega
  obtain ⟨m', F, h1, h2, h3, h4⟩ := h own rest (by rwa [Heap.get_new, if_neg hyn] at hg)
  refine ⟨m', F, by simp [Ren.put, hyn, h1], h2, fun j n hj hl hne hF => ?_, h4⟩
  simp only [Ren.put] at hj
  split at hj
  · cases hj; have := h4 _ hF; omega
  · rename_i hjn
    obtain ⟨o, ho, ha⟩ := hl
    exact h3 j n hj ⟨o, by rwa [Heap.get_new, if_neg hjn] at ho, ha⟩ hne hF

/-- A block of the world is taken in. -/
theorem Gam.adopt (g : Gam w0 ρ H w) (x : AObj) (m : Meta) (hlt : m.b < w.heap.size) (hge : w0.w.heap.size ≤ m.b) (hf : ∀ i n, ρ i = some n → n.b ≠ m.b) (hr : ObjR (ρ.put H.next m) w m x) {N : Nat} (hyb : YldB w0 ρ H w N) (hN : N ≤ m.b) :
    Gam w0 (ρ.put H.next m) (H.new x) w ∧ Ext ρ (ρ.put H.next m) H (H.new x) := by
  have hle := g.le_put m
  refine ⟨⟨Nat.le_trans g.gb (by simp), ?_, g.below, ?_, ?_, ?_, ?_, ?_, ?_, g.vars, g.itok, (hyb.adopt g.gb hN).toR⟩, ⟨hle, by simp, ?_⟩⟩
  · intro i hi
    simp only [Heap.next_new] at hi
    have : i ≠ H.next := by omega
    simp only [Ren.put, this, if_false]
    exact g.fresh i (by omega)
  · intro i n hn
    simp only [Ren.put] at hn
    split at hn
    · cases hn
      exact ⟨hlt, fun _ => .inl hge⟩
    · exact g.own i n hn
  · intro i n hn hi
    simp only [Ren.put] at hn
    split at hn
    · have := g.gb; unfold gbase abase at *; omega
    · exact g.glob i n hn hi
  · intro i j mi mj hgi hi hj ei ej hbb
    simp only [Ren.put] at ei ej
    obtain ⟨oi, gi, ai⟩ := hi
    obtain ⟨oj, gj, aj⟩ := hj
    rw [Heap.get_new] at gi gj
    by_cases e1 : i = H.next
    · by_cases e2 : j = H.next
      · rw [e1, e2]
      · simp only [e1, if_true, Option.some.injEq] at ei
        simp only [e2, if_false] at ej
        exact absurd (by rw [ei, hbb]) (hf j mj ej)
    · by_cases e2 : j = H.next
      · simp only [e2, if_true, Option.some.injEq] at ej
        simp only [e1, if_false] at ei
        exact absurd (by rw [ej, hbb]) (hf i mi ei)
      · simp only [e1, e2, if_false] at ei ej gi gj
        exact g.inj i j mi mj hgi ⟨oi, gi, ai⟩ ⟨oj, gj, aj⟩ ei ej hbb
  · intro i n o hn ho
    rw [Heap.get_new] at ho
    simp only [Ren.put] at hn
    by_cases e : i = H.next
    · simp only [e, if_true, Option.some.injEq] at hn ho
      subst hn ho
      exact hr
    · simp only [e, if_false] at hn ho
      exact (g.obj i n o hn ho).mono hle (fun _ => rfl)
  · intro i hi hn
    have : i ≠ H.next := by have := g.gb; unfold gbase abase at *; omega
    rw [Heap.get_new, if_neg this] at hn
    obtain ⟨n, h⟩ := g.gmap i hi hn
    exact ⟨n, hle _ _ h⟩
  · intro i n ha hi hn
    simp only [Ren.put] at hn
    split at hn
    · have := g.gb; omega
    · exact g.pins i n ha hi hn
  · intro i hi hn
    have : i ≠ H.next := by omega
    exact ⟨by simp [Ren.put, this, hn], by rw [Heap.get_new, if_neg this]⟩

/-! ### How data are laid -/
inductive LaidC : Heap → List D → List Value → Heap → Prop
  | nil (H : Heap) : LaidC H [] [] H
  | val {H H' : Heap} {ds : List D} {vs : List Value} (v : Value) (hv : ∀ cs, v ≠ .agg cs) (t : LaidC H ds vs H') : LaidC H (.val v :: ds) (v :: vs) H'
  | nilS {H H' : Heap} {ds : List D} {vs : List Value} (t : LaidC H ds vs H') : LaidC H (.nil :: ds) (.slice none 0 0 :: vs) H'
  | sl {H H' : Heap} {ds : List D} {vs : List Value} (n es : Nat) (cs : List Value) (t : LaidC (H.new (.sym cs true es)) ds vs H') : LaidC H (.sl n es cs :: ds) (.slice (some ⟨H.next, 0, none⟩) n n :: vs) H'
inductive LaidV : Heap → List D → List Value → Heap → Prop
  | nil (H : Heap) : LaidV H [] [] H
  | one {H H1 H2 : Heap} {d : D} {v : Value} {ds : List D} {vs : List Value} (h : LaidC H [d] [v] H1) (t : LaidV H1 ds vs H2) : LaidV H (d :: ds) (v :: vs) H2
  | agg {H H1 H2 : Heap} {cds : List D} {cvs : List Value} {ds : List D} {vs : List Value} (h : LaidC H cds cvs H1) (t : LaidV H1 ds vs H2) : LaidV H (.agg cds :: ds) (.agg cvs.toArray :: vs) H2

theorem someScal_out : ∀ (l : List Sc) {H : Heap} {k : List D → List Value → Heap → Prop}, someScal l H k → ∃ ds vs H', LaidC H ds vs H' ∧ ds.length = l.length ∧ k ds vs H'
  | [], H, k, h => ⟨[], [], H, .nil H, rfl, h⟩
  | .int kd :: r, H, k, h => by
    obtain ⟨n, h⟩ := h
    obtain ⟨ds, vs, H', h1, h2, h3⟩ := someScal_out r h
    exact ⟨_, _, _, .val _ (fun cs e => by cases e) h1, by simp [h2], h3⟩
  | .bool :: r, H, k, h => by
    rcases h with h | h
    all_goals
      obtain ⟨ds, vs, H', h1, h2, h3⟩ := someScal_out r h
      exact ⟨_, _, _, .val _ (fun cs e => by cases e) h1, by simp [h2], h3⟩
  | .str :: r, H, k, h => by
    obtain ⟨n, h⟩ := h
    obtain ⟨ds, vs, H', h1, h2, h3⟩ := someScal_out r h
    exact ⟨_, _, _, .val _ (fun cs e => by cases e) h1, by simp [h2], h3⟩
  | .sl es :: r, H, k, h => by
    rcases h with h | ⟨n, cs, h⟩
    · obtain ⟨ds, vs, H', h1, h2, h3⟩ := someScal_out r h
      exact ⟨_, _, _, .nilS h1, by simp [h2], h3⟩
    · obtain ⟨ds, vs, H', h1, h2, h3⟩ := someScal_out r h
      exact ⟨_, _, _, .sl n es cs h1, by simp [h2], h3⟩
theorem someScalB_out : ∀ (l : List Sc) {H : Heap} {k : List D → List Value → Heap → Prop}, someScalB l H k → ∃ ds vs H', LaidC H ds vs H' ∧ ds.length = l.length ∧ k ds vs H'
  | [], H, k, h => ⟨[], [], H, .nil H, rfl, h⟩
  | .int kd :: r, H, k, h => by
    obtain ⟨n, h⟩ := h
    obtain ⟨ds, vs, H', h1, h2, h3⟩ := someScalB_out r h
    exact ⟨_, _, _, .val _ (fun cs e => by cases e) h1, by simp [h2], h3⟩
  | .bool :: r, H, k, h => by
    obtain ⟨n, h⟩ := h
    obtain ⟨ds, vs, H', h1, h2, h3⟩ := someScalB_out r h
    exact ⟨_, _, _, .val _ (fun cs e => by cases e) h1, by simp [h2], h3⟩
  | .str :: r, H, k, h => by
    obtain ⟨n, h⟩ := h
    obtain ⟨ds, vs, H', h1, h2, h3⟩ := someScalB_out r h
    exact ⟨_, _, _, .val _ (fun cs e => by cases e) h1, by simp [h2], h3⟩
  | .sl es :: r, H, k, h => by
    rcases h with h | ⟨n, cs, h⟩
    · obtain ⟨ds, vs, H', h1, h2, h3⟩ := someScalB_out r h
      exact ⟨_, _, _, .nilS h1, by simp [h2], h3⟩
    · obtain ⟨ds, vs, H', h1, h2, h3⟩ := someScalB_out r h
      exact ⟨_, _, _, .sl n es cs h1, by simp [h2], h3⟩
theorem someVals_out : ∀ (ts : List TypeId) {H : Heap} {k : List D → List Value → Heap → Prop}, someVals P ts H k → ∃ ds vs H', LaidV H ds vs H' ∧ k ds vs H'
  | [], H, k, h => ⟨[], [], H, .nil H, h⟩
  | t :: r, H, k, h => by
    simp only [someVals, someVal] at h
    split at h
    · cases h
    · rename_i l hl
      split at h
      · obtain ⟨ds, vs, H', h1, _, h3⟩ := someScalB_out l h
        obtain ⟨rs, us, H2, h4, h5⟩ := someVals_out r h3
        exact ⟨_, _, _, .agg h1 h4, h5⟩
      · obtain ⟨ds, vs, H', h1, _, h3⟩ := someScal_out l h
        split at h3
        · obtain ⟨rs, us, H2, h4, h5⟩ := someVals_out r h3
          exact ⟨_, _, _, .one h1 h4, h5⟩
        · cases h3

theorem laidC_sound {w0' : World} : ∀ {H H' : Heap} {ds : List D} {vs : List Value}, LaidC H ds vs H' → ∀ {ρ : Ren} {vs' : List Value} {u u' : List Nat}, Gam w0 ρ H w → YldB w0 ρ H w w0'.heap.size → w0.w.heap.size ≤ w0'.heap.size → (∀ i m, ρ i = some m → m.b < w0'.heap.size ∨ m.b ∈ u) → GivesL w0' w u ds vs' u' →
    ∃ ρ', Gam w0 ρ' H' w ∧ LR ρ' vs vs' ∧ Ext ρ ρ' H H' ∧ YldB w0 ρ' H' w w0'.heap.size ∧ (∀ i m, ρ' i = some m → m.b < w0'.heap.size ∨ m.b ∈ u') := by
  intro H H' ds vs h
  induction h with
  | nil H =>
    intro ρ vs' u u' g hy hw hu hg
    cases hg
    exact ⟨ρ, g, .nil, .refl _ _, hy, hu⟩
  | val v hv t ih =>
    intro ρ vs' u u' g hy hw hu hg
    cases hg with
    | cons h1 h2 =>
      cases h1 with
      | val _ _ hp =>
        obtain ⟨ρ', g', l', e', y2, u2⟩ := ih g hy hw hu h2
        exact ⟨ρ', g', .cons (plain_refl _ 8 _ hp) l', e', y2, u2⟩
  | nilS t ih =>
    intro ρ vs' u u' g hy hw hu hg
    cases hg with
    | cons h1 h2 =>
      cases h1 with
      | nil _ =>
        obtain ⟨ρ', g', l', e', y2, u2⟩ := ih g hy hw hu h2
        exact ⟨ρ', g', .cons (.nilSlice _ _) l', e', y2, u2⟩
  | @sl H H' ds vs n es cs t ih =>
    intro ρ vs' u u' g hy hw hu hg
    cases hg with
    | cons h1 h2 =>
      cases h1 with
      | sl _ _ _ _ b o cap c ty hb hwb hub hs hcap hc hn hp =>
        have hcl : o + cs.length ≤ c.size := by
          have : n * es ≤ cap * es := Nat.mul_le_mul_right _ hcap
          omega
        let m : Meta := ⟨b, o, cs.length, true, es, c.size, hcl⟩
        have hlt : b < w.heap.size := by
          rcases Nat.lt_or_ge b w.heap.size with h | h
          · exact h
          · rw [Array.getElem?_eq_none h] at hb; cases hb
        obtain ⟨g1, e1⟩ := g.adopt (.sym cs true es) m hlt (Nat.le_trans hw hwb) (fun i n hn e => by
            rcases hu i n hn with h | h
            · simp only [m] at e; omega
            · exact hub (by rw [← show n.b = b from e]; exact h)) ⟨⟨rfl, rfl, rfl, c, ty, (0, 0), ⟨hb, fun _ => rfl⟩, rfl, by
              rw [show m.o = o from rfl, hc]
              exact LR.plain (fun v => plain_refl _ 8 v) cs (List.all_eq_true.2 (fun v hv => cellP_plain (hp v hv)))⟩, hp⟩ hy hwb
        have hput : (ρ.put H.next m) H.next = some m := by simp [Ren.put]
        obtain ⟨ρ', g', l', e', y2, u2⟩ := ih g1 (hy.adopt g.gb hwb) hw (fun i n hn => by
            simp only [Ren.put] at hn
            split at hn
            · cases hn; exact .inr (List.mem_cons_self ..)
            · rcases hu i n hn with h | h
              · exact .inl h
              · exact .inr (List.mem_cons_of_mem _ h)) h2
        refine ⟨ρ', g', .cons ?_ l', e1.trans e', y2, u2⟩
        have := VR.opened (ρ := ρ.put H.next m) H.next 0 n n cap m hput (by simp [Meta.isOpen, m, hn]) hcap (by simp [m]; omega) (Nat.le_refl _)
        exact VR.mono e'.le (by simpa [m] using this)
theorem laidV_sound {w0' : World} : ∀ {H H' : Heap} {ds : List D} {vs : List Value}, LaidV H ds vs H' → ∀ {ρ : Ren} {vs' : List Value} {u u' : List Nat}, Gam w0 ρ H w → YldB w0 ρ H w w0'.heap.size → w0.w.heap.size ≤ w0'.heap.size → (∀ i m, ρ i = some m → m.b < w0'.heap.size ∨ m.b ∈ u) → GivesL w0' w u ds vs' u' →
    ∃ ρ', Gam w0 ρ' H' w ∧ LR ρ' vs vs' ∧ Ext ρ ρ' H H' ∧ YldB w0 ρ' H' w w0'.heap.size ∧ (∀ i m, ρ' i = some m → m.b < w0'.heap.size ∨ m.b ∈ u') := by
  intro H H' ds vs h
  induction h with
  | nil H =>
    intro ρ vs' u u' g hy hw hu hg
    cases hg
    exact ⟨ρ, g, .nil, .refl _ _, hy, hu⟩
  | one h t ih =>
    intro ρ vs' u u' g hy hw hu hg
    cases hg with
    | cons h1 h2 =>
      obtain ⟨ρ1, g1, l1, e1, y1, u1⟩ := laidC_sound h g hy hw hu (.cons h1 (.nil _))
      obtain ⟨ρ2, g2, l2, e2, y2, u2⟩ := ih g1 y1 hw u1 h2
      cases l1 with
      | cons l1 _ => exact ⟨ρ2, g2, .cons (l1.mono e2.le) l2, e1.trans e2, y2, u2⟩
  | agg h t ih =>
    intro ρ vs' u u' g hy hw hu hg
    cases hg with
    | cons h1 h2 =>
      cases h1 with
      | agg _ _ _ _ h1 =>
        obtain ⟨ρ1, g1, l1, e1, y1, u1⟩ := laidC_sound h g hy hw hu h1
        obtain ⟨ρ2, g2, l2, e2, y2, u2⟩ := ih g1 y1 hw u1 h2
        exact ⟨ρ2, g2, .cons (VR.agg' (by simpa using l1.mono e2.le)) l2, e1.trans e2, y2, u2⟩

theorem tupleOf_R {vs vs' : List Value} (h : LR ρ vs vs') : VR ρ (tupleOf vs) (tupleOf vs') := by
  have ht : VR ρ (.tuple vs.toArray) (.tuple vs'.toArray) := VR.tuple' (by simpa using h)
  match vs, vs', h with
  | [], [], _ => exact ht
  | [_], [_], .cons h _ => exact h
  | _ :: _ :: _, _ :: _ :: _, _ => exact ht

/-- A call that is met by its contract. -/
theorem wpSaid_call {C : FuncId → List D → List D → Prop} (hC : ∀ f ds rs, C f ds rs → Con P f ds rs) {f : FuncId} {res : List TypeId} {args : Array Value} {k : Value → Heap → Prop} (hk : wpSaid P C f res args H k) : CallH P f args H k := by
  intro w0 ρ w args' n g ha
  obtain ⟨ds, hr, hk⟩ := readVals_out g _ ha hk
  obtain ⟨rs, vs, H', hl, hs, hk⟩ := someVals_out res hk
  refine callsIn_wide.2 ((hC f ds rs hs.out w args' g.good hr).mono ?_)
  rintro e w' ⟨⟨vs', u, rfl, hg⟩, hb⟩
  obtain ⟨ρ', g', l', e', _, _⟩ := laidV_sound hl (g.grow hb) (g.growB hb) g.below.size (fun i m hm => .inl (g.own i m hm).1) hg
  exact ⟨_, H', ρ', _, hk, rfl, tupleOf_R l', g', e'⟩

end Go.Abs

/- Contracts: a function whose body has been walked. -/
namespace Go.Abs
open Go.RowKit
variable {P : Program} {ρ : Ren} {w0 : Start P} {w : World} {H : Heap}

/-! ### What a call is handed -/
/-- An assignment of places, with capacities. -/
abbrev Plc := Nat → Option (Nat × Meta)
structure Fits (w : World) (pl : Plc) (i j : Nat) (caps : Nat → Nat) (ρ : Ren) : Prop where
  all : ∀ q, i ≤ q → q < j → ∃ c m, pl q = some (c, m) ∧ caps q = c ∧ ρ q = some m
def PlcOK (w : World) (pl : Plc) (bs : Blocks) (i j : Nat) : Prop :=
  ∀ q o, (q, o) ∈ bs → i ≤ q ∧ q < j ∧ ∃ c m, pl q = some (c, m) ∧ m.b < w.heap.size ∧ ∃ cs es, o = .sym cs false es ∧ m.known = cs.length ∧ m.opn = false ∧ m.es = es ∧ (∃ a ty fz, w.heap[m.b]? = some (.cells a ty fz) ∧ a.size = m.size ∧ (a.toList.drop m.o).take cs.length = cs) ∧ ∀ v ∈ cs, cellP v = true

def IsCells (w : World) (k : Nat) : Prop := ∃ a ty fz, w.heap[k]? = some (.cells a ty fz)
theorem layCells_ok : ∀ (ds : List D) {vs' : List Value} (i : Nat), ReadsL w ds vs' → ∃ pl : Plc, (∀ caps, PlcOK w pl (layCells caps i ds).2 i (i + countC ds)) ∧ (∀ q, i ≤ q → q < i + countC ds → ∃ c m, pl q = some (c, m) ∧ m.b < w.heap.size ∧ IsCells w m.b) ∧
    ∀ caps ρ, Fits w pl i (i + countC ds) caps ρ → LR ρ (layCells caps i ds).1 vs'
  | [], _, i, .nil => ⟨fun _ => none, fun _ q o h => by simp [layCells] at h, fun q h1 h2 => by simp [countC] at h2; omega, fun _ _ _ => .nil⟩
  | .val v :: r, _, i, .cons h t => by
    obtain ⟨pl, h1, h2, h3⟩ := layCells_ok r i t
    cases h with
    | val _ hp => exact ⟨pl, h1, h2, fun caps ρ hf => .cons (plain_refl _ 8 _ hp) (h3 caps ρ hf)⟩
  | .nil :: r, _, i, .cons h t => by
    obtain ⟨pl, h1, h2, h3⟩ := layCells_ok r i t
    cases h with
    | nil => exact ⟨pl, h1, h2, fun caps ρ hf => .cons (.nilSlice _ _) (h3 caps ρ hf)⟩
  | .agg ds :: r, _, i, .cons h t => by
    obtain ⟨pl, h1, h2, h3⟩ := layCells_ok r i t
    exact ⟨pl, h1, h2, fun caps ρ hf => .cons (.unknown _ _) (h3 caps ρ hf)⟩
  | .sl n es cs :: r, _, i, .cons h t => by
    obtain ⟨pl, h1, h2, h3⟩ := layCells_ok r (i + 1) t
    cases h with
    | sl _ _ _ b o cap c ty fz hb hs hc hn hp hlc =>
      have hlt : b < w.heap.size := by
        rcases Nat.lt_or_ge b w.heap.size with h | h
        · exact h
        · rw [Array.getElem?_eq_none h] at hb; cases hb
      let m : Meta := ⟨b, o, cs.length, false, es, c.size, hs⟩
      refine ⟨fun q => if q = i then some (cap, m) else pl q, ?_, ?_, ?_⟩
      · intro caps q ob hq
        simp only [layCells, List.mem_cons, Prod.mk.injEq] at hq
        simp only [countC]
        rcases hq with ⟨rfl, rfl⟩ | hq
        · exact ⟨Nat.le_refl _, by omega, cap, m, by simp, hlt, cs, es, rfl, rfl, rfl, rfl, ⟨c, ty, fz, hb, rfl, hc⟩, hp⟩
        · obtain ⟨q1, q2, c', m', q3, q4⟩ := h1 caps q ob hq
          have : q ≠ i := by omega
          exact ⟨by omega, by omega, c', m', by simp only [this, if_false]; exact q3, q4⟩
      · intro q q1 q2
        simp only [countC] at q2
        by_cases e : q = i
        · exact ⟨cap, m, by simp only [e, if_true], hlt, c, ty, fz, hb⟩
        · obtain ⟨c', m', hx, hb'⟩ := h2 q (by omega) (by omega)
          exact ⟨c', m', by simp only [e, if_false]; exact hx, hb'⟩
      · intro caps ρ hf
        have hf2 : Fits w pl (i + 1) (i + 1 + countC r) caps ρ := ⟨fun q q1 q2 => by
          obtain ⟨c', m', a1, a2, a3⟩ := hf.all q (by omega) (by simp only [countC]; omega)
          have : q ≠ i := by omega
          simp only [this, if_false] at a1
          exact ⟨c', m', a1, a2, a3⟩⟩
        obtain ⟨c', m', a1, a2, a3⟩ := hf.all i (Nat.le_refl _) (by simp only [countC]; omega)
        simp only [if_true, Option.some.injEq, Prod.mk.injEq] at a1
        obtain ⟨rfl, rfl⟩ := a1
        refine .cons ?_ (h3 caps ρ hf2)
        have := VR.slice (ρ := ρ) i 0 n (caps i) m a3 (by simp [Meta.isOpen, m]) (by omega)
        simp only [m, Nat.add_zero] at this
        rw [← a2]
        simpa [m] using this

theorem layVals_ok : ∀ (ds : List D) {vs' : List Value} (i : Nat), ReadsL w ds vs' → ∃ pl : Plc, (∀ caps, PlcOK w pl (layVals caps i ds).2 i (i + countV ds)) ∧ (∀ q, i ≤ q → q < i + countV ds → ∃ c m, pl q = some (c, m) ∧ m.b < w.heap.size ∧ IsCells w m.b) ∧
    ∀ caps ρ, Fits w pl i (i + countV ds) caps ρ → LR ρ (layVals caps i ds).1 vs' := by
  have comb : ∀ {a c : Nat} {pl pl2 : Plc} {i : Nat} {bs bs2 : Blocks}, PlcOK w pl bs i (i + a) → PlcOK w pl2 bs2 (i + a) (i + a + c) → PlcOK w (fun q => if q < i + a then pl q else pl2 q) (bs ++ bs2) i (i + (a + c)) := by
    intro a c pl pl2 i bs bs2 h1 h2 q o hq
    rcases List.mem_append.1 hq with hq | hq
    · obtain ⟨q1, q2, c', m', q3, q4⟩ := h1 q o hq
      exact ⟨q1, by omega, c', m', by simp only [q2, if_true]; exact q3, q4⟩
    · obtain ⟨q1, q2, c', m', q3, q4⟩ := h2 q o hq
      have hn : ¬ q < i + a := by omega
      refine ⟨by omega, by omega, c', m', ?_, q4⟩
      simp only [hn, if_false]
      exact q3
  have combE : ∀ {a c : Nat} {pl pl2 : Plc} {i : Nat}, (∀ q, i ≤ q → q < i + a → ∃ c m, pl q = some (c, m) ∧ m.b < w.heap.size ∧ IsCells w m.b) → (∀ q, i + a ≤ q → q < i + a + c → ∃ c m, pl2 q = some (c, m) ∧ m.b < w.heap.size ∧ IsCells w m.b) → ∀ q, i ≤ q → q < i + (a + c) → ∃ c m, (fun q => if q < i + a then pl q else pl2 q) q = some (c, m) ∧ m.b < w.heap.size ∧ IsCells w m.b := by
    intro a c pl pl2 i h1 h2 q q1 q2
    by_cases e : q < i + a
    · simp only [e, if_true]; exact h1 q q1 e
    · simp only [e, if_false]; exact h2 q (by omega) (by omega)
  have fitL : ∀ {a c : Nat} {pl pl2 : Plc} {i : Nat} {caps : Nat → Nat} {ρ : Ren}, Fits w (fun q => if q < i + a then pl q else pl2 q) i (i + (a + c)) caps ρ → Fits w pl i (i + a) caps ρ := by
    intro a c pl pl2 i caps ρ hf
    exact ⟨fun q q1 q2 => by
      obtain ⟨c', m', a1, a2, a3⟩ := hf.all q q1 (by omega)
      simp only [q2, if_true] at a1
      exact ⟨c', m', a1, a2, a3⟩⟩
  have fitR : ∀ {a c : Nat} {pl pl2 : Plc} {i : Nat} {caps : Nat → Nat} {ρ : Ren}, Fits w (fun q => if q < i + a then pl q else pl2 q) i (i + (a + c)) caps ρ → Fits w pl2 (i + a) (i + a + c) caps ρ := by
    intro a c pl pl2 i caps ρ hf
    exact ⟨fun q q1 q2 => by
      obtain ⟨c', m', a1, a2, a3⟩ := hf.all q (by omega) (by omega)
      have hn : ¬ q < i + a := by omega
      simp only [hn, if_false] at a1
      exact ⟨c', m', a1, a2, a3⟩⟩
  intro ds
  induction ds with
  | nil =>
    intro vs' i h
    cases h
    exact ⟨fun _ => none, fun _ q o h => by simp [layVals] at h, fun q h1 h2 => by simp [countV] at h2; omega, fun _ _ _ => .nil⟩
  | cons d r ih =>
    intro vs' i h
    cases h with
    | @cons _ _ _ vs0 h t =>
      have one : ∀ d, (∀ ds, d ≠ .agg ds) → ∀ {v' : Value}, Reads w d v' → ∃ pl : Plc, (∀ caps, PlcOK w pl (layVals caps i (d :: r)).2 i (i + countV (d :: r))) ∧ (∀ q, i ≤ q → q < i + countV (d :: r) → ∃ c m, pl q = some (c, m) ∧ m.b < w.heap.size ∧ IsCells w m.b) ∧
          ∀ caps ρ, Fits w pl i (i + countV (d :: r)) caps ρ → LR ρ (layVals caps i (d :: r)).1 (v' :: vs0) := by
        intro d hd v' h
        obtain ⟨pl, h1, h2, h3⟩ := layCells_ok [d] i (.cons h .nil)
        obtain ⟨pl2, k1, k2, k3⟩ := ih (i + countC [d]) t
        have e1 : ∀ caps, layVals caps i (d :: r) = ((layCells caps i [d]).1 ++ (layVals caps (i + countC [d]) r).1, (layCells caps i [d]).2 ++ (layVals caps (i + countC [d]) r).2) := by
          intro caps; cases d <;> first | rfl | exact absurd rfl (hd _)
        have e2 : countV (d :: r) = countC [d] + countV r := by cases d <;> first | rfl | exact absurd rfl (hd _)
        refine ⟨fun q => if q < i + countC [d] then pl q else pl2 q, ?_, ?_, ?_⟩
        · intro caps; rw [e1, e2]; exact comb (h1 caps) (k1 caps)
        · rw [e2]; exact combE h2 k2
        · intro caps ρ hf
          rw [e2] at hf
          rw [e1]
          exact (h3 caps ρ (fitL hf)).append (k3 caps ρ (fitR hf))
      cases h with
      | val _ hp => exact one _ (fun ds e => by cases e) (.val _ hp)
      | nil => exact one _ (fun ds e => by cases e) .nil
      | sl n es cs b o cap c ty fz hb hs hc hn hp hl => exact one _ (fun ds e => by cases e) (.sl n es cs b o cap c ty fz hb hs hc hn hp hl)
      | agg ds vs h =>
        obtain ⟨pl, h1, h2, h3⟩ := layCells_ok ds i h
        obtain ⟨pl2, k1, k2, k3⟩ := ih (i + countC ds) t
        refine ⟨fun q => if q < i + countC ds then pl q else pl2 q, fun caps => comb (h1 caps) (k1 caps), combE h2 k2, fun caps ρ hf => ?_⟩
        simp only [layVals]
        exact .cons (VR.agg' (by simpa using h3 caps ρ (fitL hf))) (k3 caps ρ (fitR hf))

theorem lay_gam (hgood : GoodW P w) {ds : List D} {vs' : List Value} (h : ReadsL w ds vs') (hc : countV ds ≤ 400) : ∃ caps ρ, (Start.of P w ρ).still ∧ Gam (.of P w ρ) ρ (heapOf (layVals caps 500 ds).2) w ∧ LR ρ (layVals caps 500 ds).1 vs' := by
  obtain ⟨pl, h1, h2, h3⟩ := layVals_ok ds 500 h
  let caps : Nat → Nat := fun q => ((pl q).map (·.1)).getD 0
  let ρ : Ren := fun q => if 500 ≤ q ∧ q < 500 + countV ds then (pl q).map (·.2) else none
  have hρ : ∀ q m, ρ q = some m → 500 ≤ q ∧ q < 500 + countV ds ∧ m.b < w.heap.size ∧ ∃ c, pl q = some (c, m) := by
    intro q m hm
    simp only [ρ] at hm
    split at hm
    · rename_i hq
      obtain ⟨⟨c, m'⟩, hx, e⟩ := Option.map_eq_some_iff.1 hm
      cases e
      obtain ⟨c2, m2, hx2, hb⟩ := h2 q hq.1 hq.2
      rw [hx] at hx2; cases hx2
      exact ⟨hq.1, hq.2, hb.1, c, hx⟩
    · cases hm
  have hbl := h1 caps
  have hge : ∀ q m, ρ q = some m → q < mbase := fun q m hm => by have := hρ q m hm; unfold mbase; omega
  have hst : (Start.of P w ρ).still := still_of fun i h1 h2 => by
    cases hr : ρ i with
    | none => rfl
    | some m => have := hge i m hr; omega
  refine ⟨caps, ρ, hst, ⟨Nat.le_add_right _ _, ?_, .refl _, ?_, ?_, ?_, ?_, ?_, fun i m _ _ h => h, vars_still hgood hst, Start.quiet.ok (quiet_of _ _), fun own rest hget => ?_⟩, h3 caps ρ ⟨fun q q1 q2 => ?_⟩⟩
  · intro i hi
    cases hr : ρ i with
    | none => rfl
    | some m =>
      have := hρ i m hr
      have h5 : gbase ≤ i := Nat.le_trans (Nat.le_add_right _ _) hi
      unfold gbase at h5; omega
  · intro i m hm
    have := hρ i m hm
    exact ⟨this.2.2.1, fun h => by unfold gbase at h; omega⟩
  · intro i m hm hi
    have := hρ i m hm
    unfold abase at hi; omega
  · intro i j mi mj hgi hi hj ei ej
    have := hge i mi ei
    omega
  · intro q m o hm ho
    obtain ⟨_, _, c', m', hx, hb, cs, es, rfl, r1, r2, r3, ⟨a, ty, fz, r4, r5, r6⟩, r7⟩ := hbl q o (heapOf_get ho)
    obtain ⟨_, _, _, c, hx2⟩ := hρ q m hm
    rw [hx] at hx2
    cases hx2
    refine ⟨⟨r1, r2, r3, a, ty, fz, ⟨r4, fun h => by cases h⟩, r5, ?_⟩, r7⟩
    rw [r6]
    exact LR.plain (fun v => plain_refl _ 8 v) cs (List.all_eq_true.2 (fun v hv => cellP_plain (r7 v hv)))
  · intro i hi hn
    cases ho : (heapOf (layVals caps 500 ds).2).get i with
    | none => exact absurd ho hn
    | some o =>
      have := hbl i o (heapOf_get ho)
      unfold abase mbase at hi; omega
  · obtain ⟨_, _, _, _, _, _, _, _, e, _⟩ := hbl _ _ (heapOf_get hget)
    cases e
  · obtain ⟨c, m, hx, _⟩ := h2 q q1 q2
    exact ⟨c, m, hx, by simp [caps, hx], by simp [ρ, q1, q2, hx]⟩
end Go.Abs

/- Contracts: what a function gives; loops; a function is proved. -/
namespace Go.Abs
open Go.RowKit
variable {P : Program} {ρ : Ren} {w0 : Start P} {w : World} {H : Heap}

/-- Machine blocks of values that were given. -/
def UsedOK (ρ : Ren) (H : Heap) (used : List Nat) (u : List Nat) : Prop := ∀ b ∈ u, ∃ i ∈ used, gbase ≤ i ∧ H.live i ∧ ∃ m, ρ i = some m ∧ m.b = b

theorem give_sl (g : Gam w0 ρ H w) (hs : w0.still) {used u : List Nat} (hu : UsedOK ρ H used u) {i len : Nat} {v' : Value} (hv : VR ρ (.slice (some ⟨i, 0, none⟩) len len) v') (hgi : gbase ≤ i) (hni : i ∉ used) {cs : List Value} {es : Nat}
    (hget : H.get i = some (.sym cs true es) ∨ ∃ ty opn, H.get i = some (.cells cs ty opn es)) (hlen : cs.length = len * es) (hp : ∀ v ∈ cs, cellP v = true) :
    ∃ b, Gives w0.w w u (.sl len es cs) v' (b :: u) ∧ UsedOK ρ H (i :: used) (b :: u) := by
  have hlive : H.live i := by
    rcases hget with h | ⟨ty, opn, h⟩
    · exact ⟨_, h, rfl⟩
    · exact ⟨_, h, rfl⟩
  have key : ∀ m, ρ i = some m → m.known = cs.length ∧ m.es = es ∧ ∃ c ty, w.heap[m.b]? = some (.cells c ty (0, 0)) ∧ c.size = m.size ∧ (c.toList.drop m.o).take cs.length = cs := by
    intro m hm
    rcases hget with h | ⟨ty, opn, h⟩
    · obtain ⟨⟨a, b, c, d, e, z, f1, g2, g3⟩, _⟩ := g.obj i m _ hm h
      obtain rfl := f1.2 rfl
      exact ⟨a, c, d, e, f1.1, g2, LR.eq_of_plain g3 hp⟩
    · obtain ⟨a, b, c, d, e, g1, g2, g3⟩ := g.obj i m _ hm h
      exact ⟨a, c, d, e, g1, g2, LR.eq_of_plain g3 hp⟩
  have fin : ∀ (m : Meta) (off cap : Nat), ρ i = some m → v' = .slice (some ⟨m.b, off, none⟩) len cap → len ≤ cap → (off = m.o ∧ off + cap * es ≤ m.size) ∨ (cs = [] ∧ off + cap * es ≤ m.size) → ∃ b, Gives w0.w w u (.sl len es cs) v' (b :: u) ∧ UsedOK ρ H (i :: used) (b :: u) := by
    intro m off cap hm e hc hor
    obtain ⟨k1, k2, c, ty, k3, k4, k5⟩ := key m hm
    subst e
    refine ⟨m.b, .sl u len es cs m.b off cap c ty k3 (((g.own i m hm).2 hgi).resolve_right (hs.mine _)) ?_ ?_ hc ?_ hlen hp, ?_⟩
    · intro hb
      obtain ⟨j, hj, hgj, hlj, mj, hmj, ebj⟩ := hu _ hb
      have := g.inj j i mj m (mb_of hgj) hlj hlive hmj hm ebj
      exact hni (this ▸ hj)
    · rcases hor with h | h
      · rw [k4]; exact h.2
      · rw [k4]; exact h.2
    · rcases hor with h | h
      · rw [h.1]; exact k5
      · rw [h.1]; simp
    · intro b hb
      rcases List.mem_cons.1 hb with rfl | hb
      · exact ⟨i, List.mem_cons_self .., hgi, hlive, m, hm, rfl⟩
      · obtain ⟨j, hj, r⟩ := hu b hb
        exact ⟨j, List.mem_cons_of_mem _ hj, r⟩
  cases hv with
  | slice i k len cap m hm ho hl =>
    obtain ⟨k1, k2, c, ty, k3, k4, k5⟩ := key m hm
    have := m.hw
    exact fin m _ _ hm rfl (Nat.le_refl _) (.inl ⟨rfl, by omega⟩)
  | opened i k len cap capC m hm ho hc hs hl =>
    obtain ⟨k1, k2, c, ty, k3, k4, k5⟩ := key m hm
    exact fin m _ _ hm rfl hc (.inl ⟨rfl, by rw [k2] at hs; exact hs⟩)
  | empty i k off m hm ho hz =>
    exact fin m _ _ hm rfl (Nat.le_refl _) (.inr ⟨List.length_eq_zero_iff.1 (by simpa using hlen), by simpa using hz⟩)

theorem giveCells_out (g : Gam w0 ρ H w) (hs : w0.still) : ∀ (l : List Value) {l' : List Value} {used u : List Nat} {k : List Nat → List D → Prop}, LR ρ l l' → UsedOK ρ H used u → giveCells H used l k → ∃ ds u' used', GivesL w0.w w u ds l' u' ∧ UsedOK ρ H used' u' ∧ k used' ds
  | [], _, used, u, k, .nil, hu, h => ⟨[], u, used, .nil u, hu, h⟩
  | v :: r, _, used, u, k, .cons hv ht, hu, h => by
    unfold giveCells at h
    split at h
    · obtain ⟨ds, u', used', h1, h2, h3⟩ := giveCells_out g hs r ht hu h
      cases hv
      exact ⟨_, u', used', .cons (.nil u) h1, h2, h3⟩
    · rename_i i len cap
      split at h
      · rename_i hc
        obtain ⟨hgi, hni⟩ := hc
        have hni : i ∉ used := by simpa using hni
        split at h
        · rename_i cs es hget
          obtain ⟨⟨e1, e2⟩, h⟩ := h
          subst e1
          have hp : ∀ v ∈ cs, cellP v = true := by
            obtain ⟨m, hm, _⟩ := slice_inv hv
            exact (g.obj i m _ hm hget).2
          obtain ⟨b, g1, u1⟩ := give_sl g hs hu hv hgi hni (.inl hget) e2 hp
          obtain ⟨ds, u', used', h1, h2, h3⟩ := giveCells_out g hs r ht u1 h
          exact ⟨_, u', used', .cons g1 h1, h2, h3⟩
        · rename_i cs ty opn es hget
          obtain ⟨⟨e1, e2⟩, h⟩ := h
          subst e1
          obtain ⟨hp, h⟩ := bcase_out h
          obtain ⟨b, g1, u1⟩ := give_sl g hs hu hv hgi hni (.inr ⟨ty, opn, hget⟩) e2 (List.all_eq_true.1 hp)
          obtain ⟨ds, u', used', h1, h2, h3⟩ := giveCells_out g hs r ht u1 h
          exact ⟨_, u', used', .cons g1 h1, h2, h3⟩
        · cases h
      · cases h
    · split at h
      · rename_i hp
        obtain ⟨ds, u', used', h1, h2, h3⟩ := giveCells_out g hs r ht hu h
        rw [plain_eq 8 _ _ hp hv]
        exact ⟨_, u', used', .cons (.val u _ hp) h1, h2, h3⟩
      · cases h

theorem GivesL.append {w' : World} : ∀ {a b : List D} {l l' : List Value} {u u' u'' : List Nat}, GivesL w w' u a l u' → GivesL w w' u' b l' u'' → GivesL w w' u (a ++ b) (l ++ l') u'' := by
  intro a
  induction a with
  | nil => intro b l l' u u' u'' h k; cases h; exact k
  | cons d a ih => intro b l l' u u' u'' h k; cases h with | cons h t => exact .cons h (ih t k)
theorem giveVals_out (g : Gam w0 ρ H w) (hs : w0.still) : ∀ (l : List Value) {l' : List Value} {used u : List Nat} {k : List D → Prop}, LR ρ l l' → UsedOK ρ H used u → giveVals H used l k → ∃ ds u', GivesL w0.w w u ds l' u' ∧ k ds
  | [], _, used, u, k, .nil, hu, h => ⟨[], u, .nil u, h⟩
  | v :: r, _, used, u, k, .cons hv ht, hu, h => by
    unfold giveVals at h
    split at h
    · rename_i e; cases e
    · rename_i cs r' e
      simp only [List.cons.injEq] at e
      obtain ⟨rfl, rfl⟩ := e
      cases hv with
      | agg _ a' ha ra =>
        obtain ⟨ds, u1, used1, h1, h2, h⟩ := giveCells_out g hs _ (LR.of_arr ha ra) hu h
        obtain ⟨rs, u2, h3, h⟩ := giveVals_out g hs _ ht h2 h
        exact ⟨_, u2, .cons (by simpa using Gives.agg (w := w0.w) (w' := w) u u1 ds a'.toList h1) h3, h⟩
    · rename_i v' r' hne e
      simp only [List.cons.injEq] at e
      obtain ⟨rfl, rfl⟩ := e
      obtain ⟨ds, u1, used1, h1, h2, h⟩ := giveCells_out g hs _ (.cons hv .nil) hu h
      obtain ⟨rs, u2, h3, h⟩ := giveVals_out g hs _ ht h2 h
      exact ⟨_, u2, h1.append h3, h⟩

theorem dataK_out (g : Gam w0 ρ H w) (hs : w0.still) {v v' : Value} (hv : VR ρ v v') {k : List D → Prop} (hk : dataK k v H) : ∃ vs ds u, v' = tupleOf vs ∧ GivesL w0.w w [] ds vs u ∧ k ds := by
  have hu : UsedOK ρ H [] [] := fun b hb => (List.not_mem_nil hb).elim
  unfold dataK at hk
  split at hk
  · rename_i vs
    split at hk
    · cases hk
    · rename_i hsz
      cases hv with
      | tuple _ a' ha ra =>
        obtain ⟨ds, u, h1, h2⟩ := giveVals_out g hs _ (LR.of_arr ha ra) hu hk
        refine ⟨a'.toList, ds, u, ?_, h1, h2⟩
        have : a'.toList.length ≠ 1 := by simp; omega
        unfold tupleOf
        split
        · rename_i x e; rw [e] at this; simp at this
        · simp
  · obtain ⟨ds, u, h1, h2⟩ := giveVals_out g hs _ (.cons hv .nil) hu hk
    exact ⟨[v'], ds, u, rfl, h1, h2⟩

/-! ### A function whose body has been walked -/
theorem layCells_len (caps : Nat → Nat) : ∀ (ds : List D) (i : Nat), (layCells caps i ds).1.length = ds.length
  | [], _ => rfl
  | .sl _ _ _ :: r, i => by simp [layCells, layCells_len caps r]
  | .nil :: r, i => by simp [layCells, layCells_len caps r]
  | .val _ :: r, i => by simp [layCells, layCells_len caps r]
  | .agg _ :: r, i => by simp [layCells, layCells_len caps r]
theorem layVals_len (caps : Nat → Nat) : ∀ (ds : List D) (i : Nat), (layVals caps i ds).1.length = ds.length
  | [], _ => rfl
  | .sl _ _ _ :: r, i => by simp [layVals, layVals_len caps r, layCells_len]; omega
  | .nil :: r, i => by simp [layVals, layVals_len caps r, layCells_len]; omega
  | .val _ :: r, i => by simp [layVals, layVals_len caps r, layCells_len]; omega
  | .agg _ :: r, i => by simp [layVals, layVals_len caps r]

/-- No slice is longer than its room. -/
def capsL : Nat → List Value → Prop
  | 0, _ => True
  | _ + 1, [] => True
  | f + 1, .slice (some ⟨_, _, none⟩) n c :: r => n ≤ c ∧ capsL f r
  | f + 1, .agg a :: r => capsL f a.toList ∧ capsL f r
  | f + 1, _ :: r => capsL f r
theorem capsL_of : ∀ (f : Nat) {l l' : List Value}, LR ρ l l' → capsL f l
  | 0, _, _, _ => trivial
  | _ + 1, _, _, .nil => trivial
  | f + 1, v :: r, _, .cons hv ht => by
    have h2 := capsL_of f ht
    unfold capsL
    split
    · trivial
    · trivial
    · rename_i e1 e2
      injection e1 with e1; injection e2 with e2 e3; subst e1; subst e2; subst e3
      exact ⟨slice_lc hv, h2⟩
    · rename_i e1 e2
      injection e1 with e1; injection e2 with e2 e3; subst e1; subst e2; subst e3
      cases hv with
      | agg _ a' ha ra => exact ⟨capsL_of f (LR.of_arr ha ra), h2⟩
    · rename_i e1 e2
      injection e1 with e1; injection e2 with e2 e3; subst e1; subst e3
      exact h2

theorem con_introC {h : Handler} (hh : HandlerOK P h) (hmix : P.follows .mixedOrders = true) {L : AtLoop} {f : FuncId} {fn : Func} {c : Code} (hf : P.funcs[f]? = some fn) (hc : fn.body = some c) {ds rs : List D} (hcount : countV ds ≤ 400) (hsz : ds.length = fn.params.size)
    (hk : ∀ caps, capsL 40 (layVals caps 500 ds).1 → wpFn P h L 0 f (layVals caps 500 ds).1.toArray (heapOf (layVals caps 500 ds).2) (dataK (· = rs)))
    (hl : loopsOK P h L (fnSize fn) c (fnLv fn) (fnK P fn (dataK (· = rs)))) : Con P f ds rs := by
  intro w args hgood hr
  obtain ⟨caps, ρ, hst, g, ha⟩ := lay_gam hgood hr hcount
  have hsz2 : max (layVals caps 500 ds).1.toArray.size fn.ntmps = fnSize fn := by simp [fnSize, layVals_len, hsz]
  refine callsIn_wide.1 ((wpFn_run (u := 0) (b := false) hh hmix (fun _ => rfl) hf hc (hk caps (capsL_of 40 ha)) (fun _ => by rw [hsz2]; exact hl) g 0 (by simpa using ha)).mono ?_)
  rintro e w' ⟨v, H', ρ', v', hkv, rfl, hv, g', _⟩
  obtain ⟨vs, ds', u, rfl, h1, rfl⟩ := dataK_out g' hst hv hkv
  exact ⟨⟨vs, u, rfl, h1⟩, g'.below.below hst⟩
end Go.Abs

/- Loops of a function: by their bodies and what follows them. -/
namespace Go.Abs
open Go.RowKit
variable {P : Program} {ρ : Ren} {w0 : Start P} {w : World} {H : Heap} {h : Handler} {L : AtLoop} {sz : Nat}

theorem findLoop_ids : ∀ (c : Code) (l : Lv) (id : Nat) {r : Code × Lv}, findLoop c l id = some r → id ∈ loopIds c := by
  intro c
  induction c with
  | seq x y ihx ihy =>
    intro l id r hr
    simp only [findLoop] at hr
    simp only [loopIds, List.mem_append]
    rcases Option.or_eq_some_iff.1 hr with h | ⟨_, h⟩
    · exact .inl (ihx _ _ h)
    · exact .inr (ihy _ _ h)
  | cond c x y ihx ihy =>
    intro l id r hr
    simp only [findLoop] at hr
    simp only [loopIds, List.mem_append]
    rcases Option.or_eq_some_iff.1 hr with h | ⟨_, h⟩
    · exact .inl (ihx _ _ h)
    · exact .inr (ihy _ _ h)
  | block i b ih =>
    intro l id r hr
    simp only [findLoop] at hr
    simp only [loopIds]
    split at hr
    · rename_i hlp
      split at hr
      · rename_i e; simp [hlp, e]
      · cases hr
    · rename_i hlp
      rw [if_neg hlp]
      exact ih _ _ hr
  | rangeFunc f ps a b _ _ =>
    intro l id r hr
    simp only [findLoop] at hr
    split at hr
    · rename_i e; simp [loopIds, e]
    · cases hr
  | _ => intro l id r hr; simp [findLoop] at hr
theorem findLoop_some : ∀ (c : Code) (l : Lv) (id : Nat), id ∈ loopIds c → (findLoop c l id).isSome = true := by
  intro c
  induction c with
  | seq x y ihx ihy =>
    intro l id hi
    simp only [loopIds, List.mem_append] at hi
    simp only [findLoop, Option.isSome_or, Bool.or_eq_true]
    exact hi.imp (ihx _ _) (ihy _ _)
  | cond c x y ihx ihy =>
    intro l id hi
    simp only [loopIds, List.mem_append] at hi
    simp only [findLoop, Option.isSome_or, Bool.or_eq_true]
    exact hi.imp (ihx _ _) (ihy _ _)
  | block i b ih =>
    intro l id hi
    simp only [loopIds] at hi
    simp only [findLoop]
    split
    · rename_i hlp
      simp only [hlp, if_true, List.mem_singleton] at hi
      subst hi
      cases b <;> simp [isLoop] at hlp ⊢
    · rename_i hlp
      simp only [hlp] at hi
      exact ih _ _ (by simpa using hi)
  | rangeFunc f ps a b _ _ => intro l id hi; simp only [loopIds, List.mem_singleton] at hi; simp [findLoop, hi]
  | _ => intro l id hi; simp [loopIds] at hi
/-- The statement that is met at a point: a loop in its block, or a range over a function. -/
def stmtOf (id : Nat) (body : Code) : Code := if id < rbase then .block id (.loop body) else body
theorem stmt_loop {id : Nat} {body : Code} (h : id < rbase ∨ isRange body = true) (hb : loopIds body = []) : stmtOf id body = .block id (.loop body) := by
  rcases h with h | h
  · simp [stmtOf, h]
  · cases body <;> simp [isRange, loopIds] at h hb

/-- It is enough to look at each loop by its number. -/
theorem loopsOK_of : ∀ (c : Code) {l : Lv} {K : Cont}, nodupB (loopIds c) = true → (∀ id body l', findLoop c l id = some (body, l') → (id < rbase ∨ isRange body = true) → ∀ s bl, L id s bl → Holds P false sz (stmtOf id body) (actOf sz s) (heapOf bl) (fun e A H => wpAfter P h L c l id e A H K)) → loopsOK P h L sz c l K := by
  intro c
  induction c with
  | seq x y ihx ihy =>
    intro l K hn hl
    have hn' := nodupB_spec hn
    simp only [loopIds] at hn'
    obtain ⟨n1, n2, n3⟩ := List.nodup_append.1 hn'
    have toB : ∀ {l : List Nat}, l.Nodup → nodupB l = true := by
      intro l hl
      induction l with
      | nil => rfl
      | cons a l ih => simp only [List.nodup_cons] at hl; simp only [nodupB, Bool.and_eq_true, Bool.not_eq_true']; exact ⟨by simpa using hl.1, ih hl.2⟩
    refine ⟨ihx (toB n1) (fun id body l' hf hr s bl hs => ?_), ihy (toB n2) (fun id body l' hf hr s bl hs => ?_)⟩
    · have := hl id body l' (by simp only [findLoop]; rw [hf]; rfl) hr s bl hs
      simpa only [wpAfter, hf, Option.isSome_some, if_true] using this
    · have hx : findLoop x { l with normal := liveIn y l } id = none := by
        cases hx : findLoop x { l with normal := liveIn y l } id with
        | none => rfl
        | some r => exact absurd rfl (n3 id (findLoop_ids x _ id hx) id (findLoop_ids y _ id hf))
      have := hl id body l' (by simp only [findLoop]; rw [hx]; exact hf) hr s bl hs
      simpa only [wpAfter, hx, Option.isSome_none, Bool.false_eq_true, if_false] using this
  | cond c x y ihx ihy =>
    intro l K hn hl
    have hn' := nodupB_spec hn
    simp only [loopIds] at hn'
    obtain ⟨n1, n2, n3⟩ := List.nodup_append.1 hn'
    have toB : ∀ {l : List Nat}, l.Nodup → nodupB l = true := by
      intro l hl
      induction l with
      | nil => rfl
      | cons a l ih => simp only [List.nodup_cons] at hl; simp only [nodupB, Bool.and_eq_true, Bool.not_eq_true']; exact ⟨by simpa using hl.1, ih hl.2⟩
    refine ⟨ihx (toB n1) (fun id body l' hf hr s bl hs => ?_), ihy (toB n2) (fun id body l' hf hr s bl hs => ?_)⟩
    · have := hl id body l' (by simp only [findLoop]; rw [hf]; rfl) hr s bl hs
      simpa only [wpAfter, hf, Option.isSome_some, if_true] using this
    · have hx : findLoop x l id = none := by
        cases hx : findLoop x l id with
        | none => rfl
        | some r => exact absurd rfl (n3 id (findLoop_ids x _ id hx) id (findLoop_ids y _ id hf))
      have := hl id body l' (by simp only [findLoop]; rw [hx]; exact hf) hr s bl hs
      simpa only [wpAfter, hx, Option.isSome_none, Bool.false_eq_true, if_false] using this
  | block i b ih =>
    intro l K hn hl
    simp only [loopsOK]
    split
    · rename_i hlp
      intro hid s bl hs
      cases b with
      | loop body =>
        have := hl i body _ (by simp [findLoop, isLoop]; rfl) (.inl hid) s bl hs
        simpa only [wpAfter, isLoop, if_true, stmtOf, hid] using this
      | _ => simp [isLoop] at hlp
    · rename_i hlp
      refine ih (by simpa [loopIds, hlp] using hn) (fun id body l' hf hr s bl hs => ?_)
      have := hl id body l' (by simp only [findLoop]; rw [if_neg hlp]; exact hf) hr s bl hs
      simpa only [wpAfter, hlp, Bool.false_eq_true, if_false] using this
  | rangeFunc f ps a b _ _ =>
    intro l K hn hl s bl hs
    have := hl (rngId a b) (.rangeFunc f ps a b) l (by simp [findLoop]) (.inr rfl) s bl hs
    have hge : ¬ rngId a b < rbase := by unfold rngId; omega
    simpa only [wpAfter, stmtOf, hge, if_false, if_true] using this
  | _ => intro l K _ _; trivial

/-- What returns from within goes on as a return. -/
theorem wpAfter_ret : ∀ (c : Code) {l : Lv} {id : Nat} {A : AAct} {H : Heap} {K : Cont}, (findLoop c l id).isSome = true → K .ret A H → wpAfter P h L c l id .ret A H K := by
  intro c
  induction c with
  | seq x y ihx ihy =>
    intro l id A H K hf hk
    simp only [wpAfter]
    split
    · rename_i hx; exact ihx hx hk
    · rename_i hx
      refine ihy ?_ hk
      simp only [findLoop, Option.isSome_or, Bool.or_eq_true] at hf
      exact hf.resolve_left hx
  | cond c x y ihx ihy =>
    intro l id A H K hf hk
    simp only [wpAfter]
    split
    · rename_i hx; exact ihx hx hk
    · rename_i hx
      refine ihy ?_ hk
      simp only [findLoop, Option.isSome_or, Bool.or_eq_true] at hf
      exact hf.resolve_left hx
  | block i b ih =>
    intro l id A H K hf hk
    simp only [wpAfter]
    simp only [findLoop] at hf
    split
    · rename_i hlp
      simp only [hlp, if_true] at hf
      split
      · exact hk
      · rename_i hi; simp [hi] at hf
    · rename_i hlp
      simp only [hlp] at hf
      exact ih (by simpa using hf) hk
  | rangeFunc f ps a b _ _ =>
    intro l id A H K hf hk
    simp only [findLoop] at hf
    simp only [wpAfter]
    split at hf
    · rename_i e; rw [if_pos e]; exact hk
    · cases hf
  | _ => intro l id A H K hf; simp [findLoop] at hf

/-- THE RULE OF A LOOP. st: its states, inv: what is known of them, m: what becomes less. -/
theorem loop_rule (hh : HandlerOK P h) (hmix : P.follows .mixedOrders = true) {X : Type} (st : X → Slots × Blocks) (inv : X → Prop) (m : X → Nat) {id : Nat} {body : Code} {l' : Lv} {k : Cont} {R : Cont}
    (hin : loopIds body = [])
    (hb : ∀ x, inv x → wpT P h L 0 body l' (actOf sz (st x).1) (heapOf (st x).2) (roundK body l' (fun s b => ∃ y, inv y ∧ m y < m x ∧ st y = (s, b)) (fun i s b => if i = id then k .normal (actOf sz s) (heapOf b) else k (.exit i) (actOf sz s) (heapOf b)) R))
    (hR : ∀ e A H, (e = .ret) → R e A H → k e A H) (hR2 : ∀ e A H, e ≠ .ret → e ≠ .normal → ¬ R e A H) :
    ∀ x, inv x → Holds P false sz (.block id (.loop body)) (actOf sz (st x).1) (heapOf (st x).2) k := by
  have lo : ∀ {K : Cont}, loopsOK P h L sz body l' K := fun {K} => loopsOK_of body (by rw [hin]; rfl) (fun i b l2 hf => by have := findLoop_ids _ _ _ hf; rw [hin] at this; cases this)
  have key : ∀ (N : Nat) (x : X), m x < N → inv x → ∀ (w0 : Start P) (ρ : Ren) (w : World) (a : Act) (n : Nat), Gam w0 ρ (heapOf (st x).2) w → ActR ρ (actOf sz (st x).1) a →
      body.wpIn (Fr none) n P (Exit.then (LoopIn body (Fr none) n P (fun e a w => ∀ (ρ0 : Ren) (H0 : Heap), Post w0 ρ0 H0 false sz (fun e A H => match e with | .exit i => if i = id then k .normal A H else k (.exit i) A H | e => k e A H) e a w)) (fun e a w => ∀ (ρ0 : Ren) (H0 : Heap), Post w0 ρ0 H0 false sz (fun e A H => match e with | .exit i => if i = id then k .normal A H else k (.exit i) A H | e => k e A H) e a w)) a w := by
    intro N
    induction N with
    | zero => intro x hx; omega
    | succ N ih =>
      intro x hx hinv w0 ρ w a n g ra
      refine wpIn_mono (wpT_sound hh hmix (b := false) (fun _ => rfl) body (hb x hinv) (fun _ => lo) w0 ρ w a n g ra rfl) ?_
      rintro e a1 w1 ⟨A1, H1, ρ1, k1, s1, ra1, g1, _⟩
      cases e with
      | normal =>
        simp only [roundK] at k1
        obtain ⟨hgood, y, hy, hlt, he⟩ := bcase_out k1
        obtain ⟨g2, ra2⟩ := gc_sub g1 ra1 (keep := _) hgood
        have e1 : (st y).1 = _ := congrArg Prod.fst he
        have e2 : (st y).2 = _ := congrArg Prod.snd he
        exact loopIn_once (ih y (by omega) hy w0 _ w1 a1 n (by rw [e2]; exact g2) (by rw [e1, ← s1]; exact ra2))
      | exit i =>
        simp only [roundK] at k1
        obtain ⟨hgood, k1⟩ := bcase_out k1
        obtain ⟨g2, ra2⟩ := gc_sub g1 ra1 (keep := _) hgood
        intro ρ0 H0
        refine ⟨_, _, _, k1, ?_, by rw [← s1]; exact ra2, g2, fun h => by cases h⟩
        rfl
      | ret =>
        intro ρ0 H0
        exact ⟨A1, H1, ρ1, hR _ _ _ rfl k1, s1, ra1, g1, fun h => by cases h⟩
      | goto t => exact absurd k1 (hR2 _ _ _ (by simp) (by simp))
      | panic ch => exact absurd k1 (hR2 _ _ _ (by simp) (by simp))
      | outgrown => exact absurd k1 (hR2 _ _ _ (by simp) (by simp))
  intro x hinv w0 ρ w a n g ra hs
  refine wpIn_block (wpIn_mono (wpIn_loop_once (key _ x (Nat.lt_succ_self _) hinv w0 ρ w a n g ra)) ?_)
  intro e a1 w1 hp
  obtain ⟨A1, H1, ρ1, k1, s1, ra1, g1, _⟩ := hp ρ (heapOf (st x).2)
  cases e with
  | exit i =>
    simp only at k1
    by_cases hi : i = id
    · simp only [hi, if_true] at k1
      simp only [Exit.inBlock, hi, if_true]
      exact ⟨A1, H1, ρ1, k1, s1, ra1, g1, fun h => by cases h⟩
    · simp only [hi, if_false] at k1
      simp only [Exit.inBlock, hi, if_false]
      exact ⟨A1, H1, ρ1, k1, s1, ra1, g1, fun h => by cases h⟩
  | _ => exact ⟨A1, H1, ρ1, k1, s1, ra1, g1, fun h => by cases h⟩

/-- A loop of a function, with its states, what is known of them, and what becomes less. -/
structure LoopGood (P : Program) (h : Handler) (L : AtLoop) (f : FuncId) (c : Code) (lv : Lv) (id : Nat) (k : List D → Prop) (X : Type) (st : X → Slots × Blocks) (inv : X → Prop) (m : X → Nat) : Prop where
  head : ∀ s b, L id s b → ∃ x, inv x ∧ st x = (s, b)
  flat : ((findLoop c lv id).map fun r => loopIds r.1) = some []
  round : ∀ x, inv x → wpRound P h L f id (st x).1 (st x).2 (fun s b => ∃ y, inv y ∧ m y < m x ∧ st y = (s, b))
    (fun i s b => if i = id then wpNext P h L f id .normal s b (dataK k) else wpNext P h L f id (.exit i) s b (dataK k)) (dataK k)

/-- A FUNCTION IS PROVED: by what is left to show of its entry and of its loops. -/
theorem con_ofC (hh : HandlerOK P h) (hmix : P.follows .mixedOrders = true) {L : AtLoop} {f : FuncId} {fn : Func} {c : Code} (hf : P.funcs[f]? = some fn) (hc : fn.body = some c) {ds rs : List D} (hcount : countV ds ≤ 400) (hsz : ds.length = fn.params.size) {ids : List Nat} (hids : loopIds c = ids) (hn : nodupB ids = true)
    (hk : ∀ caps, capsL 40 (layVals caps 500 ds).1 → wpFn P h L 0 f (layVals caps 500 ds).1.toArray (heapOf (layVals caps 500 ds).2) (dataK (· = rs)))
    (hl : ∀ id ∈ ids, ∃ X st inv m, LoopGood P h L f c (fnLv fn) id (· = rs) X st inv m) : Con P f ds rs := by
  subst hids
  refine con_introC hh hmix hf hc hcount hsz hk (loopsOK_of c hn ?_)
  intro id body l' hfl hr s bl hs
  obtain ⟨X, st, inv, m, hg⟩ := hl id (findLoop_ids c _ id hfl)
  obtain ⟨x, hx, he⟩ := hg.head s bl hs
  have e1 : (st x).1 = s := congrArg Prod.fst he
  have e2 : (st x).2 = bl := congrArg Prod.snd he
  have hin : loopIds body = [] := by have := hg.flat; rw [hfl] at this; simpa using this
  rw [stmt_loop hr hin]
  have := loop_rule (P := P) (h := h) (L := L) (sz := fnSize fn) hh hmix st inv m (id := id) (body := body) (l' := l') (k := fun e A H => wpAfter P h L c (fnLv fn) id e A H (fnK P fn (dataK (· = rs)))) (R := fnK P fn (dataK (· = rs))) hin
    (fun x hx => by
      have := hg.round x hx
      unfold wpRound at this
      simp only [hf, hc, hfl] at this
      have e : ∀ i s b, (if i = id then wpNext P h L f id .normal s b (dataK (· = rs)) else wpNext P h L f id (.exit i) s b (dataK (· = rs))) = (if i = id then wpAfter P h L c (fnLv fn) id .normal (actOf (fnSize fn) s) (heapOf b) (fnK P fn (dataK (· = rs))) else wpAfter P h L c (fnLv fn) id (.exit i) (actOf (fnSize fn) s) (heapOf b) (fnK P fn (dataK (· = rs)))) := by
        intro i s b
        simp only [wpNext, hf, hc]
      simpa only [e] using this)
    (fun e A H he hR => by subst he; exact wpAfter_ret c (by rw [hfl]; rfl) hR)
    (fun e A H h1 h2 hR => by cases e <;> first | exact h1 rfl | exact h2 rfl | exact hR)
    x hx
  rw [e1, e2] at this
  exact this
theorem con_of (hh : HandlerOK P h) (hmix : P.follows .mixedOrders = true) {L : AtLoop} {f : FuncId} {fn : Func} {c : Code} (hf : P.funcs[f]? = some fn) (hc : fn.body = some c) {ds rs : List D} (hcount : countV ds ≤ 400) (hsz : ds.length = fn.params.size) {ids : List Nat} (hids : loopIds c = ids) (hn : nodupB ids = true)
    (hk : ∀ caps, wpFn P h L 0 f (layVals caps 500 ds).1.toArray (heapOf (layVals caps 500 ds).2) (dataK (· = rs)))
    (hl : ∀ id ∈ ids, ∃ X st inv m, LoopGood P h L f c (fnLv fn) id (· = rs) X st inv m) : Con P f ds rs :=
  con_ofC hh hmix hf hc hcount hsz hids hn (fun caps _ => hk caps) hl
/-- A function without loops. -/
theorem con_flat (hh : HandlerOK P h) (hmix : P.follows .mixedOrders = true) {f : FuncId} {fn : Func} {c : Code} (hf : P.funcs[f]? = some fn) (hc : fn.body = some c) {ds rs : List D} (hcount : countV ds ≤ 400) (hsz : ds.length = fn.params.size) (hn : loopIds c = [])
    (hk : ∀ caps, wpFn P h (fun _ _ _ => False) 0 f (layVals caps 500 ds).1.toArray (heapOf (layVals caps 500 ds).2) (dataK (· = rs))) : Con P f ds rs :=
  con_of hh hmix hf hc hcount hsz hn rfl hk (fun id hid => by cases hid)
end Go.Abs

/- Small laws for the use of texts. -/
namespace Go.Abs
theorem bc_dec {p : Prop} [Decidable p] {x y : Prop} (h1 : p → x) (h2 : ¬ p → y) : bcase (decide p) x y := bcase_intro (fun h => h1 (of_decide_eq_true h)) (fun h => h2 (of_decide_eq_false h))
theorem bc_yes {p : Prop} [Decidable p] {x y : Prop} (h : p) (hx : x) : bcase (decide p) x y := bc_dec (fun _ => hx) (fun n => absurd h n)
theorem bc_no {p : Prop} [Decidable p] {x y : Prop} (h : ¬ p) (hy : y) : bcase (decide p) x y := bc_dec (fun n => absurd n h) (fun _ => hy)
theorem bc_beq {α : Type} [BEq α] [LawfulBEq α] {a b : α} {x y : Prop} (h1 : a = b → x) (h2 : a ≠ b → y) : bcase (a == b) x y := bcase_intro (fun h => h1 (eq_of_beq h)) (fun h => h2 (by simpa using h))
theorem bc_bne {α : Type} [BEq α] [LawfulBEq α] {a b : α} {x y : Prop} (h1 : a ≠ b → x) (h2 : a = b → y) : bcase (a != b) x y := bcase_intro (fun h => h1 (by simpa using h)) (fun h => h2 (by simpa using h))
theorem w64 {z : Int} (h1 : -9223372036854775808 ≤ z) (h2 : z ≤ 9223372036854775807) : IntKind.wrap .i64 z = z := by
  exact IntWalk.i64_in z ⟨h1, h2⟩
/-- whole numbers as cells -/
def vi (l : List Int) : List Value := l.map (Value.int .i64)
@[simp] theorem vi_length (l : List Int) : (vi l).length = l.length := by simp [vi]
theorem vi_at (l : List Int) (i : Nat) (h : i < l.length) : At (vi l) (0 + i * 1) 1 [.int .i64 l[i]] := by
  refine ⟨by simp; omega, ?_⟩
  apply List.ext_getElem?
  intro j
  cases j with
  | zero => simp [vi, h]
  | succ j => simp; omega
theorem vi_whole (l : List Int) : List.take (l.length * 1) (List.drop 0 (vi l)) = vi l := by simp [List.take_of_length_le]
end Go.Abs

/- A law's frame: what is read stays read; what a contract gives is the row's outcome. -/
namespace Go.Abs
open Go.RowKit Go.ChangeShapes Go.WideShapes Go.ChangeAt
variable {H : Type} {enc : TypeId × Value → H} {P : Program} {W W' : World}

theorem same_below (hb : Below W.heap.size W W') {p : MemPlace} (hp : p.block < W.heap.size) : W.sameAt W' p := by
  cases p with
  | cell b o =>
    have : W'.heap[b]? = W.heap[b]? := hb.block b hp
    simp only [World.sameAt, World.cell?, this]
  | map b => exact hb.block b hp
theorem trodAll_back {T : TypeId → Prop} {sp : Nat → Bool} (K : Kids P T) (hz : ∀ t e, T t → P.underlying t = some (.slice e) → 0 < P.cellsOf e) : ∀ {ts : List TypeId} {vs : List Value} {ds : List (DataW H)} {ps : List MemPlace},
    (∀ t ∈ ts, T t) → DataW.TrodAll enc P W 0 (fun _ => true) true ts vs ds ps → (∀ p ∈ ps, W.sameAt W' p) → (∀ p ∈ ps, sp p.block = true) → DataW.TrodAll enc P W' 0 sp true ts vs ds ps
  | [], [], [], _, _, h, _, _ => h
  | _ :: _, _ :: _, _ :: _, _, hT, ⟨p, q, ⟨n, h1⟩, h2, e⟩, hs, hq =>
    ⟨p, q, ⟨n, DataW.trod_respare K hz n _ _ _ (hT _ (List.mem_cons_self ..)) (DataW.trod_carry n _ _ _ h1 (fun x hx => hs x (by rw [e]; exact List.mem_append_left _ hx))) (fun x hx => hq x (by rw [e]; exact List.mem_append_left _ hx))⟩,
      trodAll_back K hz (fun t ht => hT t (List.mem_cons_of_mem _ ht)) h2 (fun x hx => hs x (by rw [e]; exact List.mem_append_right _ hx)) (fun x hx => hq x (by rw [e]; exact List.mem_append_right _ hx)), e⟩

/-- THE FRAME OF A LAW that is known by its contract. -/
theorem law_frame {f : FuncId} {fn : Func} {s : ChangeSpec} {args : Array Value} {ds gs : List (DataW H)} {before : List MemPlace} {tb : TypeId} {rds : List D}
    (hlaid : laidOutB P = true) (hmaps : mapsRowed P = true) (hz : ∀ t e, t < P.types.size → P.underlying t = some (.slice e) → 0 < P.cellsOf e) (hts : ∀ t ∈ fn.params.toList, t < P.types.size)
    (hrt : fn.resultTypes = #[tb]) (hbool : P.underlying tb = some .bool) (hv : s.vars = [])
    (hres : (s.fn H (ds ++ gs)).results = [.lit (.bool true)]) (hargs : (s.fn H (ds ++ gs)).args = ds) (hvr : (s.fn H (ds ++ gs)).vars = [])
    (hW : DataW.Whole enc P fn.params.toList s.vars false W args.toList ds gs before)
    (hgood : GoodW P W) (hr : ReadsL W rds args.toList) (hc : Con P f rds [.val (.bool true)]) :
    Calls P f args W fun e W' => ∃ v, e = .returned v ∧ s.post enc P fn false true false false W args v W' := by
  have hW' := hW
  obtain ⟨p, q, hA, hV, rfl, hfz, hnd⟩ := hW
  rw [hv] at hV
  obtain ⟨rfl, rfl⟩ := trodVars_none hV
  refine (hc W args hgood hr).mono ?_
  rintro e W' ⟨⟨vs, u, rfl, hg⟩, hb⟩
  have hvs : vs = [.bool true] := by
    cases hg with
    | cons h t => cases t; cases h; rfl
  subst hvs
  refine ⟨.bool true, rfl, Flat.post_of_below (pa := p) (pv := []) hW' (fun b sp hd => ?_) (fun sp hsp => ?_) (fun sp _ => ?_) rfl hb ?_⟩
  · rw [hres, hrt]
    exact trodAll_cons_mk (shut_bool hbool _) trodAll_mk0
  · rw [hargs]
    have hlt : ∀ x ∈ p ++ [], x.block < W.heap.size := fun x hx => hW'.lt x hx
    exact trodAll_back (kids_rows hlaid hmaps) hz hts hA (fun x hx => same_below hb (hlt x (by simpa using hx))) (fun x hx => hsp x (by simpa using hx))
  · rw [hv, hvr]; exact rfl
  · intro j t r h1 h2
    rw [hrt] at h1 h2
    cases j with
    | zero =>
      simp at h1 h2
      subst h1
      have : r = .bool true := by simpa [Value.resultList] using h2.symm
      subst this
      exact okWide_bool_mk hbool _
    | succ j => simp at h1
end Go.Abs

/- What is handed to a law reads as data. -/
namespace Go.Abs
open Go.RowKit Go.ChangeShapes Go.WideShapes Go.ChangeAt
variable {H : Type} {enc : TypeId × Value → H} {P : Program} {W : World}

theorem rowAt_le {fits : TypeId → Bool} : ∀ (d : Nat) {e : TypeId} {count off n : Nat}, rowAt P fits d e count off n = true → off ≤ count * P.cellsOf e
  | 0, _, _, _, _, h => by simp [rowAt] at h
  | d + 1, e, count, off, n, h => by
    unfold rowAt at h
    simp only at h
    split at h
    · cases h
    · rename_i hs
      simp only [Bool.or_eq_true, Bool.and_eq_true, beq_iff_eq, decide_eq_true_eq] at h
      have hdm := Nat.div_add_mod off (P.cellsOf e)
      rcases h with ⟨⟨h1, h2⟩, _⟩ | ⟨h1, _⟩
      · rw [h1, Nat.add_zero] at hdm
        rw [← hdm, Nat.mul_comm]
        exact Nat.mul_le_mul_right _ (by omega)
      · have hlt := Nat.mod_lt off (Nat.pos_of_ne_zero hs)
        have : P.cellsOf e * (off / P.cellsOf e + 1) ≤ P.cellsOf e * count := Nat.mul_le_mul_left _ h1
        rw [Nat.mul_add, Nat.mul_one] at this
        rw [Nat.mul_comm count]
        omega
theorem liesAt_le : ∀ (d : Nat) {e : TypeId} {count off : Nat} {u : TypeId} {n : Nat}, liesAt P d e count off u n = true → off ≤ count * P.cellsOf e
  | 0, _, _, _, _, _, h => by simp [liesAt] at h
  | d + 1, e, count, off, u, n, h => by
    unfold liesAt at h
    simp only [Bool.or_eq_true] at h
    rcases h with h | h
    · exact rowAt_le _ h
    · split at h
      · exact liesAt_le d h
      · cases h
theorem has_block {r : Reach} {base : Nat} {a : Addr} {e : TypeId} {n : Nat} (h : W.has P r base a e n) : ∃ b o, a = ⟨b, o, none⟩ ∧ ∃ c ty fz, W.heap[b]? = some (.cells c ty fz) ∧ o ≤ c.size := by
  obtain ⟨_, hsp, row, cells, hsh, hl⟩ := h
  obtain ⟨b, o, sp⟩ := a
  simp only at hsp
  subst hsp
  refine ⟨b, o, rfl, ?_⟩
  have hle := liesAt_le _ hl
  have hmul : cells / P.cellsOf row * P.cellsOf row ≤ cells := Nat.div_mul_le_self _ _
  unfold World.shape? at hsh
  simp only at hsh
  split at hsh
  · rename_i c ty fz hb
    simp only [Option.some.injEq, Prod.mk.injEq] at hsh
    obtain ⟨_, rfl⟩ := hsh
    exact ⟨c, ty, fz, hb, Nat.le_trans hle hmul⟩
  all_goals cases hsh

end Go.Abs

/- Arguments that hold no address (numbers, bools, strings, structs and arrays of these): they read alike in whatever world, and their cells are what their type says. -/
namespace Go.Flat
variable {H : Type} {enc : TypeId × Value → H} {P : Program}

inductive Leaf where
  | bool
  | int (k : IntKind)
  | str
  deriving DecidableEq

def Leaf.ok : Leaf → Value → Prop
  | .bool, v => ∃ b, v = .bool b
  | .int k, v => ∃ n, v = .int k n ∧ (Lit.int k n).wf = true
  | .str, v => ∃ s : ByteArray, v = .string s ∧ s.size ≤ maxLen

/-- The leaves of a type that holds no address; none: it may hold one, or its cells don't lie one behind the other. -/
def leaves (P : Program) : Nat → TypeId → Option (List Leaf)
  | 0, _ => none
  | n + 1, t =>
    match P.underlying t with
    | some .bool => some [.bool]
    | some (.int k) => some [.int k]
    | some .string => some [.str]
    | some (.struct fs) =>
      fs.toList.foldl (init := some []) fun acc f =>
        match acc, leaves P n f.type with
        | some l, some m => if f.offset = l.length ∧ P.cellsOf f.type = m.length then some (l ++ m) else none
        | _, _ => none
    | _ => none

theorem fold_none (n : Nat) (fs : List Field) : fs.foldl (init := (none : Option (List Leaf))) (fun acc f => match acc, leaves P n f.type with | some l, some m => if f.offset = l.length ∧ P.cellsOf f.type = m.length then some (l ++ m) else none | _, _ => none) = none := by
  induction fs with
  | nil => rfl
  | cons f fs ih => simpa using ih

theorem fold_mem (n : Nat) : ∀ (fs : List Field) (l0 l : List Leaf), fs.foldl (init := some l0) (fun acc f => match acc, leaves P n f.type with | some l, some m => if f.offset = l.length ∧ P.cellsOf f.type = m.length then some (l ++ m) else none | _, _ => none) = some l →
    ∀ f ∈ fs, ∃ m, leaves P n f.type = some m ∧ P.cellsOf f.type = m.length
  | [], _, _, _, f, hf => by cases hf
  | g :: fs, l0, l, h, f, hf => by
    simp only [List.foldl_cons] at h
    cases hg : leaves P n g.type with
    | none => simp only [hg] at h; rw [fold_none] at h; cases h
    | some m =>
      simp only [hg] at h
      split at h
      · rename_i hc
        rcases List.mem_cons.1 hf with rfl | hf
        · exact ⟨m, hg, hc.2⟩
        · exact fold_mem n fs _ _ h f hf
      · rw [fold_none] at h; cases h

theorem mapM_same {α β : Type} {f g : α → Option β} : ∀ (l : List α), (∀ x ∈ l, f x = g x) → l.mapM f = l.mapM g
  | [], _ => rfl
  | x :: l, h => by
    simp only [List.mapM_cons]
    rw [h x (List.mem_cons_self ..), mapM_same l (fun y hy => h y (List.mem_cons_of_mem _ hy))]

/-- The reading does not depend on the world. -/
theorem trod_same (w w' : World) (base base' : Nat) (sp sp' : Nat → Bool) (held held' : Bool) : ∀ (n : Nat) (t : TypeId) {l : List Leaf}, leaves P n t = some l → ∀ (fuel : Nat) (cs : List Value),
    DataW.trod enc P w base sp held fuel t cs = DataW.trod enc P w' base' sp' held' fuel t cs
  | 0, t, l, h => by simp [leaves] at h
  | n + 1, t, l, h => by
    intro fuel cs
    cases fuel with
    | zero => rfl
    | succ fuel =>
      unfold leaves at h
      unfold DataW.trod
      cases hu : P.underlying t with
      | none => simp [hu] at h
      | some u =>
        cases u with
        | struct fs =>
          simp only [hu] at h
          have hm := fold_mem n _ _ _ h
          have e : (fs.toList.mapM fun f => DataW.trod enc P w base sp held fuel f.type ((cs.drop f.offset).take (P.cellsOf f.type))) = fs.toList.mapM fun f => DataW.trod enc P w' base' sp' held' fuel f.type ((cs.drop f.offset).take (P.cellsOf f.type)) :=
            mapM_same _ (fun f hf => let ⟨m, h, _⟩ := hm f hf; trod_same w w' base base' sp sp' held held' n f.type h fuel _)
          simp only [e]
        | bool => rcases cs with _ | ⟨c, _ | ⟨c2, cs⟩⟩ <;> (try cases c) <;> rfl
        | int k => rcases cs with _ | ⟨c, _ | ⟨c2, cs⟩⟩ <;> (try cases c) <;> rfl
        | string => rcases cs with _ | ⟨c, _ | ⟨c2, cs⟩⟩ <;> (try cases c) <;> rfl
        | _ => simp [hu] at h

/-- It names no place. -/
theorem trod_places {w : World} {base : Nat} {sp : Nat → Bool} {held : Bool} : ∀ (n : Nat) (t : TypeId) {l : List Leaf}, leaves P n t = some l → ∀ (fuel : Nat) (cs : List Value) {x : DataW H × List MemPlace},
    DataW.trod enc P w base sp held fuel t cs = some x → x.2 = []
  | 0, t, l, h => by simp [leaves] at h
  | n + 1, t, l, h => by
    intro fuel cs x hx
    cases fuel with
    | zero => simp [DataW.trod] at hx
    | succ fuel =>
      unfold leaves at h
      have hx0 := hx
      unfold DataW.trod at hx
      cases hu : P.underlying t with
      | none => simp [hu] at h
      | some u =>
        cases u with
        | struct fs =>
          simp only [hu] at h
          have hm := fold_mem n _ _ _ h
          obtain ⟨xs, m, _, rfl, _, hl, hall⟩ := DataW.trod_struct hu hx0
          simp only [List.flatMap_eq_nil_iff]
          intro y hy
          obtain ⟨i, hi, rfl⟩ := List.mem_iff_getElem.1 hy
          have hf : fs[i]? = some fs[i] := by simp
          have := hall i _ hf
          obtain ⟨l', hl', _⟩ := hm fs[i] (by simp)
          exact trod_places n fs[i].type hl' _ _ (this.trans (by simp [hi]))
        | bool => simp only [hu] at hx; split at hx <;> simp_all <;> (subst hx; rfl)
        | int k => simp only [hu] at hx; split at hx <;> simp_all <;> (obtain ⟨_, rfl⟩ := hx; rfl)
        | string => simp only [hu] at hx; split at hx <;> simp_all <;> (obtain ⟨_, rfl⟩ := hx; rfl)
        | _ => simp [hu] at h

theorem Trod.keep {w : World} {base : Nat} {sp : Nat → Bool} {held : Bool} {n : Nat} {t : TypeId} {l : List Leaf} {v : Value} {d : DataW H} {p : List MemPlace} (h : leaves P n t = some l) (r : DataW.Trod enc P w base sp held t v d p) :
    p = [] ∧ ∀ (w' : World) (base' : Nat) (sp' : Nat → Bool) (held' : Bool), DataW.Trod enc P w' base' sp' held' t v d [] := by
  obtain ⟨fuel, hr⟩ := r
  have hp : p = [] := trod_places n t h fuel _ hr
  subst hp
  exact ⟨rfl, fun w' base' sp' held' => ⟨fuel, by rw [← trod_same w w' base base' sp sp' held held' n t h]; exact hr⟩⟩

inductive Oks : List Leaf → List Value → Prop
  | nil : Oks [] []
  | cons {l : Leaf} {v : Value} {ls : List Leaf} {vs : List Value} (h : l.ok v) (t : Oks ls vs) : Oks (l :: ls) (v :: vs)
theorem Oks.append {a b : List Leaf} {x y : List Value} (h : Oks a x) (k : Oks b y) : Oks (a ++ b) (x ++ y) := by
  induction h with
  | nil => exact k
  | cons h _ ih => exact .cons h ih
theorem Oks.length {a : List Leaf} {x : List Value} (h : Oks a x) : a.length = x.length := by induction h <;> simp_all

theorem fold_ok (n : Nat) (cs : List Value) : ∀ (fs : List Field) (l0 l : List Leaf), fs.foldl (init := some l0) (fun acc f => match acc, leaves P n f.type with | some l, some m => if f.offset = l.length ∧ P.cellsOf f.type = m.length then some (l ++ m) else none | _, _ => none) = some l →
    (∀ f ∈ fs, ∀ m, leaves P n f.type = some m → Oks m ((cs.drop f.offset).take (P.cellsOf f.type))) → Oks l0 (cs.take l0.length) → Oks l (cs.take l.length)
  | [], l0, l, h, _, h0 => by simp at h; subst h; exact h0
  | f :: fs, l0, l, h, hf, h0 => by
    simp only [List.foldl_cons] at h
    cases hg : leaves P n f.type with
    | none => simp only [hg] at h; rw [fold_none] at h; cases h
    | some m =>
      simp only [hg] at h
      split at h
      · rename_i hc
        have hm := hf f (List.mem_cons_self ..) m hg
        rw [hc.1, hc.2] at hm
        refine fold_ok n cs fs _ _ h (fun g hg' => hf g (List.mem_cons_of_mem _ hg')) ?_
        rw [List.length_append, List.take_add]
        exact h0.append hm
      · rw [fold_none] at h; cases h

/-- Each cell is what its type says. -/
theorem trod_oks {w : World} {base : Nat} {sp : Nat → Bool} {held : Bool} : ∀ (n : Nat) (t : TypeId) {l : List Leaf}, leaves P n t = some l → ∀ (fuel : Nat) (cs : List Value) {x : DataW H × List MemPlace},
    DataW.trod enc P w base sp held fuel t cs = some x → Oks l (cs.take l.length)
  | 0, t, l, h => by simp [leaves] at h
  | n + 1, t, l, h => by
    intro fuel cs x hx
    cases fuel with
    | zero => simp [DataW.trod] at hx
    | succ fuel =>
      unfold leaves at h
      have hx0 := hx
      unfold DataW.trod at hx
      cases hu : P.underlying t with
      | none => simp [hu] at h
      | some u =>
        cases u with
        | struct fs =>
          simp only [hu] at h
          obtain ⟨xs, m, _, rfl, _, hl, hall⟩ := DataW.trod_struct hu hx0
          refine fold_ok n cs fs.toList [] l h ?_ .nil
          intro f hf lm hm
          obtain ⟨i, hi, rfl⟩ := List.mem_iff_getElem.1 hf
          have hi' : i < fs.size := by simpa using hi
          have := hall i fs[i] (by simp [hi'])
          have hxi : i < xs.length := by omega
          have hok := trod_oks n _ hm _ _ (this.trans (by simp [hxi]) : _ = some xs[i])
          obtain ⟨m', hm', hc⟩ := fold_mem n _ _ _ h fs[i] (by simp)
          have hmm : leaves P n fs[i].type = some lm := by simpa using hm
          rw [hmm] at hm'
          cases hm'
          simp only [Array.getElem_toList, hc]
          simpa [hc, List.take_take] using hok
        | bool =>
          simp only [hu, Option.some.injEq] at h hx
          subst h
          rcases cs with _ | ⟨c, _ | ⟨c2, cs⟩⟩ <;> (try cases c) <;> simp_all
          exact .cons ⟨_, rfl⟩ .nil
        | int k =>
          simp only [hu, Option.some.injEq] at h hx
          subst h
          rcases cs with _ | ⟨c, _ | ⟨c2, cs⟩⟩ <;> (try cases c) <;> simp_all
          obtain ⟨⟨rfl, hw⟩, _⟩ := hx
          exact .cons ⟨_, rfl, hw⟩ .nil
        | string =>
          simp only [hu, Option.some.injEq] at h hx
          subst h
          rcases cs with _ | ⟨c, _ | ⟨c2, cs⟩⟩ <;> (try cases c) <;> simp_all
          exact .cons ⟨_, rfl, hx.1⟩ .nil
        | _ => simp [hu] at h

end Go.Flat

/- A law's arguments read as data, whatever their types are: numbers, bools, strings, lists of flat structs, structs of all these. -/
namespace Go.Abs
open Go.RowKit Go.ChangeShapes Go.WideShapes Go.ChangeAt Go.Flat
variable {H : Type} {enc : TypeId × Value → H} {P : Program} {W : World}
/-- the types of the cells of a type, one behind the other -/
def cellsT (P : Program) : Nat → TypeId → Option (List TypeId)
  | 0, _ => none
  | n + 1, t =>
    match P.underlying t with
    | some .bool => some [t]
    | some (.int _) => some [t]
    | some .string => some [t]
    | some (.slice _) => some [t]
    | some (.struct fs) =>
      fs.toList.foldl (init := some []) fun acc f =>
        match acc, cellsT P n f.type with
        | some l, some m => if f.offset = l.length ∧ P.cellsOf f.type = m.length then some (l ++ m) else none
        | _, _ => none
    | some (.array k e) => match cellsT P n e with
      | some m => if P.cellsOf e = m.length then some (List.replicate k m).flatten else none
      | none => none
    | _ => none
inductive Each (R : TypeId → Value → Prop) : List TypeId → List Value → Prop
  | nil : Each R [] []
  | cons {u : TypeId} {v : Value} {us : List TypeId} {vs : List Value} (h : R u v) (t : Each R us vs) : Each R (u :: us) (v :: vs)
theorem Each.append {R : TypeId → Value → Prop} {a b : List TypeId} {x y : List Value} (h : Each R a x) (k : Each R b y) : Each R (a ++ b) (x ++ y) := by
  induction h with
  | nil => exact k
  | cons h _ ih => exact .cons h ih
theorem foldT_none (n : Nat) (fs : List Field) : fs.foldl (init := (none : Option (List TypeId))) (fun acc f => match acc, cellsT P n f.type with | some l, some m => if f.offset = l.length ∧ P.cellsOf f.type = m.length then some (l ++ m) else none | _, _ => none) = none := by
  induction fs with
  | nil => rfl
  | cons f fs ih => simpa using ih
theorem foldT_mem (n : Nat) : ∀ (fs : List Field) (l0 l : List TypeId), fs.foldl (init := some l0) (fun acc f => match acc, cellsT P n f.type with | some l, some m => if f.offset = l.length ∧ P.cellsOf f.type = m.length then some (l ++ m) else none | _, _ => none) = some l →
    ∀ f ∈ fs, ∃ m, cellsT P n f.type = some m ∧ P.cellsOf f.type = m.length
  | [], _, _, _, f, hf => by cases hf
  | g :: fs, l0, l, h, f, hf => by
    simp only [List.foldl_cons] at h
    cases hg : cellsT P n g.type with
    | none => simp only [hg] at h; rw [foldT_none] at h; cases h
    | some m =>
      simp only [hg] at h
      split at h
      · rename_i hc
        rcases List.mem_cons.1 hf with rfl | hf
        · exact ⟨m, hg, hc.2⟩
        · exact foldT_mem n fs _ _ h f hf
      · rw [foldT_none] at h; cases h
theorem foldT_each {R : TypeId → Value → Prop} (n : Nat) (cs : List Value) : ∀ (fs : List Field) (l0 l : List TypeId), fs.foldl (init := some l0) (fun acc f => match acc, cellsT P n f.type with | some l, some m => if f.offset = l.length ∧ P.cellsOf f.type = m.length then some (l ++ m) else none | _, _ => none) = some l →
    (∀ f ∈ fs, ∀ m, cellsT P n f.type = some m → Each R m ((cs.drop f.offset).take (P.cellsOf f.type))) → Each R l0 (cs.take l0.length) → Each R l (cs.take l.length)
  | [], l0, l, h, _, h0 => by simp at h; subst h; exact h0
  | f :: fs, l0, l, h, hf, h0 => by
    simp only [List.foldl_cons] at h
    cases hg : cellsT P n f.type with
    | none => simp only [hg] at h; rw [foldT_none] at h; cases h
    | some m =>
      simp only [hg] at h
      split at h
      · rename_i hc
        have hm := hf f (List.mem_cons_self ..) m hg
        rw [hc.1, hc.2] at hm
        refine foldT_each n cs fs _ _ h (fun g hg' => hf g (List.mem_cons_of_mem _ hg')) ?_
        rw [List.length_append, List.take_add]
        exact h0.append hm
      · rw [foldT_none] at h; cases h
theorem each_rep {R : TypeId → Value → Prop} {m : List TypeId} {cs : List Value} : ∀ k : Nat, (∀ i, i < k → Each R m ((cs.drop (i * m.length)).take m.length)) → Each R (List.replicate k m).flatten (cs.take (List.replicate k m).flatten.length)
  | 0, _ => by simpa using Each.nil
  | k + 1, h => by
    have h1 := each_rep k (fun i hi => h i (by omega))
    have h2 := h k (by omega)
    have hl : (List.replicate k m).flatten.length = k * m.length := by simp
    have e : (List.replicate (k + 1) m).flatten = (List.replicate k m).flatten ++ m := by
      rw [show k + 1 = k + 1 from rfl, ← List.replicate_append_replicate (n := k) (m := 1)]; simp
    rw [e, List.length_append, List.take_add]
    rw [hl] at h1 ⊢
    exact h1.append h2
/-- a cell reads -/
def TrodC (enc : TypeId × Value → H) (P : Program) (W : World) (base : Nat) (sp : Nat → Bool) (held : Bool) (u : TypeId) (c : Value) : Prop := ∃ fuel x, DataW.trod enc P W base sp held fuel u [c] = some x
theorem trod_each {base : Nat} {sp : Nat → Bool} {held : Bool} : ∀ (n : Nat) (t : TypeId) {l : List TypeId}, cellsT P n t = some l → ∀ (fuel : Nat) (cs : List Value) {x : DataW H × List MemPlace},
    DataW.trod enc P W base sp held fuel t cs = some x → Each (TrodC enc P W base sp held) l (cs.take l.length)
  | 0, t, l, h => by simp [cellsT] at h
  | n + 1, t, l, h => by
    intro fuel cs x hx
    cases fuel with
    | zero => simp [DataW.trod] at hx
    | succ fuel =>
      unfold cellsT at h
      have hx0 := hx
      unfold DataW.trod at hx
      cases hu : P.underlying t with
      | none => simp [hu] at h
      | some u =>
        cases u with
        | struct fs =>
          simp only [hu] at h
          obtain ⟨xs, m, _, rfl, _, hl, hall⟩ := DataW.trod_struct hu hx0
          refine foldT_each n cs fs.toList [] l h ?_ .nil
          intro f hf lm hm
          obtain ⟨i, hi, rfl⟩ := List.mem_iff_getElem.1 hf
          have hi' : i < fs.size := by simpa using hi
          have := hall i fs[i] (by simp [hi'])
          have hxi : i < xs.length := by omega
          have hok := trod_each n _ hm _ _ (this.trans (by simp [hxi]) : _ = some xs[i])
          obtain ⟨m', hm', hc⟩ := foldT_mem n _ _ _ h fs[i] (by simp)
          have hmm : cellsT P n fs[i].type = some lm := by simpa using hm
          rw [hmm] at hm'
          cases hm'
          simp only [Array.getElem_toList, hc]
          simpa [hc, List.take_take] using hok
        | bool =>
          simp only [hu, Option.some.injEq] at h hx
          subst h
          rcases cs with _ | ⟨c, _ | ⟨c2, cs⟩⟩ <;> (try cases c) <;> simp_all
          exact .cons ⟨_, _, hx0⟩ .nil
        | int k =>
          simp only [hu, Option.some.injEq] at h hx
          subst h
          rcases cs with _ | ⟨c, _ | ⟨c2, cs⟩⟩ <;> (try cases c) <;> simp_all
          exact .cons ⟨_, _, hx0⟩ .nil
        | string =>
          simp only [hu, Option.some.injEq] at h hx
          subst h
          rcases cs with _ | ⟨c, _ | ⟨c2, cs⟩⟩ <;> (try cases c) <;> simp_all
          exact .cons ⟨_, _, hx0⟩ .nil
        | slice e =>
          simp only [hu, Option.some.injEq] at h
          subst h
          rcases DataW.trod_slice hu hx0 with ⟨rfl, _⟩ | ⟨a, len, cap, elems, rest, m, _, rfl, _⟩
          · exact .cons ⟨_, _, hx0⟩ .nil
          · exact .cons ⟨_, _, hx0⟩ .nil
        | array k e =>
          simp only [hu] at h
          obtain ⟨xs, m, _, _, _, hl, hall⟩ := DataW.trod_array hu hx0
          cases hm : cellsT P n e with
          | none => simp [hm] at h
          | some lm =>
            simp only [hm] at h
            split at h
            · rename_i hc
              obtain rfl := Option.some.inj h
              refine each_rep k fun i hi => ?_
              have h1 := hall i hi
              rw [hc, List.getElem?_eq_getElem (by omega)] at h1
              have hok := trod_each n _ hm _ _ h1
              simpa [List.take_take] using hok
            · cases h
        | _ => simp [hu] at h
/-- what a cell of a type is, as data -/
def LeafD (P : Program) (u : TypeId) (d : D) : Prop :=
  match P.underlying u with
  | some (.int k) => ∃ n : Int, d = .val (.int k n) ∧ (Lit.int k n).wf = true
  | some .bool => ∃ b : Bool, d = .val (.bool b)
  | some .string => ∃ s : ByteArray, d = .val (.string s) ∧ s.size ≤ maxLen
  | some (.slice e) => d = .nil ∨ ∃ (n : Nat) (cs : List Value) (L : List Leaf), d = .sl n L.length cs ∧ leaves P 10 e = some L ∧ n ≤ maxLen ∧ cs.length = n * L.length ∧ ∀ i, i < n → Oks L ((cs.drop (i * L.length)).take L.length)
  | _ => False
def leafOK (P : Program) (u : TypeId) : Bool :=
  match P.underlying u with
  | some (.int _) | some .bool | some .string => true
  | some (.slice e) => match leaves P 10 e with | some L => P.cellsOf e == L.length && (0 < L.length : Bool) | none => false
  | _ => false
theorem ok_cell {L : List Leaf} {vs : List Value} (h : Oks L vs) : ∀ v ∈ vs, cellP v = true := by
  induction h with
  | nil => intro v hv; cases hv
  | @cons l v ls vs h _ ih =>
    intro x hx
    rcases List.mem_cons.1 hx with rfl | hx
    · cases l with
      | bool => obtain ⟨b, rfl⟩ := h; rfl
      | int k => obtain ⟨n, rfl, _⟩ := h; rfl
      | str => obtain ⟨s, rfl, _⟩ := h; rfl
    · exact ih x hx
theorem leaf_reads {r : Reach} {b0 base0 : Nat} {sp : Nat → Bool} {held : Bool} {u : TypeId} {c : Value} (hu : leafOK P u = true) (hok : Cell.okWide P W r b0 u c) (h : TrodC enc P W base0 sp held u c) : ∃ d, LeafD P u d ∧ Reads W d c := by
  obtain ⟨fuel, x, h⟩ := h
  unfold leafOK at hu
  unfold LeafD
  cases ht : P.underlying u with
  | none => simp [ht] at hu
  | some t =>
    cases t with
    | int k =>
      obtain ⟨n, e, _, w⟩ := DataW.trod_int ht h
      obtain rfl : c = .int k n := by simpa using e
      exact ⟨_, ⟨n, rfl, w⟩, .val _ rfl⟩
    | bool =>
      obtain ⟨b, e, _⟩ := DataW.trod_bool ht h
      obtain rfl : c = .bool b := by simpa using e
      exact ⟨_, ⟨b, rfl⟩, .val _ rfl⟩
    | string =>
      obtain ⟨s, e, _, w⟩ := DataW.trod_string ht h
      obtain rfl : c = .string s := by simpa using e
      exact ⟨_, ⟨s, rfl, w⟩, .val _ rfl⟩
    | slice e =>
      simp only [ht] at hu
      cases hL : leaves P 10 e with
      | none => simp [hL] at hu
      | some L =>
        simp only [hL, Bool.and_eq_true, beq_iff_eq, decide_eq_true_eq] at hu
        obtain ⟨hc, hpos⟩ := hu
        rcases DataW.trod_slice ht h with ⟨h1, _⟩ | ⟨a, len, cap, elems, rest, n, _, h1, _, hb, hl, hm, hlen, hel, _, _⟩
        · simp only [List.cons.injEq, and_true] at h1
          subst h1
          exact ⟨.nil, .inl rfl, .nil⟩
        · simp only [List.cons.injEq, and_true] at h1
          subst h1
          simp only [Cell.okWide, Cell.ok, ht] at hok
          obtain ⟨b, o, rfl, c, ty, fz, hbb, ho⟩ := has_block hok.2.2
          have each : ∀ i, i < len → Oks L ((c.toList.drop (o + i * L.length)).take L.length) ∧ o + i * L.length + L.length ≤ c.size := by
            intro i hi
            have h2 := hel i hi
            rw [List.getElem?_eq_getElem (by omega), hc, Option.bind_eq_some_iff] at h2
            obtain ⟨cs, hcs, hy⟩ := h2
            obtain ⟨_, hn, hg⟩ := World.cells?_some hcs
            have hoks := trod_oks 10 e hL _ _ hy
            have hcell : ∀ j, j < L.length → c[o + i * L.length + j]? = cs[j]? := by
              intro j hj
              have := hg j (by omega)
              rw [← this]
              simp [addr_add, World.cell?, hbb]
            have hsz : o + i * L.length + L.length ≤ c.size := by
              have h1 := hcell (L.length - 1) (by omega)
              rw [List.getElem?_eq_getElem (by omega)] at h1
              have := (Array.getElem?_eq_some_iff.1 h1).1
              omega
            refine ⟨?_, hsz⟩
            have : (c.toList.drop (o + i * L.length)).take L.length = cs.take L.length := by
              apply List.ext_getElem?
              intro j
              by_cases hj : j < L.length
              · rw [List.getElem?_take, if_pos hj, List.getElem?_drop, Array.getElem?_toList, hcell j hj, List.getElem?_take, if_pos hj]
              · rw [List.getElem?_take, if_neg hj, List.getElem?_take, if_neg hj]
            rw [this]; exact hoks
          have hsz : o + len * L.length ≤ c.size := by
            by_cases h0 : len = 0
            · subst h0; omega
            · have := (each (len - 1) (by omega)).2
              have e2 : len * L.length = (len - 1) * L.length + L.length := by
                obtain ⟨m, rfl⟩ : ∃ m, len = m + 1 := ⟨len - 1, by omega⟩
                rw [Nat.add_mul, Nat.one_mul]; rfl
              omega
          have hlen2 : ((c.toList.drop o).take (len * L.length)).length = len * L.length := by simp; omega
          have hchunk : ∀ i, i < len → Oks L ((((c.toList.drop o).take (len * L.length)).drop (i * L.length)).take L.length) := by
            intro i hi
            have e3 : (((c.toList.drop o).take (len * L.length)).drop (i * L.length)).take L.length = (c.toList.drop (o + i * L.length)).take L.length := by
              rw [List.drop_take, List.take_take, List.drop_drop]
              congr 1
              have : i * L.length + L.length ≤ len * L.length := by
                have := Nat.mul_le_mul_right L.length (show i + 1 ≤ len by omega)
                rwa [Nat.add_mul, Nat.one_mul] at this
              omega
            rw [e3]; exact (each i hi).1
          refine ⟨.sl len L.length ((c.toList.drop o).take (len * L.length)), .inr ⟨len, _, L, rfl, hL, by omega, hlen2, hchunk⟩, ?_⟩
          refine .sl len L.length _ b o cap c ty fz hbb (by rw [hlen2]; exact hsz) (by rw [hlen2]) (by rw [hlen2]) (fun v hv => ?_) (by omega)
          obtain ⟨j, hj, rfl⟩ := List.mem_iff_getElem.1 hv
          rw [hlen2] at hj
          have hi : j / L.length < len := Nat.div_lt_of_lt_mul (by rw [Nat.mul_comm]; exact hj)
          refine ok_cell (hchunk (j / L.length) hi) _ ?_
          have hmod := Nat.mod_lt j hpos
          have hdm := Nat.div_add_mod j L.length
          rw [Nat.mul_comm] at hdm
          refine List.mem_iff_getElem?.2 ⟨j % L.length, ?_⟩
          rw [List.getElem?_take, if_pos hmod, List.getElem?_drop, hdm]
          exact List.getElem?_eq_getElem (by rw [hlen2]; exact hj)
    | _ => simp [ht] at hu
inductive Sh where
  | one (u : TypeId)
  | agg (us : List TypeId)
def argSh (P : Program) (t : TypeId) : Option Sh :=
  match P.underlying t with
  | some (.struct _) | some (.array _ _) => match cellsT P 10 t with
    | some l => if P.cellTypes P.depth t = some l ∧ P.cellsOf t = l.length ∧ l.all (leafOK P) = true then some (.agg l) else none
    | none => none
  | _ => if leafOK P t = true then some (.one t) else none
inductive LeafsD (P : Program) : List TypeId → List D → Prop
  | nil : LeafsD P [] []
  | cons {u : TypeId} {d : D} {us : List TypeId} {ds : List D} (h : LeafD P u d) (t : LeafsD P us ds) : LeafsD P (u :: us) (d :: ds)
def ShD (P : Program) : Sh → D → Prop
  | .one u, d => LeafD P u d
  | .agg us, d => ∃ ds, d = .agg ds ∧ LeafsD P us ds
theorem leafs_read {r : Reach} {b0 base0 : Nat} {sp : Nat → Bool} {held : Bool} {us : List TypeId} {vs : List Value} (h : Each (TrodC enc P W base0 sp held) us vs) :
    us.all (leafOK P) = true → (∀ (i : Nat) (v : Value) (u : TypeId), vs[i]? = some v → us[i]? = some u → Cell.okWide P W r b0 u v) → ∃ ds, LeafsD P us ds ∧ ReadsL W ds vs := by
  induction h with
  | nil => exact fun _ _ => ⟨[], .nil, .nil⟩
  | @cons u v us vs h _ ih =>
    intro ha hok
    simp only [List.all_cons, Bool.and_eq_true] at ha
    obtain ⟨d, hd, hr⟩ := leaf_reads ha.1 (hok 0 v u rfl rfl) h
    obtain ⟨ds, hds, hrs⟩ := ih ha.2 (fun i w x h1 h2 => hok (i + 1) w x (by simpa using h1) (by simpa using h2))
    exact ⟨_, .cons hd hds, .cons hr hrs⟩
theorem arg_reads {r : Reach} {b0 base0 : Nat} {sp : Nat → Bool} {held : Bool} {t : TypeId} {sh : Sh} {v : Value} {dw : DataW H} {p : List MemPlace} (hs : argSh P t = some sh) (hval : Value.okWide P W r b0 t v) (h : DataW.Trod enc P W base0 sp held t v dw p) : ∃ d, ShD P sh d ∧ Reads W d v := by
  obtain ⟨fuel, h⟩ := h
  unfold argSh at hs
  have one : leafOK P t = true → (∀ n e, P.underlying t ≠ some (.array n e)) → (∀ fs, P.underlying t ≠ some (.struct fs)) → ∃ d, LeafD P t d ∧ Reads W d v := by
    intro hl ha hst
    have hok : Cell.okWide P W r b0 t v := by
      unfold Value.okWide at hval
      split at hval
      · rename_i fs hu; exact absurd hu (hst fs)
      · rename_i n e hu; exact absurd hu (ha n e)
      · exact hval
    refine leaf_reads (enc := enc) (base0 := base0) (sp := sp) (held := held) hl hok ⟨fuel, (dw, p), ?_⟩
    have hc : v.cells.toList = [v] := by
      unfold leafOK at hl
      unfold Cell.okWide Cell.ok at hok
      cases hu : P.underlying t with
      | none => simp [hu] at hl
      | some x =>
        cases x <;> simp only [hu] at hl hok <;> first | (cases v <;> first | rfl | (simp at hok; done)) | (simp at hl; done)
    rw [hc] at h
    exact h
  cases hu : P.underlying t with
  | none =>
    simp only [hu] at hs
    split at hs
    · rename_i hl; unfold leafOK at hl; simp [hu] at hl
    · cases hs
  | some x =>
    cases x with
    | struct fs =>
      simp only [hu] at hs
      cases hl : cellsT P 10 t with
      | none => simp [hl] at hs
      | some l =>
        simp only [hl] at hs
        split at hs
        · rename_i hc
          obtain ⟨hct, hsz, hall⟩ := hc
          cases hs
          simp only [Value.okWide, hu] at hval
          obtain ⟨cs, rfl, hcs, ts, hts, _, hok⟩ := hval
          rw [hct] at hts
          obtain rfl : l = ts := Option.some.inj hts
          have he := trod_each 10 t hl fuel _ h
          have : (Value.agg cs).cells.toList = cs.toList := rfl
          rw [this, List.take_of_length_le (by simp; omega)] at he
          obtain ⟨ds, hds, hr⟩ := leafs_read (r := r) (b0 := b0) he hall (fun i v u h1 h2 => by
            have hi := (List.getElem?_eq_some_iff.1 h2).1
            obtain ⟨u', hu', hk⟩ := hok i v (by simpa using h1)
            rw [Nat.mod_eq_of_lt hi, h2] at hu'
            cases hu'; exact hk)
          exact ⟨.agg ds, ⟨ds, rfl, hds⟩, by have := Reads.agg ds cs.toList hr; simpa using this⟩
        · cases hs
    | array k e =>
      simp only [hu] at hs
      cases hl : cellsT P 10 t with
      | none => simp [hl] at hs
      | some l =>
        simp only [hl] at hs
        split at hs
        · rename_i hc
          obtain ⟨hct, hsz, hall⟩ := hc
          cases hs
          simp only [Value.okWide, hu] at hval
          obtain ⟨cs, rfl, hcs, ts, hts, _, hok⟩ := hval
          rw [hct] at hts
          obtain rfl : l = ts := Option.some.inj hts
          have he := trod_each 10 t hl fuel _ h
          have : (Value.agg cs).cells.toList = cs.toList := rfl
          rw [this, List.take_of_length_le (by simp; omega)] at he
          obtain ⟨ds, hds, hr⟩ := leafs_read (r := r) (b0 := b0) he hall (fun i v u h1 h2 => by
            have hi := (List.getElem?_eq_some_iff.1 h2).1
            obtain ⟨u', hu', hk⟩ := hok i v (by simpa using h1)
            rw [Nat.mod_eq_of_lt hi, h2] at hu'
            cases hu'; exact hk)
          exact ⟨.agg ds, ⟨ds, rfl, hds⟩, by have := Reads.agg ds cs.toList hr; simpa using this⟩
        · cases hs
    | _ =>
      simp only [hu] at hs
      split at hs
      · rename_i hl
        cases hs
        exact one hl (by intro n e h'; rw [hu] at h'; cases h' <;> (unfold leafOK at hl; simp [hu] at hl)) (by intro fs h'; rw [hu] at h'; cases h')
      · cases hs
inductive ShDs (P : Program) : List Sh → List D → Prop
  | nil : ShDs P [] []
  | cons {s : Sh} {d : D} {ss : List Sh} {ds : List D} (h : ShD P s d) (t : ShDs P ss ds) : ShDs P (s :: ss) (d :: ds)
theorem args_read {r : Reach} {b0 base0 : Nat} {sp : Nat → Bool} {held : Bool} : ∀ {ts : List TypeId} {shs : List Sh} {vs : List Value} {dws : List (DataW H)} {ps : List MemPlace}, ts.mapM (argSh P) = some shs →
    (∀ (j : Nat) t v, ts[j]? = some t → vs[j]? = some v → Value.okWide P W r b0 t v) → DataW.TrodAll enc P W base0 sp held ts vs dws ps → ∃ ds, ShDs P shs ds ∧ ReadsL W ds vs
  | [], shs, [], [], _, hs, _, _ => by
    simp at hs; subst hs; exact ⟨[], .nil, .nil⟩
  | t :: ts, shs, v :: vs, dw :: dws, _, hs, hval, ⟨p, q, h1, h2, e⟩ => by
    rw [List.mapM_cons] at hs
    cases h0 : argSh P t with
    | none => rw [h0] at hs; cases hs
    | some s =>
      cases h3 : ts.mapM (argSh P) with
      | none => rw [h0, h3] at hs; cases hs
      | some ss =>
        rw [h0, h3] at hs
        obtain rfl : s :: ss = shs := by simpa using hs
        obtain ⟨d, hd, hr⟩ := arg_reads h0 (hval 0 t v rfl rfl) h1
        obtain ⟨ds, hds, hrs⟩ := args_read h3 (fun j t v h1 h2 => hval (j + 1) t v (by simpa using h1) (by simpa using h2)) h2
        exact ⟨_, .cons hd hds, .cons hr hrs⟩
theorem trodAll_length {base0 : Nat} {sp : Nat → Bool} {held : Bool} : ∀ {ts : List TypeId} {vs : List Value} {dws : List (DataW H)} {ps : List MemPlace}, DataW.TrodAll enc P W base0 sp held ts vs dws ps → dws.length = ts.length
  | [], [], [], _, _ => rfl
  | _ :: _, _ :: _, _ :: _, _, ⟨_, _, _, h2, _⟩ => by rw [List.length_cons, List.length_cons, trodAll_length h2]
/-- THE FRAME OF A LAW: a contract for each shape of its arguments is enough. -/
theorem law_shapes {f : FuncId} {fn : Func} {s : ChangeSpec} {args : Array Value} {ds gs : List (DataW H)} {before : List MemPlace} {tb : TypeId} {shs : List Sh} {b0 : Nat}
    (hsh : fn.params.toList.mapM (argSh P) = some shs) (hcon : ∀ rds, ShDs P shs rds → Con P f rds [.val (.bool true)])
    (hlaid : laidOutB P = true) (hmaps : mapsRowed P = true) (hz : ∀ t e, t < P.types.size → P.underlying t = some (.slice e) → 0 < P.cellsOf e) (hts : ∀ t ∈ fn.params.toList, t < P.types.size)
    (hrt : fn.resultTypes = #[tb]) (hbool : P.underlying tb = some .bool) (hv : s.vars = [])
    (hfn : ∀ ds : List (DataW H), ds.length = fn.params.toList.length → (s.fn H ds).results = [.lit (.bool true)] ∧ (s.fn H ds).args = ds ∧ (s.fn H ds).vars = [])
    (hval : ∀ (j : Nat) t v, fn.params[j]? = some t → args[j]? = some v → Value.okWide P W .any b0 t v)
    (hW : DataW.Whole enc P fn.params.toList s.vars false W args.toList ds gs before) (hgood : GoodW P W) :
    Calls P f args W fun e W' => ∃ v, e = .returned v ∧ s.post enc P fn false true false false W args v W' := by
  have hW' := hW
  obtain ⟨p, q, hA, hV, rfl, hfz, hnd⟩ := hW
  obtain ⟨rds, hd, hr⟩ := args_read hsh (fun j t v h1 h2 => hval j t v (by simpa using h1) (by simpa using h2)) hA
  rw [hv] at hV
  obtain ⟨rfl, rfl⟩ := trodVars_none hV
  obtain ⟨e1, e2, e3⟩ := hfn ds (trodAll_length hA)
  exact law_frame hlaid hmaps hz hts hrt hbool hv (by rw [List.append_nil]; exact e1) (by rw [List.append_nil]; exact e2) (by rw [List.append_nil]; exact e3) hW' hgood hr (hcon rds hd)
/-- lists of alike parts -/
theorem chunks_of {α : Type} {f : α → List Value} {k : Nat} (hk : ∀ a, (f a).length = k) : ∀ (n : Nat) (cs : List Value), cs.length = n * k → (∀ i, i < n → ∃ a, (cs.drop (i * k)).take k = f a) → ∃ ps : List α, ps.length = n ∧ cs = ps.flatMap f
  | 0, cs, h, _ => ⟨[], rfl, by simp at h; simp [h]⟩
  | n + 1, cs, h, hc => by
    obtain ⟨a, ha⟩ := hc 0 (by omega)
    obtain ⟨ps, hp, he⟩ := chunks_of hk n (cs.drop k) (by rw [List.length_drop, h, Nat.add_mul, Nat.one_mul]; omega) (fun i hi => by
      obtain ⟨b, hb⟩ := hc (i + 1) (by omega)
      refine ⟨b, ?_⟩
      rw [List.drop_drop, ← hb]
      congr 2
      rw [Nat.add_mul, Nat.one_mul]; omega)
    refine ⟨a :: ps, by simp [hp], ?_⟩
    rw [List.flatMap_cons, ← he, ← ha, Nat.zero_mul, List.drop_zero, List.take_append_drop]
end Go.Abs

/- An argument that is a list of pairs of whole numbers reads as data. -/
namespace Go.Abs
open Go.RowKit Go.ChangeShapes Go.WideShapes Go.ChangeAt
variable {H : Type} {enc : TypeId × Value → H} {P : Program} {W : World}
end Go.Abs

/- Arguments that are structs of whole numbers, opened. -/
namespace Go.Abs
open Go.RowKit Go.ChangeShapes Go.WideShapes Go.ChangeAt
variable {H : Type} {enc : TypeId × Value → H} {P : Program} {W : World} {base0 : Nat} {sp : Nat → Bool} {held : Bool}
theorem wf64 {n : Int} (h : (Lit.int .i64 n).wf = true) : -9223372036854775808 ≤ n ∧ n ≤ 9223372036854775807 := by
  simp only [Lit.wf, Bool.and_eq_true, decide_eq_true_eq] at h
  have h1 : IntKind.i64.min = -9223372036854775808 := by decide
  have h2 : IntKind.i64.max = 9223372036854775807 := by decide
  omega
end Go.Abs

/- A call that gives back what it was handed (a copy). -/
namespace Go.Abs
/-- Data are laid as they are. -/
def layC : List D → Heap → (List Value → Heap → Prop) → Prop
  | [], H, k => k [] H
  | .nil :: r, H, k => layC r H fun vs H' => k (.slice none 0 0 :: vs) H'
  | .sl n es cs :: r, H, k => layC r (H.new (.sym cs true es)) fun vs H' => k (.slice (some ⟨H.next, 0, none⟩) n n :: vs) H'
  | .val v :: r, H, k => match v with
    | .agg _ => False
    | v => layC r H fun vs H' => k (v :: vs) H'
  | .agg _ :: _, _, _ => False
def layV : List D → Heap → (List Value → Heap → Prop) → Prop
  | [], H, k => k [] H
  | .agg ds :: r, H, k => layC ds H fun vs H1 => layV r H1 fun us H2 => k (.agg vs.toArray :: us) H2
  | d :: r, H, k => layC [d] H fun vs H1 => match vs with
    | [v] => layV r H1 fun us H2 => k (v :: us) H2
    | _ => False
/-- A call whose result is known by the shape of what it was handed. -/
def wpFix (C : FuncId → List D → List D → Prop) (g : FuncId) (fix : List D → Option (List D)) (args : Array Value) (H : Heap) (k : Value → Heap → Prop) : Prop :=
  readVals H args.toList fun ds => match fix ds with
    | some rs => Says C g ds rs ∧ layV rs H fun vs H' => k (tupleOf vs) H'
    | none => False
end Go.Abs

/- A call that is met by what it does to the blocks that it reaches ('state contracts'): definitions. -/
namespace Go.Abs
/-- The end of such a call. -/
def endMu (v : Value) (H : Heap) : Mu := reach H 1000 (blocksV 8 v ++ mroots H) [] gbase
def stateK (K : Value → Blocks → Prop) : Value → Heap → Prop := fun v H =>
  bcase (gcGood (endMu v H) (gcB H (endMu v H) (endMu v H))) (K (mapV (endMu v H) 8 v) (gcB H (endMu v H) (endMu v H))) False
/-- What is new at the end, and its numbers at the caller's. -/
def newsOf (bs : Blocks) : Blocks := bs.filter fun p => decide (gbase ≤ p.1)
def numFrom : List Nat → Nat → Mu
  | [], _ => []
  | i :: r, n => (i, n) :: numFrom r (n + 1)
def backMu (μ : Mu) (n : Nat) (bs : Blocks) : Mu := μ.map (fun p => (p.2, p.1)) ++ numFrom ((newsOf bs).map (·.1)) n
def objAt (β : Mu) (bs : Blocks) (j : Nat) : AObj := (((heapOf bs).get j).bind (mapO β)).getD .taken
def mergeP (β : Mu) (bs : Blocks) : Mu → Heap → Heap
  | [], H => H
  | p :: r, H => mergeP β bs r (if mbase ≤ p.2 then H.set p.1 (objAt β bs p.2) else H)
def mergeN (β : Mu) (bs : Blocks) : List Nat → Heap → Heap
  | [], H => H
  | j :: r, H => mergeN β bs r (H.new (objAt β bs j))
def merged (μ : Mu) (bs : Blocks) (H : Heap) : Heap := mergeN (backMu μ H.next bs) bs ((newsOf bs).map (·.1)) (mergeP (backMu μ H.next bs) bs μ H)
end Go.Abs

/- Handlers by a table: each function is met in its own way, the others are entered. -/
namespace Go.Abs
def saidH (P : Program) (C : FuncId → List D → List D → Prop) : Handler := fun g args _ H k =>
  match P.funcs[g]? with | some fn => wpSaid P C g fn.resultTypes.toList args H k | none => False
def fixH (C : FuncId → List D → List D → Prop) (fix : List D → Option (List D)) : Handler := fun g args _ H k => wpFix C g fix args H k
/-- (u: so many rounds of the loops of what is entered) -/
def handlerX (P : Program) (pre : FuncId → Option Handler) (u : Nat) : Nat → Handler
  | 0 => fun _ _ _ _ _ => False
  | n + 1 => fun g args ats H k =>
    match pre g with
    | some h => h g args ats H k
    | none => wpFn P (handlerX P pre u n) (fun _ _ _ => False) u g args H k
/-- A check that all of some numbers lie in a range: what it says. -/
def limE (lo hi : Int) : List Value → Int
  | [] => 0
  | .int _ n :: r => if n < lo ∨ n > hi then 2 else limE lo hi r
  | _ :: r => limE lo hi r
end Go.Abs

/- A call that gives back what it was handed: it holds. -/
namespace Go.Abs
open Go.RowKit
variable {P : Program} {H : Heap}
theorem layC_out : ∀ (ds : List D) {H : Heap} {k : List Value → Heap → Prop}, layC ds H k → ∃ vs H', LaidC H ds vs H' ∧ k vs H'
  | [], H, k, h => ⟨_, _, .nil H, h⟩
  | .nil :: r, H, k, h => by
    obtain ⟨vs, H', h1, h2⟩ := layC_out r h
    exact ⟨_, _, .nilS h1, h2⟩
  | .sl n es cs :: r, H, k, h => by
    obtain ⟨vs, H', h1, h2⟩ := layC_out r h
    exact ⟨_, _, .sl n es cs h1, h2⟩
  | .val v :: r, H, k, h => by
    unfold layC at h
    split at h
    · cases h
    · rename_i hv
      obtain ⟨vs, H', h1, h2⟩ := layC_out r h
      exact ⟨_, _, .val _ (fun cs e => hv cs e) h1, h2⟩
  | .agg _ :: _, H, k, h => by cases h
theorem layV_out : ∀ (ds : List D) {H : Heap} {k : List Value → Heap → Prop}, layV ds H k → ∃ vs H', LaidV H ds vs H' ∧ k vs H'
  | [], H, k, h => ⟨_, _, .nil H, h⟩
  | d :: r, H, k, h => by
    unfold layV at h
    split at h
    · rename_i e; cases e
    · rename_i e; cases e
      obtain ⟨vs, H1, h1, h⟩ := layC_out _ h
      obtain ⟨us, H2, h2, h3⟩ := layV_out _ h
      exact ⟨_, _, .agg h1 h2, h3⟩
    · rename_i e; cases e
      obtain ⟨vs, H1, h1, h⟩ := layC_out _ h
      split at h
      · obtain ⟨us, H2, h2, h3⟩ := layV_out _ h
        exact ⟨_, _, .one h1 h2, h3⟩
      · cases h
theorem wpFix_call {C : FuncId → List D → List D → Prop} (hC : ∀ f ds rs, C f ds rs → Con P f ds rs) {f : FuncId} {fix : List D → Option (List D)} {args : Array Value} {k : Value → Heap → Prop} (hk : wpFix C f fix args H k) : CallH P f args H k := by
  intro w0 ρ w args' n g ha
  obtain ⟨ds, hr, hk⟩ := readVals_out g _ ha hk
  split at hk
  · rename_i rs _
    obtain ⟨hs, hk⟩ := hk
    obtain ⟨vs, H', hl, hk⟩ := layV_out rs hk
    refine callsIn_wide.2 ((hC f ds rs hs.out w args' g.good hr).mono ?_)
    rintro e w' ⟨⟨vs', u, rfl, hg⟩, hb⟩
    obtain ⟨ρ', g', l', e', _, _⟩ := laidV_sound hl (g.grow hb) (g.growB hb) g.below.size (fun i m hm => .inl (g.own i m hm).1) hg
    exact ⟨_, H', ρ', _, hk, rfl, tupleOf_R l', g', e'⟩
  · exact hk.elim
end Go.Abs
