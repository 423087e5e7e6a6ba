/- A region whose order is drawn: sound. -/
import Derived.Test.YtiahlinolhpecaaAbsRun
import Derived.OrdersIn
namespace Go.Abs
open Go.RowKit
variable {P : Program} {ρ : Ren} {w0 w : World} {H : Heap} {s : Self}

/-! ### Slots -/
theorem aslot_put (A : AAct) (dst : Option Tmp) (v : Value) (t : Nat) : (A.put dst v).slot t = if dst = some t ∧ t < A.size then v else A.slot t := by
  cases dst with
  | none => simp [AAct.put]
  | some d =>
    simp only [AAct.put, AAct.put1, Option.some.injEq]
    by_cases hd : d < A.size
    · rw [if_pos hd]
      unfold AAct.slot
      simp only
      rw [Tree.get_set _ _ _ _ _ (by omega)]
      by_cases e : t = d
      · subst e; simp [hd]
      · rw [if_neg e, if_neg (fun h => e h.1.symm)]
    · rw [if_neg hd]
      rw [if_neg]
      rintro ⟨rfl, h2⟩
      exact hd h2
theorem cslot_put (a : Act) (dst : Option Tmp) (v : Value) (t : Nat) : (a.put dst v).tmps.getD t undef = if dst = some t ∧ t < a.tmps.size then v else a.tmps.getD t undef := by
  cases dst with
  | none => simp [Act.put]
  | some d =>
    simp only [Act.put, Option.some.injEq, Array.getD_eq_getD_getElem?, Array.getElem?_setIfInBounds]
    by_cases e : d = t
    · subst e
      by_cases hd : d < a.tmps.size
      · simp [hd]
      · simp [hd]
    · simp [e]
theorem asize_put (A : AAct) (dst : Option Tmp) (v : Value) : (A.put dst v).size = A.size := by
  cases dst with
  | none => rfl
  | some d => simp only [AAct.put, AAct.put1]; split <;> rfl
theorem adefers_put (A : AAct) (dst : Option Tmp) (v : Value) : (A.put dst v).defers = A.defers := by
  cases dst with
  | none => rfl
  | some d => simp only [AAct.put, AAct.put1]; split <;> rfl
theorem csize_put (a : Act) (dst : Option Tmp) (v : Value) : (a.put dst v).tmps.size = a.tmps.size := by
  cases dst with
  | none => rfl
  | some d => simp [Act.put]
theorem cdefers_put (a : Act) (dst : Option Tmp) (v : Value) : (a.put dst v).defers = a.defers := by cases dst <;> rfl

/-! ### Blocks that are laid ahead -/
theorem Gam.phantom (g : Gam w0 ρ H w) (x : AObj) : Gam w0 ρ (H.new x) w ∧ Ext ρ ρ H (H.new x) := by
  have hne : ∀ i m, ρ i = some m → i ≠ H.next := fun i m h e => by rw [e, g.fresh _ (Nat.le_refl _)] at h; cases h
  refine ⟨⟨Nat.le_trans g.gb (by simp), fun i hi => g.fresh i (by simp at hi; omega), g.below, g.own, g.glob, ?_, ?_, ?_⟩, ⟨ρ.le_refl, by simp, fun i hi hn => ⟨hn, by rw [Heap.get_new, if_neg (by omega)]⟩⟩⟩
  · rintro i j mi mj hgi ⟨oi, gi, ai⟩ ⟨oj, gj, aj⟩ ei ej hb
    rw [Heap.get_new, if_neg (hne _ _ ei)] at gi
    rw [Heap.get_new, if_neg (hne _ _ ej)] at gj
    exact g.inj i j mi mj hgi ⟨oi, gi, ai⟩ ⟨oj, gj, aj⟩ ei ej hb
  · intro i m o hi ho
    rw [Heap.get_new, if_neg (hne _ _ hi)] at ho
    exact g.obj i m o hi ho
  · intro i hi hn
    rw [Heap.get_new, if_neg (by have := g.gb; unfold gbase abase at *; omega)] at hn
    exact g.gmap i hi hn

theorem le_put' {b : Nat} (hb : ρ b = none) (m : Meta) : ρ.le (ρ.put b m) := fun j n h => by
  have : j ≠ b := fun e => by rw [e, hb] at h; cases h
  simp [Ren.put, this, h]

theorem Gam.realize (g : Gam w0 ρ H w) {b : Nat} {x : AObj} {obj : Obj} {m : Meta} (hn : ρ b = none) (hlo : gbase ≤ b) (hhi : b < H.next) (hx : H.get b = some x) (hb : m.b = w.heap.size) (hr : ObjR (ρ.put b m) (w.alloc obj) m x) :
    Gam w0 (ρ.put b m) H (w.alloc obj) := by
  have hle := le_put' hn m
  have hold : ∀ k, k < w.heap.size → (w.alloc obj).heap[k]? = w.heap[k]? := fun k hk => Below.heap_alloc w obj k hk
  refine ⟨g.gb, ?_, g.below.alloc g.below.size obj, ?_, ?_, ?_, ?_, ?_⟩
  · intro i hi
    have : i ≠ b := by omega
    simp only [Ren.put, this, if_false]
    exact g.fresh i hi
  · intro i n hn
    simp only [Ren.put] at hn
    split at hn
    · cases hn
      exact ⟨by rw [hb]; simp, fun _ => by rw [hb]; exact g.below.size, fun h => by omega⟩
    · have := g.own i n hn
      exact ⟨by simp; omega, this.2⟩
  · intro i n hn hi
    simp only [Ren.put] at hn
    split at hn
    · unfold gbase abase at *; omega
    · exact g.glob i n hn hi
  · intro i j mi mj hgi hi hj ei ej hbb
    simp only [Ren.put] at ei ej
    by_cases e1 : i = b
    · by_cases e2 : j = b
      · rw [e1, e2]
      · simp only [e1, if_true, Option.some.injEq] at ei
        simp only [e2, if_false] at ej
        have := (g.own j mj ej).1
        rw [← ei, hb] at hbb
        omega
    · by_cases e2 : j = b
      · simp only [e2, if_true, Option.some.injEq] at ej
        simp only [e1, if_false] at ei
        have := (g.own i mi ei).1
        rw [← ej, hb] at hbb
        omega
      · simp only [e1, e2, if_false] at ei ej
        exact g.inj i j mi mj hgi hi hj ei ej hbb
  · intro i n o hn' ho
    simp only [Ren.put] at hn'
    by_cases e : i = b
    · subst e
      simp only [if_true, Option.some.injEq] at hn'
      subst hn'
      rw [hx] at ho
      cases ho
      exact hr
    · simp only [e, if_false] at hn'
      exact (g.obj i n o hn' ho).mono hle (fun _ => hold _ (g.own i n hn').1)
  · intro i hi h
    obtain ⟨n, h'⟩ := g.gmap i hi h
    exact ⟨n, hle _ _ h'⟩

/-! ### Values that are one -/
theorem all2_eq {α : Type} {f : α → α → Bool} (hf : ∀ x y, f x y = true → x = y) : ∀ {l l' : List α}, all2 f l l' = true → l = l'
  | [], [], _ => rfl
  | [], _ :: _, h => by simp [all2] at h
  | _ :: _, [], h => by simp [all2] at h
  | x :: l, y :: l', h => by
    simp only [all2, Bool.and_eq_true] at h
    rw [hf _ _ h.1, all2_eq hf h.2]
theorem veq_sound : ∀ (n : Nat) {x y : Value}, veq n x y = true → x = y
  | 0, _, _, h => by simp [veq] at h
  | n + 1, x, y, h => by
    have ih : ∀ {a b : Array Value}, all2 (veq n) a.toList b.toList = true → a = b := fun h => Array.toList_inj.1 (all2_eq (fun x y => veq_sound n) h)
    unfold veq at h
    split at h
    case h_9 =>
      simp only [Bool.and_eq_true, beq_iff_eq] at h
      rw [h.1.1, ih h.1.2, ih h.2]
    case h_3 =>
      rename_i a b
      simp only [beq_iff_eq, Array.toList_inj] at h
      cases a
      cases b
      simp only at h
      rw [h]
    case h_10 => rw [ih h]
    case h_11 => rw [ih h]
    case h_12 =>
      simp only [Bool.and_eq_true, beq_iff_eq] at h
      rw [h.1, veq_sound n h.2]
    all_goals first
      | (cases h; done)
      | rfl
      | simp_all
theorem oeq_sound {x y : AObj} (h : oeq x y = true) : x = y := by
  unfold oeq at h
  split at h
  · simp only [Bool.and_eq_true, beq_iff_eq] at h
    obtain ⟨⟨⟨h1, h2⟩, h3⟩, h4⟩ := h
    rw [all2_eq (fun x y => veq_sound 8) h1, h2, h3, h4]
  · simp only [beq_iff_eq] at h
    rw [h]
  · cases h

/-! ### One operation, its operands alone -/
theorem eval_L {A : AAct} {a : Act} {ops : Array Oper} {o : Oper} (r : ∀ t, t ∈ looks ops o → VR ρ (A.slot t) (a.tmps.getD t undef)) (y : Operand) (hy : y ∈ o.op.operands) : VR ρ (A.eval y) (a.eval y) := by
  cases y with
  | tmp t => exact r t (List.mem_append_left _ (List.mem_filterMap.2 ⟨.tmp t, by simpa using hy, rfl⟩))
  | const v =>
    simp only [AAct.eval, Act.eval]
    split
    · rename_i h; exact plain_refl ρ 8 v h
    · exact .unknown _ _
  | global g =>
    simp only [AAct.eval, Act.eval]
    split
    · rename_i h; exact .glob g 0 h
    · exact .unknown _ _
  | func f => exact VR.func' .nil .nil

theorem stepA_L (hs : SelfS P w0 s) (g : Gam w0 ρ H w) {ops : Array Oper} {o : Oper} {A A' : AAct} {a : Act} {H' : Heap} {rC : Option Nat} {n : Nat} {next : Act → World → Prop} {Q : Exit → Act → World → Prop}
    (ra : ∀ t, t ∈ looks ops o → VR ρ (A.slot t) (a.tmps.getD t undef)) (h : stepA P s o A H = some (A', H'))
    (K : ∀ ρ' v v' w', VR ρ' v v' → A' = A.put o.dst v → Gam w0 ρ' H' w' → Ext ρ ρ' H H' → next (a.put o.dst v') w') : o.wpIn (Fr rC) n P a w next Q := by
  unfold stepA at h
  obtain ⟨⟨nx, H1⟩, hop, h⟩ := Option.bind_eq_some_iff.1 h
  obtain ⟨ρ1, nx', w1, g1, ext1, hnx, hrun⟩ := opA_sound g (env' := a.eval) (fun y hy => eval_L ra y hy) hop
  refine ⟨fun f _ => Fr_fn _ f, ?_⟩
  rw [Oper.semAt_eq _ _ _ (no_defer hop), hrun]
  have dep : (Fr rC).depth.isSome = true → 1 ≤ n := by rw [Fr_depth]; simp
  cases hnx with
  | value hv =>
    simp only [Option.some.injEq, Prod.mk.injEq] at h
    obtain ⟨rfl, rfl⟩ := h
    exact K ρ1 _ _ w1 hv rfl g1 ext1
  | skip =>
    simp only [Option.some.injEq, Prod.mk.injEq] at h
    obtain ⟨rfl, rfl⟩ := h
    exact K ρ1 _ _ w1 (VR.undef _) rfl g1 ext1
  | enter ha =>
    simp only at h
    obtain ⟨⟨v, H2⟩, hc, h⟩ := Option.bind_eq_some_iff.1 h
    simp only [Option.some.injEq, Prod.mk.injEq] at h
    obtain ⟨rfl, rfl⟩ := h
    refine ⟨dep, (Fr_calls (hs.call (n - 1) g1 ha hc)).mono ?_⟩
    rintro e w2 ⟨ρ2, v', rfl, hv, g2, ext2⟩
    exact K ρ2 _ _ w2 hv rfl g2 (ext1.trans ext2)
  | round hm hL ha =>
    simp only at h
    obtain ⟨⟨v, H2⟩, hc, h⟩ := Option.bind_eq_some_iff.1 h
    simp only [Option.some.injEq, Prod.mk.injEq] at h
    obtain ⟨rfl, rfl⟩ := h
    refine ⟨dep, (roundA_sound hs g1 (n - 1) hm hL ha hc).mono ?_⟩
    rintro e w2 ⟨ρ2, v', rfl, hv, g2, ext2⟩
    exact K ρ2 _ _ w2 hv rfl g2 (ext1.trans ext2)

/-- What writes nothing leaves the heap alone. -/
theorem minor_heap {env : Operand → Value} {o : Oper} {v : Value} {H1 : Heap} (hm : isMajor o = false) (ha : isAlloc o = false) (h : opA P H env o = some (.value v, H1)) : H1 = H := by
  unfold opA at h
  cases hop : o.op <;> simp only [isMajor, isAlloc, hop] at hm ha h <;> first
    | (simp at ha; done)
    | (simp at hm; done)
    | (obtain ⟨x, _, h⟩ := Option.bind_eq_some_iff.1 h
       simp only [Option.some.injEq, Prod.mk.injEq] at h
       exact h.2.symm)
    | skip
  rename_i c
  have hcal : c.callee = .builtin .len ∨ c.callee = .builtin .cap := by
    split at hm <;> first
      | (cases hm; done)
      | (rename_i e; cases e; done)
      | (rename_i e; injection e with e; rw [e]; simp; done)
      | skip
  unfold callA at h
  rcases hcal with e | e <;> simp only [e] at h
  · repeat' split at h
    all_goals first
      | (cases h; done)
      | (simp only [Option.some.injEq, Prod.mk.injEq] at h; exact h.2.symm)
      | (obtain ⟨x, _, h⟩ := Option.bind_eq_some_iff.1 h
         simp only [Option.some.injEq, Prod.mk.injEq] at h
         exact h.2.symm)
  · repeat' split at h
    all_goals first
      | (cases h; done)
      | (simp only [Option.some.injEq, Prod.mk.injEq] at h; exact h.2.symm)
      | (obtain ⟨x, _, h⟩ := Option.bind_eq_some_iff.1 h
         simp only [Option.some.injEq, Prod.mk.injEq] at h
         exact h.2.symm)

/-! ### The walk -/
def Topo (ops : Array Oper) : List Nat → Prop
  | [] => True
  | i :: D => (∃ o, ops[i]? = some o ∧ ∀ p ∈ bAfter o, p ∈ D) ∧ Topo ops D

structure Inv (w0 : World) (ρ0 : Ren) (H0 : Heap) (ops : Array Oper) (D shut : List Nat) (listed : Array Bool) (ρ : Ren) (A : AAct) (H : Heap) (a : Act) (w : World) : Prop where
  gam : Gam w0 ρ H w
  ext : Ext ρ0 ρ H0 H
  gb : gbase ≤ H0.next
  size : a.tmps.size = A.size
  defers : a.defers.length = A.defers.length ∧ ∀ (j : Nat) (D : Nat), A.defers[j]? = some D → ∃ m, ρ D = some m ∧ a.defers[j]? = some { target := .collected m.b, args := #[] }
  slot : ∀ t, (∀ j o, j ∈ D → listed.getD j false = false → ops[j]? = some o → o.dst ≠ some t) → VR ρ (A.slot t) (a.tmps.getD t undef)
  lsize : listed.size = ops.size
  sub : ∀ j, listed.getD j false = true → j ∈ D
  maj : ∀ j o, j ∈ D → ops[j]? = some o → isMajor o = true → listed.getD j false = true
  clL : ∀ j o, listed.getD j false = true → ops[j]? = some o → ∀ p ∈ bAfter o, listed.getD p false = true
  topo : Topo ops D
  shutL : ∀ j ∈ shut, listed.getD j false = true
  pend : ∀ j o d b, j ∈ D → listed.getD j false = false → ops[j]? = some o → isAlloc o = true → o.dst = some d → blk (A.slot d) = some b → ρ b = none ∧ H0.next ≤ b ∧ b < H.next

theorem flow_dst {ops : Array Oper} (hf : flowGood ops = true) {p q : Nat} {op oq : Oper} {d : Tmp} (hp : ops[p]? = some op) (hq : ops[q]? = some oq) (hne : p ≠ q) (hd : oq.dst = some d) : op.dst ≠ some d := by
  have h1 := (Array.getElem?_eq_some_iff.1 hp).1
  have h2 := (Array.getElem?_eq_some_iff.1 hq).1
  unfold flowGood at hf
  have := List.all_eq_true.1 (List.all_eq_true.1 hf p (List.mem_range.2 h1)) q (List.mem_range.2 h2)
  simp only [hp, hq, hd, Bool.and_eq_true, Bool.or_eq_true, beq_iff_eq, hne, false_or, bne_iff_ne, ne_eq] at this
  exact this.1
theorem flow_looks {ops : Array Oper} (hf : flowGood ops = true) {p q : Nat} {op oq : Oper} {d : Tmp} (hp : ops[p]? = some op) (hq : ops[q]? = some oq) (hd : oq.dst = some d) (hl : d ∈ looks ops op) : q ∈ bAfter op ∨ isMajor oq = true := by
  have h1 := (Array.getElem?_eq_some_iff.1 hp).1
  have h2 := (Array.getElem?_eq_some_iff.1 hq).1
  unfold flowGood at hf
  have := List.all_eq_true.1 (List.all_eq_true.1 hf p (List.mem_range.2 h1)) q (List.mem_range.2 h2)
  simp only [hp, hq, hd, Bool.and_eq_true, Bool.or_eq_true, Bool.not_eq_true'] at this
  rcases this.2 with (h | h) | h
  · have : (looks ops op).contains d = true := by simpa using hl
    rw [this] at h; cases h
  · exact .inl (by simpa using h)
  · exact .inr h

theorem bAfter_ready {o : Oper} {listed : Array Bool} : (∀ e ∈ o.after, Region.binds .any e = true → listed.getD e.on false = true) ↔ ∀ p ∈ bAfter o, listed.getD p false = true := by
  unfold bAfter
  constructor
  · intro h p hp
    obtain ⟨e, he, rfl⟩ := List.mem_map.1 hp
    obtain ⟨h1, h2⟩ := List.mem_filter.1 he
    exact h e (by simpa using h1) h2
  · intro h e he hb
    exact h _ (List.mem_map.2 ⟨e, List.mem_filter.2 ⟨by simpa using he, hb⟩, rfl⟩)

section walk
variable {ρ0 : Ren} {H0 : Heap} {ops : Array Oper} {D shut : List Nat} {listed : Array Bool} {A : AAct} {a : Act}

/-- The slots that an operation looks at when its turn comes. -/
theorem Inv.looks (iv : Inv w0 ρ0 H0 ops D shut listed ρ A H a w) (hf : flowGood ops = true) {j : Nat} {o : Oper} (hj : ops[j]? = some o) (hr : ∀ p ∈ bAfter o, listed.getD p false = true) (t : Tmp) (ht : t ∈ Abs.looks ops o) :
    VR ρ (A.slot t) (a.tmps.getD t undef) := by
  refine iv.slot t ?_
  intro q oq hq hun hoq hd
  rcases flow_looks hf hj hoq hd ht with h | h
  · rw [hr q h] at hun; cases hun
  · rw [iv.maj q oq hq hoq h] at hun; cases hun

/-- A block of code without its order: what the plan lays ahead. -/
theorem Inv.minor (iv : Inv w0 ρ0 H0 ops D shut listed ρ A H a w) (hf : flowGood ops = true) {i : Nat} {o : Oper} (hi : ops[i]? = some o) (hm : isMajor o = false) (hD : i ∉ D) (hb : ∀ p ∈ bAfter o, p ∈ D) {A' : AAct} {H' : Heap}
    (h : execMinor P ops A H o = some (A', H')) : Inv w0 ρ0 H0 ops (i :: D) shut listed ρ A' H' a w := by
  have hun : listed.getD i false = false := by
    cases hl : listed.getD i false with
    | false => rfl
    | true => exact absurd (iv.sub i hl) hD
  unfold execMinor at h
  split at h
  · cases h
  rename_i hin
  simp only [Bool.not_eq_false] at hin
  -- whatever is put there
  have core : ∀ (v : Value) (H' : Heap), Gam w0 ρ H' w → Ext ρ ρ H H' → (isAlloc o = true → ∀ b, blk v = some b → ρ b = none ∧ H0.next ≤ b ∧ b < H'.next) → Inv w0 ρ0 H0 ops (i :: D) shut listed ρ (A.put o.dst v) H' a w := by
    intro v H' g' ext' hblk
    refine ⟨g', iv.ext.trans ext', iv.gb, by rw [asize_put]; exact iv.size, by rw [adefers_put]; exact iv.defers, ?_, iv.lsize, fun j hj => List.mem_cons_of_mem _ (iv.sub j hj), ?_, iv.clL, ⟨⟨o, hi, hb⟩, iv.topo⟩, iv.shutL, ?_⟩
    · intro t ht
      have hne : o.dst ≠ some t := ht i o (List.mem_cons_self ..) hun hi
      rw [aslot_put, if_neg (fun h => hne h.1)]
      exact iv.slot t (fun j oj hj => ht j oj (List.mem_cons_of_mem _ hj))
    · intro j oj hj hoj hmj
      rcases List.mem_cons.1 hj with rfl | hj
      · rw [hi] at hoj; cases hoj; rw [hm] at hmj; cases hmj
      · exact iv.maj j oj hj hoj hmj
    · intro j oj d b hj hunj hoj hal hd hbk
      rcases List.mem_cons.1 hj with rfl | hj
      · rw [hi] at hoj
        cases hoj
        have hdin : d < A.size := by simpa [inRange, hd] using hin
        rw [aslot_put, if_pos ⟨hd, hdin⟩] at hbk
        exact hblk hal b hbk
      · have hne : j ≠ i := fun e => hD (e ▸ hj)
        have hdne : o.dst ≠ some d := flow_dst hf hi hoj (fun e => hne e.symm) hd
        rw [aslot_put, if_neg (fun h => hdne h.1)] at hbk
        obtain ⟨h1, h2, h3⟩ := iv.pend j oj d b hj hunj hoj hal hd hbk
        exact ⟨h1, h2, Nat.lt_of_lt_of_le h3 ext'.next⟩
  split at h
  · rename_i v _
    split at h
    · cases h
    rename_i hal
    simp only [Option.some.injEq, Prod.mk.injEq] at h
    obtain ⟨rfl, rfl⟩ := h
    exact core v _ iv.gam (.refl _ _) (fun h => absurd h hal)
  · rename_i k x _
    simp only [Option.some.injEq, Prod.mk.injEq] at h
    obtain ⟨rfl, rfl⟩ := h
    obtain ⟨g', ext'⟩ := iv.gam.phantom x
    refine core _ _ g' ext' (fun _ b hbk => ?_)
    have : b = H.next := by cases k <;> simp [Mk.val, blk] at hbk <;> exact hbk.symm
    subst this
    exact ⟨iv.gam.fresh _ (Nat.le_refl _), iv.ext.next, by simp⟩
  · simp only [Option.some.injEq, Prod.mk.injEq] at h
    obtain ⟨rfl, rfl⟩ := h
    exact core undef _ iv.gam (.refl _ _) (fun _ b hbk => by simp [blk, undef] at hbk)
  · cases h

def PItem.stops : PItem → Bool
  | .minor _ => false
  | _ => true

theorem run_minors (hf : flowGood ops = true) {R : AAct × Heap} : ∀ (rest : List PItem) {D : List Nat} {A : AAct} {H : Heap}, planGood ops rest D shut = true → anyA P s ops rest A H = some R → Inv w0 ρ0 H0 ops D shut listed ρ A H a w →
    ∃ x rest' D' A' H', PItem.stops x = true ∧ planGood ops (x :: rest') D' shut = true ∧ anyA P s ops (x :: rest') A' H' = some R ∧ Inv w0 ρ0 H0 ops D' shut listed ρ A' H' a w := by
  intro rest
  induction rest with
  | nil => intro D A H hp; simp [planGood] at hp
  | cons x rest ih =>
    intro D A H hp h iv
    cases x with
    | major i again => exact ⟨_, _, _, _, _, rfl, hp, h, iv⟩
    | last again => exact ⟨_, _, _, _, _, rfl, hp, h, iv⟩
    | minor i =>
      simp only [planGood] at hp
      simp only [anyA] at h
      cases hi : ops[i]? with
      | none => simp [hi] at hp
      | some o =>
        simp only [hi, Bool.and_eq_true, Bool.not_eq_true'] at hp h
        obtain ⟨⟨⟨h1, h2⟩, h3⟩, h4⟩ := hp
        obtain ⟨⟨A1, H1⟩, he, h⟩ := Option.bind_eq_some_iff.1 h
        exact ih h4 h (iv.minor hf hi h1 (by simpa using h2) (fun p hp => by simpa using List.all_eq_true.1 h3 p hp) he)

/-- What was carried out ahead would be carried out likewise now. -/
def StillP (P : Program) (ops : Array Oper) (A : AAct) (H : Heap) (j : Nat) : Prop :=
  ∃ o, ops[j]? = some o ∧
    ((wantedA ops A o = some false ∧ ∀ d, o.dst = some d → d < A.size ∧ A.slot d = undef) ∨
     (wantedA ops A o = some true ∧
       ((∃ k x d b, allocOf P A.eval o = some (k, x) ∧ o.dst = some d ∧ d < A.size ∧ blk (A.slot d) = some b ∧ A.slot d = k.val b ∧ H.get b = some x) ∨
        (allocOf P A.eval o = none ∧ isAlloc o = false ∧ ∃ v H1, opA P H A.eval o = some (.value v, H1) ∧ ∀ d, o.dst = some d → d < A.size ∧ v = A.slot d))))
theorem stillSo_P {P : Program} {A : AAct} {H : Heap} {j : Nat} (hst : stillSo P ops A H j = true) : StillP P ops A H j := by
  unfold stillSo at hst
  cases hj : ops[j]? with
  | none => simp [hj] at hst
  | some o =>
    refine ⟨o, hj, ?_⟩
    simp only [hj] at hst
    unfold minorA at hst
    cases hw : wantedA ops A o with
    | none => simp [hw] at hst
    | some wb =>
      cases wb with
      | false =>
        refine .inl ⟨rfl, fun d hd => ?_⟩
        simp only [hw, hd, Bool.and_eq_true] at hst
        exact ⟨by simpa using hst.1, (veq_sound 8 hst.2).symm⟩
      | true =>
        refine .inr ⟨rfl, ?_⟩
        simp only [hw] at hst
        cases hal : allocOf P A.eval o with
        | some kx =>
          obtain ⟨k, x⟩ := kx
          simp only [hal] at hst
          cases hd : o.dst with
          | none => simp [hd] at hst
          | some d =>
            simp only [hd, Bool.and_eq_true] at hst
            obtain ⟨hdin, hst⟩ := hst
            cases hbk : blk (A.slot d) with
            | none => simp [hbk] at hst
            | some b =>
              simp only [hbk, Bool.and_eq_true] at hst
              obtain ⟨hsl, hst⟩ := hst
              cases hx : H.get b with
              | none => simp [hx] at hst
              | some y =>
                simp only [hx] at hst
                have hxy := oeq_sound hst
                subst hxy
                exact .inl ⟨k, x, d, b, rfl, rfl, by simpa using hdin, hbk, veq_sound 8 hsl, hx⟩
        | none =>
          simp only [hal] at hst
          cases hop : opA P H A.eval o with
          | none => simp [hop] at hst
          | some r =>
            obtain ⟨nx, H1⟩ := r
            cases nx with
            | value v =>
              simp only [hop, Bool.and_eq_true, Bool.not_eq_true'] at hst
              obtain ⟨hia, hst⟩ := hst
              refine .inr ⟨rfl, hia, v, H1, rfl, fun d hd => ?_⟩
              simp only [hd, Bool.and_eq_true] at hst
              exact ⟨by simpa using hst.1, veq_sound 8 hst.2⟩
            | _ => simp [hop] at hst

/-- An operation that was laid ahead is carried out. -/
theorem Inv.pending (iv : Inv w0 ρ0 H0 ops D shut listed ρ A H a w) (hf : flowGood ops = true) {rC : Option Nat} {n : Nat} {Q : Exit → Act → World → Prop} {j : Nat} {o : Oper} (hj : ops[j]? = some o) (hD : j ∈ D) (hun : listed.getD j false = false) (hr : ∀ p ∈ bAfter o, listed.getD p false = true)
    (hst : StillP P ops A H j) (hdist : ∀ j' o' d d' b, j' ∈ D → j' ≠ j → listed.getD j' false = false → ops[j']? = some o' → isAlloc o' = true → isAlloc o = true → o'.dst = some d' → o.dst = some d → blk (A.slot d) = some b → blk (A.slot d') ≠ some b) {K : Act → World → Prop}
    (hK : ∀ ρ' a' w', Inv w0 ρ0 H0 ops D shut (listed.setIfInBounds j true) ρ' A H a' w' → K a' w') : wpOpIn (Fr rC) n P ops Q j K a w := by
  have hm : isMajor o = false := by
    cases hmj : isMajor o with
    | false => rfl
    | true => rw [iv.maj j o hD hj hmj] at hun; cases hun
  have hjlt : j < listed.size := by rw [iv.lsize]; exact (Array.getElem?_eq_some_iff.1 hj).1
  have hset : (listed.setIfInBounds j true).getD j false = true := by simp [Array.getD_eq_getD_getElem?, hjlt]
  have hunl : ∀ i, (listed.setIfInBounds j true).getD i false = false → i ≠ j ∧ listed.getD i false = false := by
    intro i hi
    have hne : j ≠ i := fun e => by subst e; rw [hset] at hi; cases hi
    exact ⟨fun e => hne e.symm, by rw [← getD_set_ne false hne]; exact hi⟩
  have hll := iv.looks hf hj hr
  -- whatever is put there
  have core : ∀ (ρ' : Ren) (v' : Value) (w' : World), ρ.le ρ' → Gam w0 ρ' H w' → Ext ρ0 ρ' H0 H → (∀ d, o.dst = some d → d < A.size ∧ VR ρ' (A.slot d) v') →
      (∀ j' o' d b, j' ∈ D → j' ≠ j → listed.getD j' false = false → ops[j']? = some o' → isAlloc o' = true → o'.dst = some d → blk (A.slot d) = some b → ρ' b = none) → K (a.put o.dst v') w' := by
    intro ρ' v' w' hle g' ext' hv hp
    refine hK ρ' _ w' ⟨g', ext', iv.gb, by rw [csize_put]; exact iv.size, ?_, ?_, by simpa using iv.lsize, ?_, ?_, ?_, iv.topo, fun i hi => getD_set_true (iv.shutL i hi), ?_⟩
    · rw [cdefers_put]
      exact ⟨iv.defers.1, fun i D' e => let ⟨m, h1, h2⟩ := iv.defers.2 i D' e; ⟨m, hle _ _ h1, h2⟩⟩
    · intro t ht
      rw [cslot_put]
      by_cases e : o.dst = some t ∧ t < a.tmps.size
      · rw [if_pos e]; exact (hv t e.1).2
      · rw [if_neg e]
        by_cases ed : o.dst = some t
        · exact absurd ⟨ed, by rw [iv.size]; exact (hv t ed).1⟩ e
        · refine (iv.slot t ?_).mono hle
          intro i oi hi hui hoi hdi
          by_cases hij : i = j
          · subst hij; rw [hj] at hoi; cases hoi; exact ed hdi
          · exact ht i oi hi (by rw [getD_set_ne false (fun e => hij e.symm)]; exact hui) hoi hdi
    · intro i hi
      by_cases hij : j = i
      · exact hij ▸ hD
      · exact iv.sub i (by rw [← getD_set_ne false hij]; exact hi)
    · exact fun i oi hi hoi hmi => getD_set_true (iv.maj i oi hi hoi hmi)
    · intro i oi hi hoi p hp
      by_cases hij : j = i
      · subst hij; rw [hj] at hoi; cases hoi; exact getD_set_true (hr p hp)
      · exact getD_set_true (iv.clL i oi (by rw [← getD_set_ne false hij]; exact hi) hoi p hp)
    · intro i oi d b hi hui hoi hal hd hbk
      obtain ⟨hij, hui⟩ := hunl i hui
      obtain ⟨_, h2, h3⟩ := iv.pend i oi d b hi hui hoi hal hd hbk
      exact ⟨hp i oi d b hi hij hui hoi hal hd hbk, h2, h3⟩
  have same : ∀ j' o' d b, j' ∈ D → j' ≠ j → listed.getD j' false = false → ops[j']? = some o' → isAlloc o' = true → o'.dst = some d → blk (A.slot d) = some b → ρ b = none :=
    fun j' o' d b h1 _ h3 h4 h5 h6 h7 => (iv.pend j' o' d b h1 h3 h4 h5 h6 h7).1
  unfold wpOpIn
  simp only [hj]
  obtain ⟨o', ho', hst⟩ := hst
  rw [hj] at ho'
  cases ho'
  rcases hst with ⟨hw, hst⟩ | ⟨hw, ⟨k, x, d, b, hal, hd, hdin, hbk, hsl, hx⟩ | ⟨hal, hia, v, H1, hop, hst⟩⟩
  · rw [if_neg (by rw [wanted_L hll hw]; simp)]
    refine ⟨fun f _ => Fr_fn _ f, core ρ undef w ρ.le_refl iv.gam iv.ext (fun d hd => ?_) same⟩
    obtain ⟨h1, h2⟩ := hst d hd
    refine ⟨h1, ?_⟩
    rw [h2]
    exact VR.undef _
  · rw [if_pos (wanted_L hll hw)]
    refine ⟨fun f _ => Fr_fn _ f, ?_⟩
    obtain ⟨obj, m, hmb, hrun, hobj, hval⟩ := (allocOf_sound (P := P) (env' := a.eval) (fun y hy => eval_L hll y hy) hal w).run
    have hia : isAlloc o = true := by
      unfold allocOf at hal
      unfold isAlloc
      cases hop : o.op <;> simp only [hop] at hal ⊢ <;> first
        | rfl
        | (cases hal; done)
    obtain ⟨hn, hlo, hhi⟩ := iv.pend j o d b hD hun hj hia hd hbk
    have hle := le_put' hn m
    have g' := iv.gam.realize hn (Nat.le_trans iv.gb hlo) hhi hx hmb (hobj _ hle)
    rw [Oper.semAt_eq _ _ _ (fun c e => by simp [isMajor, e] at hm), hrun]
    have := core (ρ.put b m) (k.val w.heap.size) _ hle g' ⟨fun i m' h => hle _ _ (iv.ext.le i m' h), iv.ext.next, fun i hi hni => ?_⟩ (fun d' hd' => ?_) (fun j' o' d' b' h1 h2 h3 h4 h5 h6 h7 => ?_)
    · exact this
    · have hne : i ≠ b := by omega
      obtain ⟨q1, q2⟩ := iv.ext.keep i hi hni
      exact ⟨by simp [Ren.put, hne, q1], q2⟩
    · rw [hd] at hd'
      cases hd'
      refine ⟨hdin, ?_⟩
      rw [hsl]
      exact hval _ _ (by simp [Ren.put])
    · have hne : b' ≠ b := fun e => hdist j' o' d d' b h1 h2 h3 h4 h5 hia h6 hd hbk (e ▸ h7)
      simp [Ren.put, hne, same j' o' d' b' h1 h2 h3 h4 h5 h6 h7]
  · rw [if_pos (wanted_L hll hw)]
    refine ⟨fun f _ => Fr_fn _ f, ?_⟩
    have e := minor_heap hm hia hop
    subst e
    obtain ⟨ρ1, nx', w1, g1, ext1, hnx, hrun⟩ := opA_sound iv.gam (env' := a.eval) (fun y hy => eval_L hll y hy) hop
    rw [Oper.semAt_eq _ _ _ (no_defer hop), hrun]
    cases hnx with
    | value hv =>
      refine core ρ1 _ w1 ext1.le g1 (iv.ext.trans ext1) (fun d hd => ?_) (fun j' o' d' b' h1 h2 h3 h4 h5 h6 h7 => ?_)
      · obtain ⟨q1, q2⟩ := hst d hd
        refine ⟨q1, ?_⟩
        rw [← q2]
        exact hv
      · obtain ⟨q1, _, q3⟩ := iv.pend j' o' d' b' h1 h3 h4 h5 h6 h7
        exact (ext1.keep b' q3 q1).1

theorem Topo.all {D : List Nat} (ht : Topo ops D) (hlt : listed.size = ops.size) (hnil : Region.ready .any ops listed = []) : ∀ j ∈ D, listed.getD j false = true := by
  induction D with
  | nil => intro j hj; cases hj
  | cons i D ih =>
    obtain ⟨⟨o, hi, hb⟩, ht⟩ := ht
    intro j hj
    rcases List.mem_cons.1 hj with rfl | hj
    · cases hl : listed.getD j false with
      | true => rfl
      | false =>
        have hjlt : j < listed.size := by rw [hlt]; exact (Array.getElem?_eq_some_iff.1 hi).1
        have : j ∈ Region.ready .any ops listed := mem_ready.2 ⟨by rw [← hl]; simp [Array.getD_eq_getD_getElem?, hjlt], o, hi, bAfter_ready.2 (fun p hp => ih ht p (hb p hp))⟩
        rw [hnil] at this
        cases this
    · exact ih ht j hj

def Fin (w0 : World) (ρ0 : Ren) (H0 : Heap) (A' : AAct) (H' : Heap) (a : Act) (w : World) : Prop := ∃ ρ', ActR ρ' A' a ∧ Gam w0 ρ' H' w ∧ Ext ρ0 ρ' H0 H'

/-- Nothing is ready: everything has been carried out. -/
theorem Inv.done (iv : Inv w0 ρ0 H0 ops D shut listed ρ A H a w) {x : PItem} {rest : List PItem} {R : AAct × Heap} (hst : x.stops = true) (hp : planGood ops (x :: rest) D shut = true) (h : anyA P s ops (x :: rest) A H = some R) (hnil : Region.ready .any ops listed = []) :
    Fin w0 ρ0 H0 R.1 R.2 a w := by
  have hall := iv.topo.all iv.lsize hnil
  cases x with
  | minor i => cases hst
  | major i again =>
    exfalso
    simp only [planGood] at hp
    cases hi : ops[i]? with
    | none => simp [hi] at hp
    | some o =>
      simp only [hi, Bool.and_eq_true, Bool.not_eq_true'] at hp
      obtain ⟨⟨⟨⟨⟨h1, h2⟩, h3⟩, h4⟩, h5⟩, h6⟩ := hp
      have hjlt : i < listed.size := by rw [iv.lsize]; exact (Array.getElem?_eq_some_iff.1 hi).1
      have hl : listed.getD i false = false := by
        cases hl : listed.getD i false with
        | false => rfl
        | true => have := iv.sub i hl; simp at h2; exact absurd this h2
      have : i ∈ Region.ready .any ops listed := mem_ready.2 ⟨by rw [← hl]; simp [Array.getD_eq_getD_getElem?, hjlt], o, hi, bAfter_ready.2 (fun p hp => hall p (by simpa using List.all_eq_true.1 h3 p hp))⟩
      rw [hnil] at this
      cases this
  | last again =>
    simp only [anyA] at h
    split at h
    · cases h
    simp only [Option.some.injEq] at h
    subst h
    refine ⟨ρ, ⟨iv.size, fun t => iv.slot t (fun j o hj hun => ?_), iv.defers⟩, iv.gam, iv.ext⟩
    rw [hall j hj] at hun
    cases hun

theorem distinct_two : ∀ {l : List Nat} {f : Nat → Option Nat} {i j b : Nat}, distinctOk (l.map f) = true → i ∈ l → j ∈ l → i ≠ j → f i = some b → f j ≠ some b
  | [], _, _, _, _, _, hi, _, _, _ => by cases hi
  | x :: l, f, i, j, b, h, hi, hj, hne, e => by
    have htail : distinctOk (l.map f) = true := by
      simp only [List.map_cons] at h
      cases hx : f x with
      | none => simpa [hx, distinctOk] using h
      | some y => simp only [hx, distinctOk, Bool.and_eq_true] at h; exact h.2
    rcases List.mem_cons.1 hi with rfl | _
    · rcases List.mem_cons.1 hj with rfl | hj
      · exact absurd rfl hne
      · simp only [List.map_cons, e, distinctOk, Bool.and_eq_true, Bool.not_eq_true'] at h
        intro e2
        have : some b ∈ l.map f := List.mem_map.2 ⟨j, hj, e2⟩
        have h1 := h.1
        simp at h1
        exact h1 j hj e2
    · rename_i hi2
      rcases List.mem_cons.1 hj with rfl | hj
      · intro e2
        simp only [List.map_cons, e2, distinctOk, Bool.and_eq_true, Bool.not_eq_true'] at h
        have h1 := h.1
        simp at h1
        exact h1 i hi2 e
      · exact distinct_two htail hi2 hj hne e

/-- The major operation whose turn it is. -/
theorem Inv.turn (iv : Inv w0 ρ0 H0 ops D shut listed ρ A H a w) (hs : SelfS P w0 s) (hf : flowGood ops = true) {rC : Option Nat} {n : Nat} {Q : Exit → Act → World → Prop} {i : Nat} {o : Oper} (hi : ops[i]? = some o) (_hm : isMajor o = true) (hD : i ∉ D) (hr : ∀ p ∈ bAfter o, listed.getD p false = true)
    {A' : AAct} {H' : Heap} (h : (wantedA ops A o = some true ∧ stepA P s o A H = some (A', H')) ∨ (wantedA ops A o = some false ∧ A' = A.put o.dst undef ∧ H' = H)) {K : Act → World → Prop}
    (hK : ∀ ρ' a' w', Inv w0 ρ0 H0 ops (i :: D) (i :: (bAfter o ++ shut)) (listed.setIfInBounds i true) ρ' A' H' a' w' → K a' w') : wpOpIn (Fr rC) n P ops Q i K a w := by
  have hilt : i < listed.size := by rw [iv.lsize]; exact (Array.getElem?_eq_some_iff.1 hi).1
  have hset : (listed.setIfInBounds i true).getD i false = true := by simp [Array.getD_eq_getD_getElem?, hilt]
  have hunl : ∀ j, (listed.setIfInBounds i true).getD j false = false → i ≠ j ∧ listed.getD j false = false := by
    intro j hj
    have hne : i ≠ j := fun e => by subst e; rw [hset] at hj; cases hj
    exact ⟨hne, by rw [← getD_set_ne false hne]; exact hj⟩
  have hll := iv.looks hf hi hr
  have core : ∀ (ρ' : Ren) (v v' : Value) (w' : World) (H' : Heap), VR ρ' v v' → Gam w0 ρ' H' w' → Ext ρ ρ' H H' → (∀ a' w', Inv w0 ρ0 H0 ops (i :: D) (i :: (bAfter o ++ shut)) (listed.setIfInBounds i true) ρ' (A.put o.dst v) H' a' w' → K a' w') → K (a.put o.dst v') w' := by
    intro ρ' v v' w' H' hv g' ext' hK
    refine hK _ w' ⟨g', iv.ext.trans ext', iv.gb, by rw [csize_put, asize_put]; exact iv.size, ?_, ?_, by simpa using iv.lsize, ?_, ?_, ?_, ⟨⟨o, hi, fun p hp => iv.sub p (hr p hp)⟩, iv.topo⟩, ?_, ?_⟩
    · rw [cdefers_put, adefers_put]
      exact ⟨iv.defers.1, fun i D' e => let ⟨m, h1, h2⟩ := iv.defers.2 i D' e; ⟨m, ext'.le _ _ h1, h2⟩⟩
    · intro t ht
      rw [cslot_put, aslot_put, iv.size]
      by_cases e : o.dst = some t ∧ t < A.size
      · rw [if_pos e, if_pos e]; exact hv
      · rw [if_neg e, if_neg e]
        refine (iv.slot t ?_).mono ext'.le
        intro j oj hj huj hoj
        have hne : i ≠ j := fun e => hD (e ▸ hj)
        exact ht j oj (List.mem_cons_of_mem _ hj) (by rw [getD_set_ne false hne]; exact huj) hoj
    · intro j hj
      by_cases hij : i = j
      · exact hij ▸ List.mem_cons_self ..
      · exact List.mem_cons_of_mem _ (iv.sub j (by rw [← getD_set_ne false hij]; exact hj))
    · intro j oj hj hoj hmj
      rcases List.mem_cons.1 hj with rfl | hj
      · exact hset
      · exact getD_set_true (iv.maj j oj hj hoj hmj)
    · intro j oj hj hoj p hp
      by_cases hij : i = j
      · subst hij; rw [hi] at hoj; cases hoj; exact getD_set_true (hr p hp)
      · exact getD_set_true (iv.clL j oj (by rw [← getD_set_ne false hij]; exact hj) hoj p hp)
    · intro j hj
      rcases List.mem_cons.1 hj with rfl | hj
      · exact hset
      · rcases List.mem_append.1 hj with hj | hj
        · exact getD_set_true (hr j hj)
        · exact getD_set_true (iv.shutL j hj)
    · intro j oj d b hj huj hoj hal hd hbk
      obtain ⟨hij, huj⟩ := hunl j huj
      have hjD : j ∈ D := by
        rcases List.mem_cons.1 hj with e | hj
        · exact absurd e.symm hij
        · exact hj
      have hdne : o.dst ≠ some d := flow_dst hf hi hoj hij hd
      rw [aslot_put, if_neg (fun h => hdne h.1)] at hbk
      obtain ⟨h1, h2, h3⟩ := iv.pend j oj d b hjD huj hoj hal hd hbk
      exact ⟨(ext'.keep b h3 h1).1, h2, Nat.lt_of_lt_of_le h3 ext'.next⟩
  unfold wpOpIn
  simp only [hi]
  rcases h with ⟨hw, h⟩ | ⟨hw, rfl, rfl⟩
  · rw [if_pos (wanted_L hll hw)]
    refine stepA_L hs iv.gam hll h ?_
    rintro ρ' v v' w' hv rfl g' ext'
    exact core ρ' v v' w' H' hv g' ext' (fun a' w' => hK ρ' a' w')
  · rw [if_neg (by rw [wanted_L hll hw]; simp)]
    exact ⟨fun f _ => Fr_fn _ f, core ρ undef undef w _ (VR.undef _) iv.gam (.refl _ _) (fun a' w' => hK ρ a' w')⟩

theorem any_walk (hs : SelfS P w0 s) (hf : flowGood ops = true) {rC : Option Nat} {n : Nat} {Q : Exit → Act → World → Prop} {R : AAct × Heap} (hQ : ∀ a w, Fin w0 ρ0 H0 R.1 R.2 a w → Q .normal a w) : ∀ (fuel : Nat) {D shut : List Nat} {listed : Array Bool} {ρ : Ren} {A : AAct} {H : Heap} {a : Act} {w : World} {x : PItem} {rest : List PItem},
    x.stops = true → planGood ops (x :: rest) D shut = true → anyA P s ops (x :: rest) A H = some R → Inv w0 ρ0 H0 ops D shut listed ρ A H a w → listed.toList.count true + fuel = ops.size → wpAnyIn (Fr rC) n P .any ops Q fuel listed a w := by
  intro fuel
  induction fuel with
  | zero =>
    intro D shut listed ρ A H a w x rest hst hp h iv hc
    have hnil : Region.ready .any ops listed = [] := by
      have hall : ∀ b ∈ listed.toList, true = b := List.count_eq_length.1 (by have := iv.lsize; simp at hc ⊢; omega)
      refine List.eq_nil_iff_forall_not_mem.2 fun j hj => ?_
      obtain ⟨h0, o, hj, _⟩ := mem_ready.1 hj
      have hjlt : j < listed.size := by rw [iv.lsize]; exact (Array.getElem?_eq_some_iff.1 hj).1
      have := hall listed[j] (by simp)
      simp [Array.getD_eq_getD_getElem?, hjlt, ← this] at h0
    exact ⟨hnil, hQ _ _ (iv.done hst hp h hnil)⟩
  | succ fuel ih =>
    intro D shut listed ρ A H a w x rest hst hp h iv hc
    refine ⟨fun hnil => hQ _ _ (iv.done hst hp h hnil), fun i hi => ?_⟩
    obtain ⟨h0, o, hi, hr⟩ := mem_ready.1 hi
    have hr := bAfter_ready.1 hr
    have hilt : i < listed.size := by rw [iv.lsize]; exact (Array.getElem?_eq_some_iff.1 hi).1
    have hun : listed.getD i false = false := by simpa [Array.getD_eq_getD_getElem?, hilt] using h0
    have hcount : (listed.setIfInBounds i true).toList.count true + fuel = ops.size := by
      have hg : listed.toList[i]'(by simpa using hilt) = false := by simpa [Array.getD_eq_getD_getElem?, hilt] using h0
      rw [Array.toList_setIfInBounds, List.count_set (by simpa using hilt), hg]
      simp
      simp at hc
      omega
    by_cases hD : i ∈ D
    · -- laid ahead
      have hagain : ∀ again, (allStill P ops A H again = true) → (D.all (fun j => shut.contains j || again.contains j) = true) → ∀ j ∈ D, listed.getD j false = false → j ∈ again := by
        intro again _ hc j hj hu
        have := List.all_eq_true.1 hc j hj
        simp only [Bool.or_eq_true] at this
        rcases this with h | h
        · rw [iv.shutL j (by simpa using h)] at hu; cases hu
        · simpa using h
      have go : ∀ again, allStill P ops A H again = true → D.all (fun j => shut.contains j || again.contains j) = true → wpOpIn (Fr rC) n P ops Q i (wpAnyIn (Fr rC) n P .any ops Q fuel (listed.setIfInBounds i true)) a w := by
        intro again hall hcov
        have hmem := hagain again hall hcov
        simp only [allStill, Bool.and_eq_true] at hall
        refine iv.pending hf hi hD hun hr (stillSo_P (List.all_eq_true.1 hall.1 i (hmem i hD hun))) ?_ (fun ρ' a' w' iv' => ih hst hp h iv' hcount)
        intro j' o' d d' b hj' hne hu' ho' hal' hal hd' hd hbk
        have e1 : laid ops A i = some b := by simp [laid, hi, hal, hd, hbk]
        have := distinct_two (f := laid ops A) hall.2 (hmem i hD hun) (hmem j' hj' hu') (fun e => hne e.symm) e1
        simpa [laid, ho', hal', hd'] using this
      cases x with
      | minor _ => cases hst
      | major k again =>
        simp only [planGood] at hp
        have h' := h
        simp only [anyA] at h
        split at h
        · cases h
        rename_i hall
        cases hk : ops[k]? with
        | none => simp [hk] at hp
        | some ok =>
          simp only [hk, Bool.and_eq_true] at hp
          exact go again (by simpa using hall) hp.1.2
      | last again =>
        simp only [planGood, Bool.and_eq_true] at hp
        simp only [anyA] at h
        split at h
        · cases h
        rename_i hall
        exact go again (by simpa using hall) hp.2
    · cases x with
      | minor _ => cases hst
      | last again =>
        simp only [planGood, Bool.and_eq_true] at hp
        have := List.all_eq_true.1 hp.1 i (List.mem_range.2 (Array.getElem?_eq_some_iff.1 hi).1)
        exact absurd (by simpa using this) hD
      | major k again =>
        simp only [planGood] at hp
        simp only [anyA] at h
        split at h
        · cases h
        cases hk : ops[k]? with
        | none => simp [hk] at hp
        | some ok =>
          simp only [hk, Bool.and_eq_true, Bool.not_eq_true'] at hp h
          obtain ⟨⟨⟨⟨⟨h1, h2⟩, h3⟩, h4⟩, h5⟩, h6⟩ := hp
          have hik : i = k := by
            have := List.all_eq_true.1 h4 i (List.mem_range.2 (Array.getElem?_eq_some_iff.1 hi).1)
            simp only [hi, Option.map_some, Option.getD_some, Bool.or_eq_true, beq_iff_eq, Bool.not_eq_true'] at this
            rcases this with (e | e) | e
            · exact e
            · exact absurd (by simpa using e) hD
            · exfalso
              have : (bAfter o).all D.contains = true := List.all_eq_true.2 (fun p hp => by simpa using iv.sub p (hr p hp))
              rw [this] at e
              cases e
          subst hik
          rw [hi] at hk
          cases hk
          have fin : ∀ {A1 : AAct} {H1 : Heap}, ((wantedA ops A o = some true ∧ stepA P s o A H = some (A1, H1)) ∨ (wantedA ops A o = some false ∧ A1 = A.put o.dst undef ∧ H1 = H)) → anyA P s ops rest A1 H1 = some R → wpOpIn (Fr rC) n P ops Q i (wpAnyIn (Fr rC) n P .any ops Q fuel (listed.setIfInBounds i true)) a w := by
            intro A1 H1 hstep hrest
            refine iv.turn hs hf hi h1 hD hr hstep (fun ρ' a' w' iv' => ?_)
            obtain ⟨x', rest', D', A', H', q1, q2, q3, q4⟩ := run_minors hf rest h6 hrest iv'
            exact ih q1 q2 q3 q4 hcount
          cases hw : wantedA ops A o with
          | none => simp [hw] at h
          | some wb =>
            cases wb with
            | true =>
              simp only [hw] at h
              obtain ⟨⟨A1, H1⟩, e1, h⟩ := Option.bind_eq_some_iff.1 h
              exact fin (.inl ⟨hw, e1⟩) h
            | false =>
              simp only [hw] at h
              exact fin (.inr ⟨hw, rfl, rfl⟩) h

end walk

theorem gam_drew (g : Gam w0 ρ H w) : Gam w0 ρ H { w with drawn := w.drawn + 1 } :=
  ⟨g.gb, g.fresh, g.below.drew, g.own, g.glob, g.inj, fun i m o h1 h2 => (g.obj i m o h1 h2).mono ρ.le_refl (fun _ => rfl), g.gmap⟩

theorem anyA_sound (hs : SelfS P w0 s) (hmix : P.follows .mixedOrders = true) (g : Gam w0 ρ H w) {rC : Option Nat} {id : Nat} {ops : Array Oper} {A A' : AAct} {a : Act} {H' : Heap} (n : Nat) (ra : ActR ρ A a)
    (hgood : regionGood ops = true) (h : anyA P s ops (plan ops) A H = some (A', H')) : (Code.region id ops true).wpIn (Fr rC) n P (CodePost w0 ρ H .normal A' H') a w := by
  simp only [regionGood, Bool.and_eq_true] at hgood
  have iv : Inv w0 ρ H ops [] [] (Array.replicate ops.size false) ρ A H a { w with drawn := w.drawn + 1 } := by
    have hrep : ∀ j, (Array.replicate ops.size false).getD j false = false := by
      intro j
      simp only [Array.getD_eq_getD_getElem?, Array.getElem?_replicate]
      split <;> rfl
    exact ⟨gam_drew g, .refl _ _, g.gb, ra.size, ra.defers, fun t _ => ra.slot t, by simp, fun j hj => (by rw [hrep] at hj; cases hj), fun j o hj => (by cases hj), fun j o hj => (by rw [hrep] at hj; cases hj), trivial, fun j hj => (by cases hj), fun j o d b hj => (by cases hj)⟩
  obtain ⟨x, rest', D', A1, H1, q1, q2, q3, q4⟩ := run_minors hgood.2 (plan ops) hgood.1 h iv
  exact wpIn_region_any hmix (any_walk hs hgood.2 (R := (A', H')) (fun a w ⟨ρ', r1, r2, r3⟩ => ⟨rfl, ρ', r1, r2, r3⟩) ops.size q1 q2 q3 q4 (by simp [List.count_replicate]))

end Go.Abs
