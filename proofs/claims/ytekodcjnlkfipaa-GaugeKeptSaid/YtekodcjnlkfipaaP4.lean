/- Texts of the proof, put together: AbsState, AbsJ3, GbT1, AbsSame, AbsX, AbsPairs, GbW, GbT2, G5S, G5B, AbsTab, GbC, GbK0, AbsSeven, G5H, GbK7, GbK8, GbI, GbT4, AbsInsD, GbT6, GbT7, AbsNum, AbsLow, GbF, GbO, GbQR. -/
import Derived.Test.YtekodcjnlkfipaaP3
import Derived.Test.YtekodcjnlkfipaaProg
import Derived.Test.YtekodcjnlkfipaaRows
import Derived.Handed
import Derived.JoinedCond
import Derived.Shelf.Spec.SlicesInsert
/- State contracts: a function whose body has been walked. -/
namespace Go.Abs
open Go.RowKit
variable {P : Program} {ρ : Ren} {w0 : Start} {w : World} {H : Heap} {h : Handler} {L : AtLoop}

theorem stateK_out (g : Gam w0 ρ H w) {v v' : Value} (hv : VR ρ v v') {K : Value → Blocks → Prop} (hk : stateK K v H) : ∃ v2 bs ρ2, K v2 bs ∧ VR ρ2 v2 v' ∧ Gam w0 ρ2 (heapOf bs) w := by
  unfold stateK at hk
  obtain ⟨hgood, hk⟩ := bcase_out hk
  let A : AAct := ⟨.leaf, 0, []⟩
  let a : Act := ⟨#[], []⟩
  have ra : ActR ρ A a := ⟨rfl, fun t => by
    have e1 : A.slot t = undef := rfl
    have e2 : a.tmps.getD t undef = undef := rfl
    rw [e1, e2]; exact VR.undef _, ⟨rfl, fun j D e => by simp [A] at e⟩⟩
  obtain ⟨g2, _⟩ := gc_sub g ra rfl (keep := []) hgood
  exact ⟨_, _, _, hk, mapV_VR (gcGood_ok hgood) 8 _ _ hv, g2⟩

/-- A loop of a function, whatever its end is. -/
structure LoopGoodF (P : Program) (h : Handler) (L : AtLoop) (f : FuncId) (c : Code) (lv : Lv) (id : Nat) (F : Value → Heap → Prop) (X : Type) (st : X → Slots × Blocks) (inv : X → Prop) (m : X → Nat) : Prop where
  head : ∀ s b, L id s b → ∃ x, inv x ∧ st x = (s, b)
  flat : ((findLoop c lv id).map fun r => loopIds r.1) = some []
  round : ∀ x, inv x → wpRound P h L f id (st x).1 (st x).2 (fun s b => ∃ y, inv y ∧ m y < m x ∧ st y = (s, b))
    (fun i s b => if i = id then wpNext P h L f id .normal s b F else wpNext P h L f id (.exit i) s b F) F

theorem loopsOK_good (hh : HandlerOK P h) (hmix : P.follows .mixedOrders = true) {f : FuncId} {fn : Func} {c : Code} (hf : P.funcs[f]? = some fn) (hc : fn.body = some c) {F : Value → Heap → Prop} {ids : List Nat} (hids : loopIds c = ids) (hn : nodupB ids = true)
    (hl : ∀ id ∈ ids, ∃ X st inv m, LoopGoodF P h L f c (fnLv fn) id F X st inv m) : loopsOK P h L (fnSize fn) c (fnLv fn) (fnK P fn F) := by
  subst hids
  refine loopsOK_of c hn ?_
  intro id body l' hfl s bl hs
  obtain ⟨X, st, inv, m, hg⟩ := hl id (findLoop_ids c _ id hfl)
  obtain ⟨x, hx, he⟩ := hg.head s bl hs
  have e1 : (st x).1 = s := congrArg Prod.fst he
  have e2 : (st x).2 = bl := congrArg Prod.snd he
  have hin : loopIds body = [] := by have := hg.flat; rw [hfl] at this; simpa using this
  have := loop_rule (P := P) (h := h) (L := L) (sz := fnSize fn) hh hmix st inv m (id := id) (body := body) (l' := l') (k := fun e A H => wpAfter P h L c (fnLv fn) id e A H (fnK P fn F)) (R := fnK P fn F) hin
    (fun x hx => by
      have := hg.round x hx
      unfold wpRound at this
      simp only [hf, hc, hfl] at this
      have e : ∀ i s b, (if i = id then wpNext P h L f id .normal s b F else wpNext P h L f id (.exit i) s b F) = (if i = id then wpAfter P h L c (fnLv fn) id .normal (actOf (fnSize fn) s) (heapOf b) (fnK P fn F) else wpAfter P h L c (fnLv fn) id (.exit i) (actOf (fnSize fn) s) (heapOf b) (fnK P fn F)) := by
        intro i s b
        simp only [wpNext, hf, hc]
      simpa only [e] using this)
    (fun e A H he hR => by subst he; exact wpAfter_ret c (by rw [hfl]; rfl) hR)
    (fun e A H h1 h2 hR => by cases e <;> first | exact h1 rfl | exact h2 rfl | exact hR)
    x hx
  rw [e1, e2] at this
  exact this

/-- A FUNCTION IS PROVED, by what it does to the blocks that it reaches. -/
theorem callS_ofG (hh : HandlerOK P h) (hmix : P.follows .mixedOrders = true) {f : FuncId} {fn : Func} {c : Code} (hf : P.funcs[f]? = some fn) (hc : fn.body = some c) {args : List Value} {bs : Blocks} {K : Value → Blocks → Prop} (hsz2 : max args.toArray.size fn.ntmps = fnSize fn) {ids : List Nat} (hids : loopIds c = ids) (hn : nodupB ids = true)
    (hk : wpFn P h L 0 f args.toArray (heapOf bs) (stateK K))
    (hl : ∀ id ∈ ids, ∃ X st inv m, LoopGoodF P h L f c (fnLv fn) id (stateK K) X st inv m) : CallS P f args bs K := by
  intro w0 ρ w args' n g ha
  refine (wpFn_run (u := 0) (b := false) hh hmix (fun _ => rfl) hf hc hk (fun _ => by rw [hsz2]; exact loopsOK_good hh hmix hf hc hids hn hl) g n (by simpa using ha)).mono ?_
  rintro e w' ⟨v, H', ρ', v', hkv, rfl, hv, g', _⟩
  obtain ⟨v2, bs', ρ2, h1, h2, h3⟩ := stateK_out g' hv hkv
  exact ⟨v2, bs', ρ2, v', h1, rfl, h2, h3⟩
end Go.Abs

/- Functions with cuts, and loops within loops: by what is left to show of each part. -/
namespace Go.Abs
open Go.RowKit
variable {P : Program} {ρ : Ren} {w0 : Start} {w : World} {H : Heap} {h : Handler} {L : AtLoop} {J : List Nat}

theorem jFn_run (hh : HandlerOK P h) (hmix : P.follows .mixedOrders = true) {f : FuncId} {fn : Func} {c : Code} (hf : P.funcs[f]? = some fn) (hc : fn.body = some c) {args : Array Value} {k : Value → Heap → Prop}
    (hk : jFn P h L J f args H k) (hl : ptsOK P h L J (max args.size fn.ntmps) c (fnLv fn) (fnK P fn k))
    (g : Gam w0 ρ H w) {args' : Array Value} (n : Nat) (ha : LR ρ args.toList args'.toList) :
    CallsIn Fence.wide n P f args' w fun e w' => ∃ v H' ρ' v', k v H' ∧ e = .returned v' ∧ VR ρ' v v' ∧ Gam w0 ρ' H' w' := by
  unfold jFn at hk
  simp only [hf, hc] at hk
  refine callsIn_of_wp_marks hf hc trivial ?_
  refine wpIn_mono (wpJ_sound hh hmix c hk hl w0 ρ w _ n g (initial_act ha fn.ntmps) rfl) ?_
  rintro e a1 w1 ⟨A1, H1, ρ1, k1, s1, ra1, g1, _⟩
  have fin : ∀ {v : Value}, A1.defers = [] → resultsA P H1 fn A1 = some v → k v H1 → LeavesInM Fence.wide n P fn a1.tmps (fun e w' => ∃ v H' ρ' v', k v H' ∧ e = .returned v' ∧ VR ρ' v v' ∧ Gam w0 ρ' H' w') a1.defers .returning w1 := by
    intro v hd hr hkv
    have hdd := ra1.defers
    rw [hd] at hdd
    refine leaves_R (P := P) (ρ := ρ1) (w0 := w0) [] a1.defers rfl g1 hdd (fun w2 g2 ext2 => ?_)
    obtain ⟨v', hv, hrun⟩ := resultsA_sound g2 ra1 hr
    exact ⟨v', hrun, v, H1, ρ1, v', hkv, rfl, hv, g2⟩
  cases e with
  | normal =>
    simp only [fnK] at k1
    split at k1
    · rename_i hd
      split at k1
      · rename_i v hr; exact fin hd hr k1
      · cases k1
    · cases k1
  | ret =>
    simp only [fnK] at k1
    split at k1
    · rename_i hd
      split at k1
      · rename_i v hr; exact fin hd hr k1
      · cases k1
    · cases k1
  | _ => exact k1.elim

abbrev Kx := Slots → Blocks → Prop
abbrev Xk := Nat → Slots → Blocks → Prop
/-- A loop within a round of a loop: its points are cuts. -/
structure LoopJ2 (P : Program) (h : Handler) (J : List Nat) (f : FuncId) (c : Code) (lv : Lv) (id id2 : Nat) (L : AtLoop) (B : Kx) (X : Xk) (F : Value → Heap → Prop) : Type 1 where
  Y : Type
  st : Y → Slots × Blocks
  inv : Y → Prop
  m : Y → Nat
  head : ∀ s b, L id2 s b → ∃ y, inv y ∧ st y = (s, b)
  pts : List Nat
  is : ((findLoop c lv id).bind fun r => (findLoop r.1 r.2 id2).map fun q => (ptIds J q.1, loopIds q.1)) = some (pts, [])
  nd : nodupB pts = true
  round : ∀ y, inv y → ∃ L2 : AtLoop,
    jRound2 P h L2 J f id id2 (st y).1 (st y).2 (fun s b => ∃ z, inv z ∧ m z < m y ∧ st z = (s, b)) (fun i s b => if i = id2 then jIn P h L J f id id2 .normal s b B X F else jIn P h L J f id id2 (.exit i) s b B X F) F ∧
    ∀ id3 ∈ pts, ∀ s b, L2 id3 s b → jIn2 P h L2 J f id id2 id3 .normal s b (fun s b => ∃ z, inv z ∧ m z < m y ∧ st z = (s, b)) (fun i s b => if i = id2 then jIn P h L J f id id2 .normal s b B X F else jIn P h L J f id id2 (.exit i) s b B X F) F
/-- A loop of a function. -/
structure LoopJ (P : Program) (h : Handler) (J : List Nat) (f : FuncId) (c : Code) (lv : Lv) (id : Nat) (L : AtLoop) (F : Value → Heap → Prop) : Type 1 where
  Y : Type
  st : Y → Slots × Blocks
  inv : Y → Prop
  m : Y → Nat
  head : ∀ s b, L id s b → ∃ y, inv y ∧ st y = (s, b)
  pts : List Nat
  loops : List Nat
  is : ((findLoop c lv id).map fun r => (ptIds J r.1, loopIds r.1)) = some (pts, loops)
  nd : nodupB pts = true
  round : ∀ y, inv y → ∃ L2 : AtLoop,
    jRound P h L2 J f id (st y).1 (st y).2 (fun s b => ∃ z, inv z ∧ m z < m y ∧ st z = (s, b)) (fun i s b => if i = id then jNext P h L J f id .normal s b F else jNext P h L J f id (.exit i) s b F) F ∧
    (∀ id2 ∈ pts, id2 ∉ loops → ∀ s b, L2 id2 s b → jIn P h L2 J f id id2 .normal s b (fun s b => ∃ z, inv z ∧ m z < m y ∧ st z = (s, b)) (fun i s b => if i = id then jNext P h L J f id .normal s b F else jNext P h L J f id (.exit i) s b F) F) ∧
    (∀ id2 ∈ loops, Nonempty (LoopJ2 P h J f c lv id id2 L2 (fun s b => ∃ z, inv z ∧ m z < m y ∧ st z = (s, b)) (fun i s b => if i = id then jNext P h L J f id .normal s b F else jNext P h L J f id (.exit i) s b F) F))

theorem loopJ2_holds (hh : HandlerOK P h) (hmix : P.follows .mixedOrders = true) {f : FuncId} {fn : Func} {c : Code} (hf : P.funcs[f]? = some fn) (hc : fn.body = some c) {id id2 : Nat} {F : Value → Heap → Prop} {B : Kx} {X : Xk} {body : Code} {l' : Lv} (hfl : findLoop c (fnLv fn) id = some (body, l')) {body2 : Code} {l2 : Lv} (hf2 : findLoop body l' id2 = some (body2, l2))
    (g : LoopJ2 P h J f c (fnLv fn) id id2 L B X F) {s : Slots} {b : Blocks} (hs : L id2 s b) :
    Holds P false (fnSize fn) (.block id2 (.loop body2)) (actOf (fnSize fn) s) (heapOf b) (fun e A H => aftJ P h L J body l' id2 e A H (roundK body l' B X (fnK P fn F))) := by
  obtain ⟨y, hy, he⟩ := g.head s b hs
  have e1 : (g.st y).1 = s := congrArg Prod.fst he
  have e2 : (g.st y).2 = b := congrArg Prod.snd he
  have his := g.is
  rw [hfl] at his
  simp only [Option.bind_some, hf2, Option.map_some, Option.some.injEq, Prod.mk.injEq] at his
  have eqX : ∀ (B : Kx) (X : Xk) i s b, (if i = id2 then jIn P h L J f id id2 .normal s b B X F else jIn P h L J f id id2 (.exit i) s b B X F) = (if i = id2 then aftJ P h L J body l' id2 .normal (actOf (fnSize fn) s) (heapOf b) (roundK body l' B X (fnK P fn F)) else aftJ P h L J body l' id2 (.exit i) (actOf (fnSize fn) s) (heapOf b) (roundK body l' B X (fnK P fn F))) := by
    intro B X i s b
    simp only [jIn, hf, hc, hfl]
  have := loop_ruleJ (P := P) (h := h) (J := J) (sz := fnSize fn) hh hmix g.st g.inv g.m (id := id2) (body := body2) (l' := l2) (k := fun e A H => aftJ P h L J body l' id2 e A H (roundK body l' B X (fnK P fn F))) (R := fnK P fn F)
    (fun y hy => by
      obtain ⟨L2, h1, h2⟩ := g.round y hy
      refine ⟨L2, ?_, ptsOK_of body2 (by rw [his.1]; exact g.nd) (fun id3 b3 l3 hf3 => ?_) (fun id3 hi3 hf3 s b hs3 => ?_)⟩
      · unfold jRound2 at h1
        simp only [hf, hc, hfl, hf2, eqX] at h1
        exact h1
      · have := findLoop_ids _ _ _ hf3
        rw [his.2] at this
        cases this
      · have h3 := h2 id3 (by rw [his.1] at hi3; exact hi3) s b hs3
        unfold jIn2 at h3
        simp only [hf, hc, hfl, hf2, eqX] at h3
        exact h3)
    (fun e A H he hR => by subst he; exact aftJ_ret body (findLoop_pt body l' id2 hf2) hR)
    (fun e A H h1 h2 hR => by cases e <;> first | exact h1 rfl | exact h2 rfl | exact hR)
    y hy
  rw [e1, e2] at this
  exact this

theorem loopJ_holds (hh : HandlerOK P h) (hmix : P.follows .mixedOrders = true) {f : FuncId} {fn : Func} {c : Code} (hf : P.funcs[f]? = some fn) (hc : fn.body = some c) {id : Nat} {F : Value → Heap → Prop} {body : Code} {l' : Lv} (hfl : findLoop c (fnLv fn) id = some (body, l'))
    (g : LoopJ P h J f c (fnLv fn) id L F) {s : Slots} {b : Blocks} (hs : L id s b) :
    Holds P false (fnSize fn) (.block id (.loop body)) (actOf (fnSize fn) s) (heapOf b) (fun e A H => aftJ P h L J c (fnLv fn) id e A H (fnK P fn F)) := by
  obtain ⟨y, hy, he⟩ := g.head s b hs
  have e1 : (g.st y).1 = s := congrArg Prod.fst he
  have e2 : (g.st y).2 = b := congrArg Prod.snd he
  have his := g.is
  rw [hfl] at his
  simp only [Option.map_some, Option.some.injEq, Prod.mk.injEq] at his
  have eqX : ∀ i s b, (if i = id then jNext P h L J f id .normal s b F else jNext P h L J f id (.exit i) s b F) = (if i = id then aftJ P h L J c (fnLv fn) id .normal (actOf (fnSize fn) s) (heapOf b) (fnK P fn F) else aftJ P h L J c (fnLv fn) id (.exit i) (actOf (fnSize fn) s) (heapOf b) (fnK P fn F)) := by
    intro i s b
    simp only [jNext, hf, hc]
  have := loop_ruleJ (P := P) (h := h) (J := J) (sz := fnSize fn) hh hmix g.st g.inv g.m (id := id) (body := body) (l' := l') (k := fun e A H => aftJ P h L J c (fnLv fn) id e A H (fnK P fn F)) (R := fnK P fn F)
    (fun y hy => by
      obtain ⟨L2, h1, h2, h3⟩ := g.round y hy
      refine ⟨L2, ?_, ptsOK_of body (by rw [his.1]; exact g.nd) (fun id2 b2 l2 hf2 s b hs2 => ?_) (fun id2 hi2 hf2 s b hs2 => ?_)⟩
      · unfold jRound at h1
        simp only [hf, hc, hfl, eqX] at h1
        exact h1
      · have hm : id2 ∈ g.loops := by rw [← his.2]; exact findLoop_ids _ _ _ hf2
        obtain ⟨g2⟩ := h3 id2 hm
        have := loopJ2_holds hh hmix hf hc hfl hf2 g2 hs2
        simp only [eqX] at this
        exact this
      · have hnl : id2 ∉ g.loops := by
          intro hm
          rw [← his.2] at hm
          have := findLoop_some body l' id2 hm
          rw [hf2] at this
          cases this
        have h4 := h2 id2 (by rw [his.1] at hi2; exact hi2) hnl s b hs2
        unfold jIn at h4
        simp only [hf, hc, hfl, eqX] at h4
        exact h4)
    (fun e A H he hR => by subst he; exact aftJ_ret c (findLoop_pt c _ id hfl) hR)
    (fun e A H h1 h2 hR => by cases e <;> first | exact h1 rfl | exact h2 rfl | exact hR)
    y hy
  rw [e1, e2] at this
  exact this

theorem ptsOK_good (hh : HandlerOK P h) (hmix : P.follows .mixedOrders = true) {f : FuncId} {fn : Func} {c : Code} (hf : P.funcs[f]? = some fn) (hc : fn.body = some c) {F : Value → Heap → Prop} {pts loops : List Nat} (his : (ptIds J c, loopIds c) = (pts, loops)) (hn : nodupB pts = true)
    (hcut : ∀ id ∈ pts, id ∉ loops → ∀ s b, L id s b → jNext P h L J f id .normal s b F)
    (hl : ∀ id ∈ loops, Nonempty (LoopJ P h J f c (fnLv fn) id L F)) : ptsOK P h L J (fnSize fn) c (fnLv fn) (fnK P fn F) := by
  simp only [Prod.mk.injEq] at his
  refine ptsOK_of c (by rw [his.1]; exact hn) (fun id body l' hfl s b hs => ?_) (fun id hi hfl s b hs => ?_)
  · obtain ⟨g⟩ := hl id (by rw [← his.2]; exact findLoop_ids _ _ _ hfl)
    exact loopJ_holds hh hmix hf hc hfl g hs
  · have hnl : id ∉ loops := by
      intro hm
      rw [← his.2] at hm
      have := findLoop_some c (fnLv fn) id hm
      rw [hfl] at this
      cases this
    have h4 := hcut id (by rw [his.1] at hi; exact hi) hnl s b hs
    unfold jNext at h4
    simp only [hf, hc] at h4
    exact h4

/-- A FUNCTION IS PROVED, with cuts and loops within loops: a contract in data. -/
theorem con_J (hh : HandlerOK P h) (hmix : P.follows .mixedOrders = true) (J : List Nat) {L : AtLoop} {f : FuncId} {fn : Func} {c : Code} (hf : P.funcs[f]? = some fn) (hc : fn.body = some c) {ds rs : List D} (hcount : countV ds ≤ 400) (hsz : ds.length = fn.params.size) {pts loops : List Nat} (his : (ptIds J c, loopIds c) = (pts, loops)) (hn : nodupB pts = true)
    (hk : ∀ caps, capsL 40 (layVals caps 500 ds).1 → jFn P h L J f (layVals caps 500 ds).1.toArray (heapOf (layVals caps 500 ds).2) (dataK (· = rs)))
    (hcut : ∀ id ∈ pts, id ∉ loops → ∀ s b, L id s b → jNext P h L J f id .normal s b (dataK (· = rs)))
    (hl : ∀ id ∈ loops, Nonempty (LoopJ P h J f c (fnLv fn) id L (dataK (· = rs)))) : Con P f ds rs := by
  intro w args hr
  obtain ⟨caps, ρ, hst, g, ha⟩ := lay_gam hr hcount
  have hsz2 : max (layVals caps 500 ds).1.toArray.size fn.ntmps = fnSize fn := by simp [fnSize, layVals_len, hsz]
  refine callsIn_wide.1 ((jFn_run hh hmix hf hc (hk caps (capsL_of 40 ha)) (by rw [hsz2]; exact ptsOK_good hh hmix hf hc his hn hcut hl) g 0 (by simpa using ha)).mono ?_)
  rintro e w' ⟨v, H', ρ', v', hkv, rfl, hv, g'⟩
  obtain ⟨vs, ds', u, rfl, h1, rfl⟩ := dataK_out g' hv hkv
  exact ⟨⟨vs, u, rfl, h1⟩, g'.below.below hst⟩
end Go.Abs

/- What is left to show of each function, written out; the kernel reckons it. -/
namespace Go.Proofs.G5b
open Go Go.Abs Go.Proofs
set_option maxRecDepth 100000
set_option linter.unusedVariables false
abbrev Ct := FuncId → List D → List D → Prop
abbrev Bx := Slots → Blocks → Prop
abbrev Xx := Nat → Slots → Blocks → Prop
abbrev vI (n : Int) : Value := .int .i64 n
abbrev P1 (b o : Nat) : Value := .pointer (some ⟨b, o, none⟩)
abbrev hF : Handler := fun _ _ _ _ _ => False
abbrev wl (lo hi e : Int) : Blocks := [(901, .cells [vI lo, vI hi] 56 false 1), (902, .cells [vI e] 30 false 1)]
abbrev wm (lo hi e : Int) : Blocks := [(900, .cells [vI lo, vI hi] 56 false 1), (901, .cells [vI e] 30 false 1)]
def wt1 (cap : Nat) (lo hi e x : Int) (K : Value → Blocks → Prop) : Prop := wpFn Try.prog hF (fun _ _ _ => False) 6 66 #[.slice (some ⟨900, 0, none⟩) 1 cap, P1 901 0, P1 902 0] (heapOf ((900, .cells [vI x] 3 false 1) :: wl lo hi e)) (stateK K)
theorem wt1_text (cap : Nat) (lo : Int) (hi : Int) (e : Int) (x : Int) (K : Go.Value → Blocks → Prop) : wt1 cap lo hi e x K =
 (bcase (decide (x < lo))
 (K (vI e) [(Prod.mk 900 (AObj.cells [(vI x)] 3 false 1)), (Prod.mk 901 (AObj.cells [(vI lo), (vI hi)] 56 false 1)), (Prod.mk 902 (AObj.cells [(vI e)] 30 false 1))])
 (bcase (decide (x > hi))
 (K (vI e) [(Prod.mk 900 (AObj.cells [(vI x)] 3 false 1)), (Prod.mk 901 (AObj.cells [(vI lo), (vI hi)] 56 false 1)), (Prod.mk 902 (AObj.cells [(vI e)] 30 false 1))])
 (K (vI (0 : Int)) [(Prod.mk 900 (AObj.cells [(vI x)] 3 false 1)), (Prod.mk 901 (AObj.cells [(vI lo), (vI hi)] 56 false 1)), (Prod.mk 902 (AObj.cells [(vI e)] 30 false 1))]))) := by kernel_rfl
def wt2 (cap : Nat) (lo hi e x y : Int) (K : Value → Blocks → Prop) : Prop := wpFn Try.prog hF (fun _ _ _ => False) 6 66 #[.slice (some ⟨900, 0, none⟩) 2 cap, P1 901 0, P1 902 0] (heapOf ((900, .cells [vI x, vI y] 3 false 1) :: wl lo hi e)) (stateK K)
theorem wt2_text (cap : Nat) (lo : Int) (hi : Int) (e : Int) (x : Int) (y : Int) (K : Go.Value → Blocks → Prop) : wt2 cap lo hi e x y K =
 (bcase (decide (x < lo))
 (K (vI e) [(Prod.mk 900 (AObj.cells [(vI x), (vI y)] 3 false 1)), (Prod.mk 901 (AObj.cells [(vI lo), (vI hi)] 56 false 1)), (Prod.mk 902 (AObj.cells [(vI e)] 30 false 1))])
 (bcase (decide (x > hi))
 (K (vI e) [(Prod.mk 900 (AObj.cells [(vI x), (vI y)] 3 false 1)), (Prod.mk 901 (AObj.cells [(vI lo), (vI hi)] 56 false 1)), (Prod.mk 902 (AObj.cells [(vI e)] 30 false 1))])
 (bcase (decide (y < lo))
 (K (vI e) [(Prod.mk 900 (AObj.cells [(vI x), (vI y)] 3 false 1)), (Prod.mk 901 (AObj.cells [(vI lo), (vI hi)] 56 false 1)), (Prod.mk 902 (AObj.cells [(vI e)] 30 false 1))])
 (bcase (decide (y > hi))
 (K (vI e) [(Prod.mk 900 (AObj.cells [(vI x), (vI y)] 3 false 1)), (Prod.mk 901 (AObj.cells [(vI lo), (vI hi)] 56 false 1)), (Prod.mk 902 (AObj.cells [(vI e)] 30 false 1))])
 (K (vI (0 : Int)) [(Prod.mk 900 (AObj.cells [(vI x), (vI y)] 3 false 1)), (Prod.mk 901 (AObj.cells [(vI lo), (vI hi)] 56 false 1)), (Prod.mk 902 (AObj.cells [(vI e)] 30 false 1))]))))) := by kernel_rfl
def wt3 (cap : Nat) (lo hi e x y z : Int) (K : Value → Blocks → Prop) : Prop := wpFn Try.prog hF (fun _ _ _ => False) 6 66 #[.slice (some ⟨900, 0, none⟩) 3 cap, P1 901 0, P1 902 0] (heapOf ((900, .cells [vI x, vI y, vI z] 3 false 1) :: wl lo hi e)) (stateK K)
theorem wt3_text (cap : Nat) (lo : Int) (hi : Int) (e : Int) (x : Int) (y : Int) (z : Int) (K : Go.Value → Blocks → Prop) : wt3 cap lo hi e x y z K =
 (bcase (decide (x < lo))
 (K (vI e) [(Prod.mk 900 (AObj.cells [(vI x), (vI y), (vI z)] 3 false 1)), (Prod.mk 901 (AObj.cells [(vI lo), (vI hi)] 56 false 1)), (Prod.mk 902 (AObj.cells [(vI e)] 30 false 1))])
 (bcase (decide (x > hi))
 (K (vI e) [(Prod.mk 900 (AObj.cells [(vI x), (vI y), (vI z)] 3 false 1)), (Prod.mk 901 (AObj.cells [(vI lo), (vI hi)] 56 false 1)), (Prod.mk 902 (AObj.cells [(vI e)] 30 false 1))])
 (bcase (decide (y < lo))
 (K (vI e) [(Prod.mk 900 (AObj.cells [(vI x), (vI y), (vI z)] 3 false 1)), (Prod.mk 901 (AObj.cells [(vI lo), (vI hi)] 56 false 1)), (Prod.mk 902 (AObj.cells [(vI e)] 30 false 1))])
 (bcase (decide (y > hi))
 (K (vI e) [(Prod.mk 900 (AObj.cells [(vI x), (vI y), (vI z)] 3 false 1)), (Prod.mk 901 (AObj.cells [(vI lo), (vI hi)] 56 false 1)), (Prod.mk 902 (AObj.cells [(vI e)] 30 false 1))])
 (bcase (decide (z < lo))
 (K (vI e) [(Prod.mk 900 (AObj.cells [(vI x), (vI y), (vI z)] 3 false 1)), (Prod.mk 901 (AObj.cells [(vI lo), (vI hi)] 56 false 1)), (Prod.mk 902 (AObj.cells [(vI e)] 30 false 1))])
 (bcase (decide (z > hi))
 (K (vI e) [(Prod.mk 900 (AObj.cells [(vI x), (vI y), (vI z)] 3 false 1)), (Prod.mk 901 (AObj.cells [(vI lo), (vI hi)] 56 false 1)), (Prod.mk 902 (AObj.cells [(vI e)] 30 false 1))])
 (K (vI (0 : Int)) [(Prod.mk 900 (AObj.cells [(vI x), (vI y), (vI z)] 3 false 1)), (Prod.mk 901 (AObj.cells [(vI lo), (vI hi)] 56 false 1)), (Prod.mk 902 (AObj.cells [(vI e)] 30 false 1))]))))))) := by kernel_rfl
def wt4 (cap : Nat) (lo hi e x y z u : Int) (K : Value → Blocks → Prop) : Prop := wpFn Try.prog hF (fun _ _ _ => False) 6 66 #[.slice (some ⟨900, 0, none⟩) 4 cap, P1 901 0, P1 902 0] (heapOf ((900, .cells [vI x, vI y, vI z, vI u] 3 false 1) :: wl lo hi e)) (stateK K)
theorem wt4_text (cap : Nat) (lo : Int) (hi : Int) (e : Int) (x : Int) (y : Int) (z : Int) (u : Int) (K : Go.Value → Blocks → Prop) : wt4 cap lo hi e x y z u K =
 (bcase (decide (x < lo))
 (K (vI e) [(Prod.mk 900 (AObj.cells [(vI x), (vI y), (vI z), (vI u)] 3 false 1)), (Prod.mk 901 (AObj.cells [(vI lo), (vI hi)] 56 false 1)), (Prod.mk 902 (AObj.cells [(vI e)] 30 false 1))])
 (bcase (decide (x > hi))
 (K (vI e) [(Prod.mk 900 (AObj.cells [(vI x), (vI y), (vI z), (vI u)] 3 false 1)), (Prod.mk 901 (AObj.cells [(vI lo), (vI hi)] 56 false 1)), (Prod.mk 902 (AObj.cells [(vI e)] 30 false 1))])
 (bcase (decide (y < lo))
 (K (vI e) [(Prod.mk 900 (AObj.cells [(vI x), (vI y), (vI z), (vI u)] 3 false 1)), (Prod.mk 901 (AObj.cells [(vI lo), (vI hi)] 56 false 1)), (Prod.mk 902 (AObj.cells [(vI e)] 30 false 1))])
 (bcase (decide (y > hi))
 (K (vI e) [(Prod.mk 900 (AObj.cells [(vI x), (vI y), (vI z), (vI u)] 3 false 1)), (Prod.mk 901 (AObj.cells [(vI lo), (vI hi)] 56 false 1)), (Prod.mk 902 (AObj.cells [(vI e)] 30 false 1))])
 (bcase (decide (z < lo))
 (K (vI e) [(Prod.mk 900 (AObj.cells [(vI x), (vI y), (vI z), (vI u)] 3 false 1)), (Prod.mk 901 (AObj.cells [(vI lo), (vI hi)] 56 false 1)), (Prod.mk 902 (AObj.cells [(vI e)] 30 false 1))])
 (bcase (decide (z > hi))
 (K (vI e) [(Prod.mk 900 (AObj.cells [(vI x), (vI y), (vI z), (vI u)] 3 false 1)), (Prod.mk 901 (AObj.cells [(vI lo), (vI hi)] 56 false 1)), (Prod.mk 902 (AObj.cells [(vI e)] 30 false 1))])
 (bcase (decide (u < lo))
 (K (vI e) [(Prod.mk 900 (AObj.cells [(vI x), (vI y), (vI z), (vI u)] 3 false 1)), (Prod.mk 901 (AObj.cells [(vI lo), (vI hi)] 56 false 1)), (Prod.mk 902 (AObj.cells [(vI e)] 30 false 1))])
 (bcase (decide (u > hi))
 (K (vI e) [(Prod.mk 900 (AObj.cells [(vI x), (vI y), (vI z), (vI u)] 3 false 1)), (Prod.mk 901 (AObj.cells [(vI lo), (vI hi)] 56 false 1)), (Prod.mk 902 (AObj.cells [(vI e)] 30 false 1))])
 (K (vI (0 : Int)) [(Prod.mk 900 (AObj.cells [(vI x), (vI y), (vI z), (vI u)] 3 false 1)), (Prod.mk 901 (AObj.cells [(vI lo), (vI hi)] 56 false 1)), (Prod.mk 902 (AObj.cells [(vI e)] 30 false 1))]))))))))) := by kernel_rfl
def wt5 (cap : Nat) (lo hi e x y z u v : Int) (K : Value → Blocks → Prop) : Prop := wpFn Try.prog hF (fun _ _ _ => False) 6 66 #[.slice (some ⟨900, 0, none⟩) 5 cap, P1 901 0, P1 902 0] (heapOf ((900, .cells [vI x, vI y, vI z, vI u, vI v] 3 false 1) :: wl lo hi e)) (stateK K)
theorem wt5_text (cap : Nat) (lo : Int) (hi : Int) (e : Int) (x : Int) (y : Int) (z : Int) (u : Int) (v : Int) (K : Go.Value → Blocks → Prop) : wt5 cap lo hi e x y z u v K =
 (bcase (decide (x < lo))
 (K (vI e) [(Prod.mk 900 (AObj.cells [(vI x), (vI y), (vI z), (vI u), (vI v)] 3 false 1)), (Prod.mk 901 (AObj.cells [(vI lo), (vI hi)] 56 false 1)), (Prod.mk 902 (AObj.cells [(vI e)] 30 false 1))])
 (bcase (decide (x > hi))
 (K (vI e) [(Prod.mk 900 (AObj.cells [(vI x), (vI y), (vI z), (vI u), (vI v)] 3 false 1)), (Prod.mk 901 (AObj.cells [(vI lo), (vI hi)] 56 false 1)), (Prod.mk 902 (AObj.cells [(vI e)] 30 false 1))])
 (bcase (decide (y < lo))
 (K (vI e) [(Prod.mk 900 (AObj.cells [(vI x), (vI y), (vI z), (vI u), (vI v)] 3 false 1)), (Prod.mk 901 (AObj.cells [(vI lo), (vI hi)] 56 false 1)), (Prod.mk 902 (AObj.cells [(vI e)] 30 false 1))])
 (bcase (decide (y > hi))
 (K (vI e) [(Prod.mk 900 (AObj.cells [(vI x), (vI y), (vI z), (vI u), (vI v)] 3 false 1)), (Prod.mk 901 (AObj.cells [(vI lo), (vI hi)] 56 false 1)), (Prod.mk 902 (AObj.cells [(vI e)] 30 false 1))])
 (bcase (decide (z < lo))
 (K (vI e) [(Prod.mk 900 (AObj.cells [(vI x), (vI y), (vI z), (vI u), (vI v)] 3 false 1)), (Prod.mk 901 (AObj.cells [(vI lo), (vI hi)] 56 false 1)), (Prod.mk 902 (AObj.cells [(vI e)] 30 false 1))])
 (bcase (decide (z > hi))
 (K (vI e) [(Prod.mk 900 (AObj.cells [(vI x), (vI y), (vI z), (vI u), (vI v)] 3 false 1)), (Prod.mk 901 (AObj.cells [(vI lo), (vI hi)] 56 false 1)), (Prod.mk 902 (AObj.cells [(vI e)] 30 false 1))])
 (bcase (decide (u < lo))
 (K (vI e) [(Prod.mk 900 (AObj.cells [(vI x), (vI y), (vI z), (vI u), (vI v)] 3 false 1)), (Prod.mk 901 (AObj.cells [(vI lo), (vI hi)] 56 false 1)), (Prod.mk 902 (AObj.cells [(vI e)] 30 false 1))])
 (bcase (decide (u > hi))
 (K (vI e) [(Prod.mk 900 (AObj.cells [(vI x), (vI y), (vI z), (vI u), (vI v)] 3 false 1)), (Prod.mk 901 (AObj.cells [(vI lo), (vI hi)] 56 false 1)), (Prod.mk 902 (AObj.cells [(vI e)] 30 false 1))])
 (bcase (decide (v < lo))
 (K (vI e) [(Prod.mk 900 (AObj.cells [(vI x), (vI y), (vI z), (vI u), (vI v)] 3 false 1)), (Prod.mk 901 (AObj.cells [(vI lo), (vI hi)] 56 false 1)), (Prod.mk 902 (AObj.cells [(vI e)] 30 false 1))])
 (bcase (decide (v > hi))
 (K (vI e) [(Prod.mk 900 (AObj.cells [(vI x), (vI y), (vI z), (vI u), (vI v)] 3 false 1)), (Prod.mk 901 (AObj.cells [(vI lo), (vI hi)] 56 false 1)), (Prod.mk 902 (AObj.cells [(vI e)] 30 false 1))])
 (K (vI (0 : Int)) [(Prod.mk 900 (AObj.cells [(vI x), (vI y), (vI z), (vI u), (vI v)] 3 false 1)), (Prod.mk 901 (AObj.cells [(vI lo), (vI hi)] 56 false 1)), (Prod.mk 902 (AObj.cells [(vI e)] 30 false 1))]))))))))))) := by kernel_rfl
def wt0 (lo hi e : Int) (K : Value → Blocks → Prop) : Prop := wpFn Try.prog hF (fun _ _ _ => False) 6 66 #[.slice none 0 0, P1 900 0, P1 901 0] (heapOf (wm lo hi e)) (stateK K)
theorem wt0_text (lo : Int) (hi : Int) (e : Int) (K : Go.Value → Blocks → Prop) : wt0 lo hi e K =
 (K (vI (0 : Int)) [(Prod.mk 900 (AObj.cells [(vI lo), (vI hi)] 56 false 1)), (Prod.mk 901 (AObj.cells [(vI e)] 30 false 1))]) := by kernel_rfl
def wtH (L : AtLoop) (lo hi e : Int) (n cap : Nat) (l : List Value) (K : Value → Blocks → Prop) : Prop := wpFn Try.prog hF L 0 66 #[.slice (some ⟨500, 0, none⟩) n cap, P1 900 0, P1 901 0] (heapOf ((500, .sym l false 1) :: wm lo hi e)) (stateK K)
theorem wtH_text (L : AtLoop) (lo : Int) (hi : Int) (e : Int) (n : Nat) (cap : Nat) (l : List Go.Value) (K : Go.Value → Blocks → Prop) : wtH L lo hi e n cap l K =
 (L 0 [(Prod.mk 1 (Go.Value.pointer (Option.some (Go.Addr.mk 900 0 Option.none)))), (Prod.mk 2 (Go.Value.pointer (Option.some (Go.Addr.mk 901 0 Option.none)))), (Prod.mk 7 (Go.Value.slice (Option.some (Go.Addr.mk 500 0 Option.none)) (n) (cap))), (Prod.mk 8 (vI ((↑n : Int)))), (Prod.mk 9 (vI (0 : Int)))] [(Prod.mk 900 (AObj.cells [(vI lo), (vI hi)] 56 false 1)), (Prod.mk 901 (AObj.cells [(vI e)] 30 false 1)), (Prod.mk 500 (AObj.sym (l) false 1))]) := by kernel_rfl
def wtO (L : AtLoop) (lo hi e : Int) (n cap : Nat) (l : List Value) (K : Value → Blocks → Prop) : Prop := wpFn Try.prog hF L 0 66 #[.slice (some ⟨900, 0, none⟩) n cap, P1 901 0, P1 902 0] (heapOf ((900, .sym l true 1) :: wl lo hi e)) (stateK K)
theorem wtO_text (L : AtLoop) (lo : Int) (hi : Int) (e : Int) (n : Nat) (cap : Nat) (l : List Go.Value) (K : Go.Value → Blocks → Prop) : wtO L lo hi e n cap l K =
 (L 0 [(Prod.mk 1 (Go.Value.pointer (Option.some (Go.Addr.mk 901 0 Option.none)))), (Prod.mk 2 (Go.Value.pointer (Option.some (Go.Addr.mk 902 0 Option.none)))), (Prod.mk 7 (Go.Value.slice (Option.some (Go.Addr.mk 900 0 Option.none)) (n) (cap))), (Prod.mk 8 (vI ((↑n : Int)))), (Prod.mk 9 (vI (0 : Int)))] [(Prod.mk 901 (AObj.cells [(vI lo), (vI hi)] 56 false 1)), (Prod.mk 902 (AObj.cells [(vI e)] 30 false 1)), (Prod.mk 900 (AObj.sym (l) true 1))]) := by kernel_rfl
def sWH (n cap : Nat) (i : Int) : Slots := [(1, P1 900 0), (2, P1 901 0), (7, .slice (some ⟨500, 0, none⟩) n cap), (8, .int .i64 n), (9, vI i)]
def bWH (lo hi e : Int) (l : List Value) : Blocks := [(900, .cells [vI lo, vI hi] 56 false 1), (901, .cells [vI e] 30 false 1), (500, .sym l false 1)]
def rWH (L : AtLoop) (lo hi e : Int) (n cap : Nat) (l : List Value) (i : Int) (B : Bx) (X : Xx) (K : Value → Blocks → Prop) : Prop := wpRound Try.prog hF L 66 0 (sWH n cap i) (bWH lo hi e l) B X (stateK K)
theorem rWH_text (L : AtLoop) (lo : Int) (hi : Int) (e : Int) (n : Nat) (cap : Nat) (l : List Go.Value) (i : Int) (B : Bx) (X : Xx) (K : Go.Value → Blocks → Prop) : rWH L lo hi e n cap l i B X K =
 (bcase (decide (i < (↑n : Int)))
 (bcase (decide (0 ≤ i))
 (bcase (decide (i < (↑n : Int)))
 (∃ n1 : Int,
 ((At (l) (0 + Int.toNat i * 1) 1 [(vI n1)]) ∧
 (bcase (decide (n1 < lo))
 (K (vI e) [(Prod.mk 900 (AObj.cells [(vI lo), (vI hi)] 56 false 1)), (Prod.mk 901 (AObj.cells [(vI e)] 30 false 1))])
 (bcase (decide (n1 > hi))
 (K (vI e) [(Prod.mk 900 (AObj.cells [(vI lo), (vI hi)] 56 false 1)), (Prod.mk 901 (AObj.cells [(vI e)] 30 false 1))])
 (B [(Prod.mk 1 (Go.Value.pointer (Option.some (Go.Addr.mk 900 0 Option.none)))), (Prod.mk 2 (Go.Value.pointer (Option.some (Go.Addr.mk 901 0 Option.none)))), (Prod.mk 7 (Go.Value.slice (Option.some (Go.Addr.mk 500 0 Option.none)) (n) (cap))), (Prod.mk 8 (vI ((↑n : Int)))), (Prod.mk 9 (vI (IntKind.wrap .i64 (i + 1))))] [(Prod.mk 900 (AObj.cells [(vI lo), (vI hi)] 56 false 1)), (Prod.mk 901 (AObj.cells [(vI e)] 30 false 1)), (Prod.mk 500 (AObj.sym (l) false 1))])))))
 False)
 False)
 (X 0 [] [(Prod.mk 900 (AObj.cells [(vI lo), (vI hi)] 56 false 1)), (Prod.mk 901 (AObj.cells [(vI e)] 30 false 1))])) := by kernel_rfl
def nWH (L : AtLoop) (lo hi e : Int) (K : Value → Blocks → Prop) : Prop := wpNext Try.prog hF L 66 0 .normal [] (wm lo hi e) (stateK K)
theorem nWH_text (L : AtLoop) (lo : Int) (hi : Int) (e : Int) (K : Go.Value → Blocks → Prop) : nWH L lo hi e K =
 (K (vI (0 : Int)) [(Prod.mk 900 (AObj.cells [(vI lo), (vI hi)] 56 false 1)), (Prod.mk 901 (AObj.cells [(vI e)] 30 false 1))]) := by kernel_rfl
def sWO (n cap : Nat) (i : Int) : Slots := [(1, P1 901 0), (2, P1 902 0), (7, .slice (some ⟨900, 0, none⟩) n cap), (8, .int .i64 n), (9, vI i)]
def bWO (lo hi e : Int) (l : List Value) : Blocks := [(901, .cells [vI lo, vI hi] 56 false 1), (902, .cells [vI e] 30 false 1), (900, .sym l true 1)]
def rWO (L : AtLoop) (lo hi e : Int) (n cap : Nat) (l : List Value) (i : Int) (B : Bx) (X : Xx) (K : Value → Blocks → Prop) : Prop := wpRound Try.prog hF L 66 0 (sWO n cap i) (bWO lo hi e l) B X (stateK K)
theorem rWO_text (L : AtLoop) (lo : Int) (hi : Int) (e : Int) (n : Nat) (cap : Nat) (l : List Go.Value) (i : Int) (B : Bx) (X : Xx) (K : Go.Value → Blocks → Prop) : rWO L lo hi e n cap l i B X K =
 (bcase (decide (i < (↑n : Int)))
 (bcase (decide (0 ≤ i))
 (bcase (decide (i < (↑n : Int)))
 (∃ n1 : Int,
 ((At (l) (0 + Int.toNat i * 1) 1 [(vI n1)]) ∧
 (bcase (decide (n1 < lo))
 (K (vI e) [(Prod.mk 900 (AObj.sym (l) true 1)), (Prod.mk 901 (AObj.cells [(vI lo), (vI hi)] 56 false 1)), (Prod.mk 902 (AObj.cells [(vI e)] 30 false 1))])
 (bcase (decide (n1 > hi))
 (K (vI e) [(Prod.mk 900 (AObj.sym (l) true 1)), (Prod.mk 901 (AObj.cells [(vI lo), (vI hi)] 56 false 1)), (Prod.mk 902 (AObj.cells [(vI e)] 30 false 1))])
 (B [(Prod.mk 1 (Go.Value.pointer (Option.some (Go.Addr.mk 901 0 Option.none)))), (Prod.mk 2 (Go.Value.pointer (Option.some (Go.Addr.mk 902 0 Option.none)))), (Prod.mk 7 (Go.Value.slice (Option.some (Go.Addr.mk 900 0 Option.none)) (n) (cap))), (Prod.mk 8 (vI ((↑n : Int)))), (Prod.mk 9 (vI (IntKind.wrap .i64 (i + 1))))] [(Prod.mk 901 (AObj.cells [(vI lo), (vI hi)] 56 false 1)), (Prod.mk 902 (AObj.cells [(vI e)] 30 false 1)), (Prod.mk 900 (AObj.sym (l) true 1))])))))
 False)
 False)
 (X 0 [] [(Prod.mk 900 (AObj.sym (l) true 1)), (Prod.mk 901 (AObj.cells [(vI lo), (vI hi)] 56 false 1)), (Prod.mk 902 (AObj.cells [(vI e)] 30 false 1))])) := by kernel_rfl
def nWO (L : AtLoop) (lo hi e : Int) (l : List Value) (K : Value → Blocks → Prop) : Prop := wpNext Try.prog hF L 66 0 .normal [] ((900, .sym l true 1) :: wl lo hi e) (stateK K)
theorem nWO_text (L : AtLoop) (lo : Int) (hi : Int) (e : Int) (l : List Go.Value) (K : Go.Value → Blocks → Prop) : nWO L lo hi e l K =
 (K (vI (0 : Int)) [(Prod.mk 900 (AObj.sym (l) true 1)), (Prod.mk 901 (AObj.cells [(vI lo), (vI hi)] 56 false 1)), (Prod.mk 902 (AObj.cells [(vI e)] 30 false 1))]) := by kernel_rfl
end Go.Proofs.G5b

/- A call that gives back what it was handed: it holds. -/
namespace Go.Abs
open Go.RowKit
variable {P : Program} {H : Heap}
theorem layC_out : ∀ (ds : List D) {H : Heap} {k : List Value → Heap → Prop}, layC ds H k → ∃ vs H', LaidC H ds vs H' ∧ k vs H'
  | [], H, k, h => ⟨_, _, .nil H, h⟩
  | .nil :: r, H, k, h => by
    obtain ⟨vs, H', h1, h2⟩ := layC_out r h
    exact ⟨_, _, .nilS h1, h2⟩
  | .sl n es cs :: r, H, k, h => by
    obtain ⟨vs, H', h1, h2⟩ := layC_out r h
    exact ⟨_, _, .sl n es cs h1, h2⟩
  | .val v :: r, H, k, h => by
    unfold layC at h
    split at h
    · cases h
    · rename_i hv
      obtain ⟨vs, H', h1, h2⟩ := layC_out r h
      exact ⟨_, _, .val _ (fun cs e => hv cs e) h1, h2⟩
  | .agg _ :: _, H, k, h => by cases h
theorem layV_out : ∀ (ds : List D) {H : Heap} {k : List Value → Heap → Prop}, layV ds H k → ∃ vs H', LaidV H ds vs H' ∧ k vs H'
  | [], H, k, h => ⟨_, _, .nil H, h⟩
  | d :: r, H, k, h => by
    unfold layV at h
    split at h
    · rename_i e; cases e
    · rename_i e; cases e
      obtain ⟨vs, H1, h1, h⟩ := layC_out _ h
      obtain ⟨us, H2, h2, h3⟩ := layV_out _ h
      exact ⟨_, _, .agg h1 h2, h3⟩
    · rename_i e; cases e
      obtain ⟨vs, H1, h1, h⟩ := layC_out _ h
      split at h
      · obtain ⟨us, H2, h2, h3⟩ := layV_out _ h
        exact ⟨_, _, .one h1 h2, h3⟩
      · cases h
theorem wpFix_call {C : FuncId → List D → List D → Prop} (hC : ∀ f ds rs, C f ds rs → Con P f ds rs) {f : FuncId} {fix : List D → Option (List D)} {args : Array Value} {k : Value → Heap → Prop} (hk : wpFix C f fix args H k) : CallH P f args H k := by
  intro w0 ρ w args' n g ha
  obtain ⟨ds, hr, hk⟩ := readVals_out g _ ha hk
  split at hk
  · rename_i rs _
    obtain ⟨hs, hk⟩ := hk
    obtain ⟨vs, H', hl, hk⟩ := layV_out rs hk
    refine callsIn_wide.2 ((hC f ds rs hs.out w args' hr).mono ?_)
    rintro e w' ⟨⟨vs', u, rfl, hg⟩, hb⟩
    obtain ⟨ρ', g', l', e', _⟩ := laidV_sound hl (g.grow hb) g.below.size (fun i m hm => .inl (g.own i m hm).1) hg
    exact ⟨_, H', ρ', _, hk, rfl, tupleOf_R l', g', e'⟩
  · exact hk.elim
end Go.Abs

/- Handlers by a table hold if each entry does. -/
namespace Go.Abs
open Go.RowKit
variable {P : Program}
theorem saidH_ok {C : FuncId → List D → List D → Prop} (hC : ∀ f ds rs, C f ds rs → Con P f ds rs) : HandlerOK P (saidH P C) := by
  intro g args ats H k hk
  unfold saidH at hk
  split at hk
  · exact wpSaid_call hC hk
  · exact hk.elim
theorem fixH_ok {C : FuncId → List D → List D → Prop} (hC : ∀ f ds rs, C f ds rs → Con P f ds rs) {fix : List D → Option (List D)} : HandlerOK P (fixH C fix) := fun _ _ _ _ _ hk => wpFix_call hC hk
/-- (a state contract speaks of one function) -/
def PreOK (P : Program) (pre : FuncId → Option Handler) : Prop := ∀ g h, pre g = some h → ∀ args ats H k, h g args ats H k → CallH P g args H k
theorem handlerX_ok (hmix : P.follows .mixedOrders = true) {pre : FuncId → Option Handler} (hp : PreOK P pre) {u : Nat} (hu : u ≠ 0) : ∀ n, HandlerOK P (handlerX P pre u n)
  | 0 => fun _ _ _ _ _ h => h.elim
  | n + 1 => fun g args ats H k hk => by
    simp only [handlerX] at hk
    split at hk
    · rename_i h he
      exact hp g h he args ats H k hk
    · exact wpFn_call (handlerX_ok hmix hp hu n) hmix hu hk
theorem falseH_ok : HandlerOK P (fun _ _ _ _ _ => False) := fun _ _ _ _ _ h => h.elim
/-- A function whose loops are walked round by round. -/
theorem callS_walk {h : Handler} (hh : HandlerOK P h) (hmix : P.follows .mixedOrders = true) {u : Nat} (hu : u ≠ 0) {f : FuncId} {fn : Func} {c : Code} (hf : P.funcs[f]? = some fn) (hc : fn.body = some c) {args : List Value} {bs : Blocks} {K : Value → Blocks → Prop}
    (hk : wpFn P h (fun _ _ _ => False) u f args.toArray (heapOf bs) (stateK K)) : CallS P f args bs K := by
  intro w0 ρ w args' n g ha
  refine (wpFn_run (u := u) (b := false) hh hmix (fun h0 => absurd h0 hu) hf hc hk (fun h0 => absurd h0 hu) g n (by simpa using ha)).mono ?_
  rintro e w' ⟨v, H', ρ', v', hkv, rfl, hv, g', _⟩
  obtain ⟨v2, bs', ρ2, h1, h2, h3⟩ := stateK_out g' hv hkv
  exact ⟨v2, bs', ρ2, v', h1, rfl, h2, h3⟩
/-- The same, with data. -/
theorem con_walk {h : Handler} (hh : HandlerOK P h) (hmix : P.follows .mixedOrders = true) {u : Nat} (hu : u ≠ 0) {f : FuncId} {fn : Func} {c : Code} (hf : P.funcs[f]? = some fn) (hc : fn.body = some c) {ds rs : List D} (hcount : countV ds ≤ 400)
    (hk : ∀ caps, wpFn P h (fun _ _ _ => False) u f (layVals caps 500 ds).1.toArray (heapOf (layVals caps 500 ds).2) (dataK (· = rs))) : Con P f ds rs := by
  intro w args hr
  obtain ⟨caps, ρ, hst, g, ha⟩ := lay_gam hr hcount
  refine callsIn_wide.1 ((wpFn_run (u := u) (b := false) hh hmix (fun h0 => absurd h0 hu) hf hc (hk caps) (fun h0 => absurd h0 hu) g 0 (by simpa using ha)).mono ?_)
  rintro e w' ⟨v, H', ρ', v', hkv, rfl, hv, g', _⟩
  obtain ⟨vs, ds', u, rfl, h1, rfl⟩ := dataK_out g' hv hkv
  exact ⟨⟨vs, u, rfl, h1⟩, g'.below.below hst⟩
theorem callS_mono {f : FuncId} {args : List Value} {bs : Blocks} {K K' : Value → Blocks → Prop} (h : CallS P f args bs K) (hk : ∀ v b, K v b → K' v b) : CallS P f args bs K' := by
  intro w0 ρ w args' n g ha
  refine (h w0 ρ w args' n g ha).mono ?_
  rintro e w' ⟨v2, bs', ρ2, v', h1, h2, h3, h4⟩
  exact ⟨v2, bs', ρ2, v', hk _ _ h1, h2, h3, h4⟩
abbrev limBs (ti : TypeId) (cs : List Value) (lo hi : Int) : Blocks := [(900, .cells cs ti false 1), (901, .cells [.int .i64 lo] ti false 1), (902, .cells [.int .i64 hi] ti false 1)]
abbrev limArgs (n cap : Nat) : List Value := [.slice (some ⟨900, 0, none⟩) n cap, .pointer (some ⟨901, 0, none⟩), .pointer (some ⟨902, 0, none⟩)]
/-- What is left to show of the function that limit returns. -/
def limGoal (P : Program) (f : FuncId) (ti : TypeId) (n : Nat) (cs : List Value) (cap : Nat) (lo hi : Int) (K : Value → Blocks → Prop) : Prop :=
  wpFn P (fun _ _ _ _ _ => False) (fun _ _ _ => False) 6 f (limArgs n cap).toArray (heapOf (limBs ti cs lo hi)) (stateK K)
structure LimGood (P : Program) (f : FuncId) (ti : TypeId) : Prop where
  mix : P.follows .mixedOrders = true
  fn : ∃ fn c, P.funcs[f]? = some fn ∧ fn.body = some c
  one : ∀ cap lo hi x, limGoal P f ti 1 [.int .i64 x] cap lo hi (fun v b => v = .int .i64 (limE lo hi [.int .i64 x]) ∧ b = limBs ti [.int .i64 x] lo hi)
  two : ∀ cap lo hi x y, limGoal P f ti 2 [.int .i64 x, .int .i64 y] cap lo hi (fun v b => v = .int .i64 (limE lo hi [.int .i64 x, .int .i64 y]) ∧ b = limBs ti [.int .i64 x, .int .i64 y] lo hi)
  three : ∀ cap lo hi x y z, limGoal P f ti 3 [.int .i64 x, .int .i64 y, .int .i64 z] cap lo hi (fun v b => v = .int .i64 (limE lo hi [.int .i64 x, .int .i64 y, .int .i64 z]) ∧ b = limBs ti [.int .i64 x, .int .i64 y, .int .i64 z] lo hi)
  four : ∀ cap lo hi x y z u, limGoal P f ti 4 [.int .i64 x, .int .i64 y, .int .i64 z, .int .i64 u] cap lo hi (fun v b => v = .int .i64 (limE lo hi [.int .i64 x, .int .i64 y, .int .i64 z, .int .i64 u]) ∧ b = limBs ti [.int .i64 x, .int .i64 y, .int .i64 z, .int .i64 u] lo hi)
end Go.Abs

/- Pairs of whole numbers as cells. -/
namespace Go.Abs
theorem bc_t {p : Prop} [Decidable p] {x y : Prop} (h : p) : bcase (decide p) x y = x := by rw [decide_eq_true h]; rfl
theorem bc_f {p : Prop} [Decidable p] {x y : Prop} (h : ¬ p) : bcase (decide p) x y = y := by rw [decide_eq_false h]; rfl
/-- pairs of whole numbers as cells -/
def vp : List (Int × Int) → List Value
  | [] => []
  | p :: r => .int .i64 p.1 :: .int .i64 p.2 :: vp r
@[simp] theorem vp_length : ∀ l : List (Int × Int), (vp l).length = l.length * 2
  | [] => rfl
  | p :: r => by simp only [vp, List.length_cons, vp_length r]; omega
theorem vp_drop : ∀ (l : List (Int × Int)) (i : Nat), (vp l).drop (i * 2) = vp (l.drop i)
  | l, 0 => by simp
  | [], i + 1 => by simp [vp]
  | p :: r, i + 1 => by
    rw [Nat.add_mul]
    simp only [vp, Nat.one_mul, List.drop_succ_cons]
    exact vp_drop r i
theorem vp_two (l : List (Int × Int)) (i : Nat) (h : i < l.length) : At (vp l) (0 + i * 2) 2 [.int .i64 l[i].1, .int .i64 l[i].2] := by
  refine ⟨by rw [vp_length]; omega, ?_⟩
  rw [Nat.zero_add, vp_drop, List.drop_eq_getElem_cons h]
  rfl
theorem vp_one (l : List (Int × Int)) (i : Nat) (h : i < l.length) : At (vp l) (0 + i * 2) 1 [.int .i64 l[i].1] := by
  refine ⟨by rw [vp_length]; omega, ?_⟩
  rw [Nat.zero_add, vp_drop, List.drop_eq_getElem_cons h]
  rfl
theorem vp_snd (l : List (Int × Int)) (i : Nat) (h : i < l.length) : At (vp l) (0 + i * 2 + 1) 1 [.int .i64 l[i].2] := by
  refine ⟨by rw [vp_length]; omega, ?_⟩
  rw [Nat.zero_add, ← List.drop_drop, vp_drop, List.drop_eq_getElem_cons h]
  rfl
theorem vp_whole (l : List (Int × Int)) : List.take (l.length * 2) (List.drop 0 (vp l)) = vp l := by simp [List.take_of_length_le]
theorem bc_n {a b : Int} {x y : Prop} (h : a ≠ b) : bcase (a != b) x y = x := by rw [show (a != b) = true by simpa using h]; rfl
/-- what is loaded is what is there -/
theorem at1 {l : List Value} {k : Nat} {a : Int} (h : At l k 1 [.int .i64 a]) {Q : Int → Prop} : (∃ n : Int, At l k 1 [.int .i64 n] ∧ Q n) = Q a := by
  apply propext
  constructor
  · rintro ⟨n, hn, hq⟩
    have e := hn.eq.symm.trans h.eq
    simp only [List.cons.injEq, Value.int.injEq, true_and, and_true] at e
    rw [← e]; exact hq
  · intro hq; exact ⟨a, h, hq⟩
theorem at2 {l : List Value} {k : Nat} {a b : Int} (h : At l k 2 [.int .i64 a, .int .i64 b]) {Q : Int → Int → Prop} : (∃ n : Int, ∃ m : Int, At l k 2 [.int .i64 n, .int .i64 m] ∧ Q n m) = Q a b := by
  apply propext
  constructor
  · rintro ⟨n, m, hn, hq⟩
    have e := hn.eq.symm.trans h.eq
    simp only [List.cons.injEq, Value.int.injEq, true_and, and_true] at e
    obtain ⟨rfl, rfl⟩ := e; exact hq
  · intro hq; exact ⟨a, b, h, hq⟩
theorem vp_sndA (l : List (Int × Int)) (i : Nat) (h : i < l.length) (b : Nat) : At (vp l) (Addr.off ⟨b, 0 + i * 2, none⟩ + 1) 1 [.int .i64 l[i].2] := vp_snd l i h
abbrev dI (n : Int) : D := .val (.int .i64 n)
/-- the first number that is not naught -/
def fst0 : List Int → Int
  | [] => 0
  | p :: r => if p = 0 then fst0 r else p
theorem fst0_two (a b : Int) : fst0 [a, b] = if a = 0 then b else a := by
  simp only [fst0]
  split
  · split
    · omega
    · rfl
  · rfl
end Go.Abs

/- The closure of within: whatever it is handed. -/
namespace Go.Proofs.G5b
open Go Go.Abs Go.Proofs
set_option maxRecDepth 100000
theorem mixed : Try.prog.follows .mixedOrders = true := by kernel_rfl
theorem witC_out {g : FuncId} {lo hi e r : Int} {n es : Nat} {cs : List Value} (h : Says witC g [.val (.int .i64 lo), .val (.int .i64 hi), .val (.int .i64 e), .sl n es cs] [.val (.int .i64 r)]) : r = witE lo hi e cs := h.out
abbrev WK (lo hi e : Int) (cs : List Value) (bs : Blocks) : Value → Blocks → Prop := fun v b => v = .int .i64 (witE lo hi e cs) ∧ b = bs
theorem wit1 (cap : Nat) (lo hi e x : Int) : wt1 cap lo hi e x (WK lo hi e [vI x] ((900, .cells [vI x] 3 false 1) :: wl lo hi e)) := by
  rw [wt1_text]; unfold WK
  repeat' refine bc_dec (fun _ => ?_) (fun _ => ?_)
  all_goals refine ⟨congrArg (Value.int .i64) ?_, rfl⟩
  all_goals (simp only [witE]; repeat' split)
  all_goals first | rfl | omega
theorem wit2 (cap : Nat) (lo hi e x y : Int) : wt2 cap lo hi e x y (WK lo hi e [vI x, vI y] ((900, .cells [vI x, vI y] 3 false 1) :: wl lo hi e)) := by
  rw [wt2_text]; unfold WK
  repeat' refine bc_dec (fun _ => ?_) (fun _ => ?_)
  all_goals refine ⟨congrArg (Value.int .i64) ?_, rfl⟩
  all_goals (simp only [witE]; repeat' split)
  all_goals first | rfl | omega
theorem wit3 (cap : Nat) (lo hi e x y z : Int) : wt3 cap lo hi e x y z (WK lo hi e [vI x, vI y, vI z] ((900, .cells [vI x, vI y, vI z] 3 false 1) :: wl lo hi e)) := by
  rw [wt3_text]; unfold WK
  repeat' refine bc_dec (fun _ => ?_) (fun _ => ?_)
  all_goals refine ⟨congrArg (Value.int .i64) ?_, rfl⟩
  all_goals (simp only [witE]; repeat' split)
  all_goals first | rfl | omega
theorem wit4 (cap : Nat) (lo hi e x y z u : Int) : wt4 cap lo hi e x y z u (WK lo hi e [vI x, vI y, vI z, vI u] ((900, .cells [vI x, vI y, vI z, vI u] 3 false 1) :: wl lo hi e)) := by
  rw [wt4_text]; unfold WK
  repeat' refine bc_dec (fun _ => ?_) (fun _ => ?_)
  all_goals refine ⟨congrArg (Value.int .i64) ?_, rfl⟩
  all_goals (simp only [witE]; repeat' split)
  all_goals first | rfl | omega
theorem wit5 (cap : Nat) (lo hi e x y z u v : Int) : wt5 cap lo hi e x y z u v (WK lo hi e [vI x, vI y, vI z, vI u, vI v] ((900, .cells [vI x, vI y, vI z, vI u, vI v] 3 false 1) :: wl lo hi e)) := by
  rw [wt5_text]; unfold WK
  repeat' refine bc_dec (fun _ => ?_) (fun _ => ?_)
  all_goals refine ⟨congrArg (Value.int .i64) ?_, rfl⟩
  all_goals (simp only [witE]; repeat' split)
  all_goals first | rfl | omega
theorem wit0 (lo hi e : Int) : wt0 lo hi e (fun v b => v = .int .i64 0 ∧ b = wm lo hi e) := by
  rw [wt0_text]; exact ⟨rfl, rfl⟩
theorem witE_drop {lo hi e : Int} (l : List Int) (i : Nat) (h : i < l.length) : witE lo hi e (vi (l.drop i)) = if l[i] < lo ∨ l[i] > hi then e else witE lo hi e (vi (l.drop (i + 1))) := by
  rw [List.drop_eq_getElem_cons h]; rfl
theorem witH (cap : Nat) (lo hi e : Int) (l : List Int) (hlen : l.length < 1000000000) : CallS Try.prog 66 [.slice (some ⟨500, 0, none⟩) l.length cap, P1 900 0, P1 901 0] ((500, .sym (vi l) false 1) :: wm lo hi e) (WK lo hi e (vi l) (wm lo hi e)) := by
  let inv : Nat → Prop := fun i => i ≤ l.length ∧ witE lo hi e (vi l) = witE lo hi e (vi (l.drop i))
  let st : Nat → Slots × Blocks := fun i => (sWH l.length cap i, bWH lo hi e (vi l))
  refine callS_ofG (L := fun _ s b => ∃ x, inv x ∧ st x = (s, b)) falseH_ok mixed Try.func66 rfl rfl (ids := [0]) (by kernel_rfl) rfl ?_ (fun id hid => ?_)
  · show wtH _ lo hi e l.length cap (vi l) _
    rw [wtH_text]
    exact ⟨0, ⟨Nat.zero_le _, rfl⟩, rfl⟩
  · obtain rfl := List.mem_singleton.1 hid
    refine ⟨_, st, inv, fun i => l.length - i, ⟨fun s b h => h, by kernel_rfl, ?_⟩⟩
    rintro i ⟨hi', hm⟩
    show rWH _ lo hi e l.length cap (vi l) (i : Int) _ _ _
    rw [rWH_text]
    refine bc_dec (fun h => ?_) (fun h => ?_)
    · have hi2 : i < l.length := by omega
      rw [witE_drop l i hi2] at hm
      simp only [bc_t h, bc_t (show (0 : Int) ≤ (i : Int) by omega), Int.toNat_natCast, at1 (vi_at l i hi2)]
      refine bc_dec (fun h1 => ?_) (fun h1 => bc_dec (fun h2 => ?_) (fun h2 => ?_))
      · rw [if_pos (.inl h1)] at hm; exact ⟨by rw [hm], rfl⟩
      · rw [if_pos (.inr h2)] at hm; exact ⟨by rw [hm], rfl⟩
      · rw [if_neg (by omega)] at hm
        refine ⟨i + 1, ⟨hi2, hm⟩, by omega, ?_⟩
        rw [w64 (by omega) (by omega)]; rfl
    · show (if 0 = 0 then _ else _)
      rw [if_pos rfl]
      show nWH _ lo hi e _
      rw [nWH_text]
      have : i = l.length := by omega
      rw [this, List.drop_length] at hm
      exact ⟨by rw [hm]; rfl, rfl⟩
theorem witO (cap : Nat) (lo hi e : Int) (l : List Int) (hlen : l.length < 1000000000) : CallS Try.prog 66 [.slice (some ⟨900, 0, none⟩) l.length cap, P1 901 0, P1 902 0] ((900, .sym (vi l) true 1) :: wl lo hi e) (WK lo hi e (vi l) ((900, .sym (vi l) true 1) :: wl lo hi e)) := by
  let inv : Nat → Prop := fun i => i ≤ l.length ∧ witE lo hi e (vi l) = witE lo hi e (vi (l.drop i))
  let st : Nat → Slots × Blocks := fun i => (sWO l.length cap i, bWO lo hi e (vi l))
  refine callS_ofG (L := fun _ s b => ∃ x, inv x ∧ st x = (s, b)) falseH_ok mixed Try.func66 rfl rfl (ids := [0]) (by kernel_rfl) rfl ?_ (fun id hid => ?_)
  · show wtO _ lo hi e l.length cap (vi l) _
    rw [wtO_text]
    exact ⟨0, ⟨Nat.zero_le _, rfl⟩, rfl⟩
  · obtain rfl := List.mem_singleton.1 hid
    refine ⟨_, st, inv, fun i => l.length - i, ⟨fun s b h => h, by kernel_rfl, ?_⟩⟩
    rintro i ⟨hi', hm⟩
    show rWO _ lo hi e l.length cap (vi l) (i : Int) _ _ _
    rw [rWO_text]
    refine bc_dec (fun h => ?_) (fun h => ?_)
    · have hi2 : i < l.length := by omega
      rw [witE_drop l i hi2] at hm
      simp only [bc_t h, bc_t (show (0 : Int) ≤ (i : Int) by omega), Int.toNat_natCast, at1 (vi_at l i hi2)]
      refine bc_dec (fun h1 => ?_) (fun h1 => bc_dec (fun h2 => ?_) (fun h2 => ?_))
      · rw [if_pos (.inl h1)] at hm; exact ⟨by rw [hm], rfl⟩
      · rw [if_pos (.inr h2)] at hm; exact ⟨by rw [hm], rfl⟩
      · rw [if_neg (by omega)] at hm
        refine ⟨i + 1, ⟨hi2, hm⟩, by omega, ?_⟩
        rw [w64 (by omega) (by omega)]; rfl
    · show (if 0 = 0 then _ else _)
      rw [if_pos rfl]
      show nWO _ lo hi e (vi l) _
      rw [nWO_text]
      have : i = l.length := by omega
      rw [this, List.drop_length] at hm
      exact ⟨by rw [hm]; rfl, rfl⟩
theorem wit_run {args : List Value} {bs : Blocks} {lo hi e : Int} {n : Nat} {cs : List Value} {bs' : Blocks} {K : Value → Blocks → Prop} (h1 : CallS Try.prog 66 args bs (WK lo hi e cs bs')) (h2 : witOut lo hi e n cs bs' K) : CallS Try.prog 66 args bs K := by
  refine callS_mono h1 ?_
  rintro v b ⟨rfl, rfl⟩
  obtain ⟨r, hr, hK⟩ := h2
  rw [← witC_out hr]; exact hK
theorem wit_ok {args : List Value} {bs : Blocks} {K : Value → Blocks → Prop} (hk : witAll 3 56 30 args bs K) : CallS Try.prog 66 args bs K := by
  have wk : ∀ {args : List Value} {bs : Blocks} {K : Value → Blocks → Prop}, wpFn Try.prog hF (fun _ _ _ => False) 6 66 args.toArray (heapOf bs) (stateK K) → CallS Try.prog 66 args bs K := fun h => callS_walk falseH_ok mixed (by decide) Try.func66 rfl h
  unfold witAll at hk
  split at hk
  · split at hk
    · rename_i hc
      simp only [Bool.and_eq_true, beq_iff_eq] at hc
      obtain ⟨⟨⟨⟨⟨⟨⟨⟨rfl, rfl⟩, rfl⟩, rfl⟩, rfl⟩, rfl⟩, rfl⟩, rfl⟩, rfl⟩ := hc
      split at hk
      · split at hk
        · rename_i hd
          simp only [Bool.and_eq_true, beq_iff_eq] at hd
          obtain ⟨⟨⟨⟨⟨⟨rfl, rfl⟩, rfl⟩, rfl⟩, rfl⟩, rfl⟩, hm⟩ := hd
          split at hk
          · subst hm; exact wit_run (wk (wit1 _ _ _ _ _)) hk
          · subst hm; exact wit_run (wk (wit2 _ _ _ _ _ _)) hk
          · subst hm; exact wit_run (wk (wit3 _ _ _ _ _ _ _)) hk
          · subst hm; exact wit_run (wk (wit4 _ _ _ _ _ _ _ _)) hk
          · subst hm; exact wit_run (wk (wit5 _ _ _ _ _ _ _ _ _)) hk
          · exact hk.elim
        · exact hk.elim
      · split at hk
        · rename_i hd
          simp only [Bool.and_eq_true, beq_iff_eq] at hd
          obtain ⟨⟨⟨⟨rfl, rfl⟩, rfl⟩, rfl⟩, rfl⟩ := hd
          obtain ⟨l, rfl, rfl, hl, hk⟩ := hk
          exact wit_run (witH _ _ _ _ l hl) hk
        · split at hk
          · rename_i hd
            simp only [Bool.and_eq_true, beq_iff_eq] at hd
            obtain ⟨⟨⟨⟨rfl, rfl⟩, rfl⟩, rfl⟩, rfl⟩ := hd
            obtain ⟨l, rfl, rfl, hl, hk⟩ := hk
            exact wit_run (witO _ _ _ _ l hl) hk
          · exact hk.elim
      · exact hk.elim
    · exact hk.elim
  · split at hk
    · rename_i hc
      simp only [Bool.and_eq_true, beq_iff_eq] at hc
      obtain ⟨⟨⟨⟨⟨⟨⟨⟨⟨rfl, rfl⟩, rfl⟩, rfl⟩, rfl⟩, rfl⟩, rfl⟩, rfl⟩, rfl⟩, rfl⟩ := hc
      refine callS_mono (wk (wit0 _ _ _)) ?_
      rintro v b ⟨rfl, rfl⟩
      exact hk
    · exact hk.elim
  · exact hk.elim
end Go.Proofs.G5b

/- What is left to show of each function, written out; the kernel reckons it. -/
namespace Go.Proofs.G5b
open Go Go.Abs Go.Proofs
set_option maxRecDepth 100000
set_option linter.unusedVariables false
abbrev S500 (n cap : Nat) : Value := .slice (some ⟨500, 0, none⟩) n cap
abbrev S501 (n cap : Nat) : Value := .slice (some ⟨501, 0, none⟩) n cap
abbrev Q500 (l : List Value) : Nat × AObj := (500, .sym l false 1)
abbrev Q501 (l : List Value) : Nat × AObj := (501, .sym l false 1)
abbrev T500 (l : List Value) : Nat × AObj := (500, .sym l false 2)
abbrev vA (a b c d : Int) : Value := .agg #[vI a, vI b, vI c, vI d]
def preG (C : Ct) : FuncId → Option Handler := fun g => if g == 66 then some (stateH (witAll 3 56 30)) else if g == 20 then some (fixH C copyInts) else if [7, 37, 38, 34, 64, 62, 79, 999999, 999999, 31, 999999, 999999, 999999, 15, 26, 999999, 999999, 999999, 999999, 63].contains g then some (saidH Try.prog C) else none
abbrev hG (C : Ct) : Handler := handlerX Try.prog (preG C) 12 6
abbrev hE (C : Ct) : Handler := handlerX Try.prog (fun _ => none) 12 6
def gFE (C : Ct) (L : AtLoop) (n cap : Nat) (l : List Value) (k : List D → Prop) : Prop := wpFn Try.prog (hG C) L 0 37 #[S500 n cap] (heapOf [Q500 l]) (dataK k)
theorem gFE_text (C : Ct) (L : AtLoop) (n : Nat) (cap : Nat) (l : List Go.Value) (k : List D → Prop) : gFE C L n cap l k =
 (L 0 [(Prod.mk 5 (Go.Value.slice (Option.some (Go.Addr.mk 500 0 Option.none)) (n) (cap))), (Prod.mk 6 (vI ((↑n : Int)))), (Prod.mk 7 (vI (0 : Int)))] [(Prod.mk 500 (AObj.sym (l) false 1))]) := by kernel_rfl
def gCS (C : Ct) (L : AtLoop) (a : Int) (n cap : Nat) (l : List Value) (k : List D → Prop) : Prop := wpFn Try.prog (hG C) L 0 38 #[vI a, S500 n cap] (heapOf [Q500 l]) (dataK k)
theorem gCS_text (C : Ct) (L : AtLoop) (a : Int) (n : Nat) (cap : Nat) (l : List Go.Value) (k : List D → Prop) : gCS C L a n cap l k =
 (L 0 [(Prod.mk 0 (vI a)), (Prod.mk 7 (Go.Value.slice (Option.some (Go.Addr.mk 500 0 Option.none)) (n) (cap))), (Prod.mk 8 (vI ((↑n : Int)))), (Prod.mk 9 (vI (0 : Int)))] [(Prod.mk 500 (AObj.sym (l) false 1))]) := by kernel_rfl
def gCC (C : Ct) (L : AtLoop) (a b : Int) (k : List D → Prop) : Prop := wpFn Try.prog (hG C) L 0 34 #[vI a, vI b] (heapOf []) (dataK k)
theorem gCC_text (C : Ct) (L : AtLoop) (a : Int) (b : Int) (k : List D → Prop) : gCC C L a b k =
 (bcase (a == 0)
 (k [(D.val (vI (10 : Int)))])
 (bcase (decide (a > b))
 (k [(D.val (vI (8 : Int)))])
 (k [(D.val (vI (0 : Int)))]))) := by kernel_rfl
def gWi (C : Ct) (L : AtLoop) (a b c : Int) (k : List D → Prop) : Prop := wpFn Try.prog (hG C) L 0 26 #[vI a, vI b, vI c] (heapOf []) (dataK k)
theorem gWi_text (C : Ct) (L : AtLoop) (a : Int) (b : Int) (c : Int) (k : List D → Prop) : gWi C L a b c k =
 (bcase (decide (b ≤ a))
 (bcase (decide (a ≤ c))
 (k [(D.val (Value.bool true))])
 (k [(D.val (Value.bool false))]))
 (k [(D.val (Value.bool false))])) := by kernel_rfl
def gTk (C : Ct) (L : AtLoop) (a b c d y : Int) (k : List D → Prop) : Prop := wpFn Try.prog (hG C) L 0 64 #[vA a b c d, vI y] (heapOf []) (dataK k)
theorem gTk_text (C : Ct) (L : AtLoop) (a : Int) (b : Int) (c : Int) (d : Int) (y : Int) (k : List D → Prop) : gTk C L a b c d y k =
 (bcase (decide ((if IntKind.wrap .i64 (0 - y) > y then IntKind.wrap .i64 (0 - y) else y) ≤ d))
 (k [(D.val (vI (0 : Int)))])
 (bcase (c != 0)
 (k [(D.val (vI (IntKind.wrap .i64 (Int.tdiv (IntKind.wrap .i64 (b * y)) c))))])
 False)) := by kernel_rfl
def gCM (C : Ct) (L : AtLoop) (a b c d : Int) (k : List D → Prop) : Prop := wpFn Try.prog (hG C) L 0 79 #[vA a b c d] (heapOf []) (dataK k)
theorem gCM_text (C : Ct) (L : AtLoop) (a : Int) (b : Int) (c : Int) (d : Int) (k : List D → Prop) : gCM C L a b c d k =
 (((((Go.Value.slice (Option.some (Go.Addr.mk 1004 0 Option.none)) 1 1) = (Go.Value.slice (Option.some (Go.Addr.mk 1004 0 Option.none)) 1 1)) ∧
 ((Option.some (AObj.cells [(vI d)] 3 false 1)) = (Option.some (AObj.cells [(vI d)] 3 false 1)))) ∧
 (((vI d) = (vI d)) ∧
 (((Go.Value.pointer (Option.some (Go.Addr.mk 1000 3 Option.none))) = (Go.Value.pointer (Option.some (Go.Addr.mk 1000 3 Option.none)))) ∧
 ((((Go.Value.slice (Option.some (Go.Addr.mk 1003 0 Option.none)) 1 1) = (Go.Value.slice (Option.some (Go.Addr.mk 1003 0 Option.none)) 1 1)) ∧
 ((Option.some (AObj.cells [(vI c)] 3 false 1)) = (Option.some (AObj.cells [(vI c)] 3 false 1)))) ∧
 (((vI c) = (vI c)) ∧
 (((Go.Value.pointer (Option.some (Go.Addr.mk 1000 2 Option.none))) = (Go.Value.pointer (Option.some (Go.Addr.mk 1000 2 Option.none)))) ∧
 ((((Go.Value.slice (Option.some (Go.Addr.mk 1002 0 Option.none)) 1 1) = (Go.Value.slice (Option.some (Go.Addr.mk 1002 0 Option.none)) 1 1)) ∧
 ((Option.some (AObj.cells [(vI b)] 3 false 1)) = (Option.some (AObj.cells [(vI b)] 3 false 1)))) ∧
 (((vI b) = (vI b)) ∧
 (((Go.Value.pointer (Option.some (Go.Addr.mk 1000 1 Option.none))) = (Go.Value.pointer (Option.some (Go.Addr.mk 1000 1 Option.none)))) ∧
 ((((Go.Value.slice (Option.some (Go.Addr.mk 1001 0 Option.none)) 1 1) = (Go.Value.slice (Option.some (Go.Addr.mk 1001 0 Option.none)) 1 1)) ∧
 ((Option.some (AObj.cells [(vI a)] 3 false 1)) = (Option.some (AObj.cells [(vI a)] 3 false 1)))) ∧
 (((vI a) = (vI a)) ∧
 (((Go.Value.pointer (Option.some (Go.Addr.mk 1000 0 Option.none))) = (Go.Value.pointer (Option.some (Go.Addr.mk 1000 0 Option.none)))) ∧
 True)))))))))))) ∧
 (((((Go.Value.slice (Option.some (Go.Addr.mk 1004 0 Option.none)) 1 1) = (Go.Value.slice (Option.some (Go.Addr.mk 1004 0 Option.none)) 1 1)) ∧
 ((Option.some (AObj.cells [(vI d)] 3 false 1)) = (Option.some (AObj.cells [(vI d)] 3 false 1)))) ∧
 (((vI d) = (vI d)) ∧
 (((Go.Value.pointer (Option.some (Go.Addr.mk 1000 3 Option.none))) = (Go.Value.pointer (Option.some (Go.Addr.mk 1000 3 Option.none)))) ∧
 ((((Go.Value.slice (Option.some (Go.Addr.mk 1003 0 Option.none)) 1 1) = (Go.Value.slice (Option.some (Go.Addr.mk 1003 0 Option.none)) 1 1)) ∧
 ((Option.some (AObj.cells [(vI c)] 3 false 1)) = (Option.some (AObj.cells [(vI c)] 3 false 1)))) ∧
 (((vI c) = (vI c)) ∧
 (((Go.Value.pointer (Option.some (Go.Addr.mk 1000 2 Option.none))) = (Go.Value.pointer (Option.some (Go.Addr.mk 1000 2 Option.none)))) ∧
 ((((Go.Value.slice (Option.some (Go.Addr.mk 1002 0 Option.none)) 1 1) = (Go.Value.slice (Option.some (Go.Addr.mk 1002 0 Option.none)) 1 1)) ∧
 ((Option.some (AObj.cells [(vI b)] 3 false 1)) = (Option.some (AObj.cells [(vI b)] 3 false 1)))) ∧
 (((vI b) = (vI b)) ∧
 (((Go.Value.pointer (Option.some (Go.Addr.mk 1000 1 Option.none))) = (Go.Value.pointer (Option.some (Go.Addr.mk 1000 1 Option.none)))) ∧
 ((((Go.Value.slice (Option.some (Go.Addr.mk 1001 0 Option.none)) 1 1) = (Go.Value.slice (Option.some (Go.Addr.mk 1001 0 Option.none)) 1 1)) ∧
 ((Option.some (AObj.cells [(vI a)] 3 false 1)) = (Option.some (AObj.cells [(vI a)] 3 false 1)))) ∧
 (((vI a) = (vI a)) ∧
 (((Go.Value.pointer (Option.some (Go.Addr.mk 1000 0 Option.none))) = (Go.Value.pointer (Option.some (Go.Addr.mk 1000 0 Option.none)))) ∧
 True)))))))))))) ∧
 (∃ r1 : Int,
 ((Says witC 0 [(D.val (vI (0 : Int))), (D.val (vI (10 : Int))), (D.val (vI (2 : Int))), (D.sl 1 1 [(vI a)])] [(D.val (vI r1))]) ∧
 (((((Go.Value.slice (Option.some (Go.Addr.mk 1004 0 Option.none)) 1 1) = (Go.Value.slice (Option.some (Go.Addr.mk 1004 0 Option.none)) 1 1)) ∧
 ((Option.some (AObj.cells [(vI d)] 3 false 1)) = (Option.some (AObj.cells [(vI d)] 3 false 1)))) ∧
 (((vI d) = (vI d)) ∧
 (((Go.Value.pointer (Option.some (Go.Addr.mk 1000 3 Option.none))) = (Go.Value.pointer (Option.some (Go.Addr.mk 1000 3 Option.none)))) ∧
 ((((Go.Value.slice (Option.some (Go.Addr.mk 1003 0 Option.none)) 1 1) = (Go.Value.slice (Option.some (Go.Addr.mk 1003 0 Option.none)) 1 1)) ∧
 ((Option.some (AObj.cells [(vI c)] 3 false 1)) = (Option.some (AObj.cells [(vI c)] 3 false 1)))) ∧
 (((vI c) = (vI c)) ∧
 (((Go.Value.pointer (Option.some (Go.Addr.mk 1000 2 Option.none))) = (Go.Value.pointer (Option.some (Go.Addr.mk 1000 2 Option.none)))) ∧
 ((((Go.Value.slice (Option.some (Go.Addr.mk 1002 0 Option.none)) 1 1) = (Go.Value.slice (Option.some (Go.Addr.mk 1002 0 Option.none)) 1 1)) ∧
 ((Option.some (AObj.cells [(vI b)] 3 false 1)) = (Option.some (AObj.cells [(vI b)] 3 false 1)))) ∧
 (((vI b) = (vI b)) ∧
 (((Go.Value.pointer (Option.some (Go.Addr.mk 1000 1 Option.none))) = (Go.Value.pointer (Option.some (Go.Addr.mk 1000 1 Option.none)))) ∧
 (((vI a) = (vI a)) ∧
 (((Go.Value.pointer (Option.some (Go.Addr.mk 1000 0 Option.none))) = (Go.Value.pointer (Option.some (Go.Addr.mk 1000 0 Option.none)))) ∧
 True))))))))))) ∧
 (((((Go.Value.slice (Option.some (Go.Addr.mk 1004 0 Option.none)) 1 1) = (Go.Value.slice (Option.some (Go.Addr.mk 1004 0 Option.none)) 1 1)) ∧
 ((Option.some (AObj.cells [(vI d)] 3 false 1)) = (Option.some (AObj.cells [(vI d)] 3 false 1)))) ∧
 (((vI d) = (vI d)) ∧
 (((Go.Value.pointer (Option.some (Go.Addr.mk 1000 3 Option.none))) = (Go.Value.pointer (Option.some (Go.Addr.mk 1000 3 Option.none)))) ∧
 ((((Go.Value.slice (Option.some (Go.Addr.mk 1003 0 Option.none)) 1 1) = (Go.Value.slice (Option.some (Go.Addr.mk 1003 0 Option.none)) 1 1)) ∧
 ((Option.some (AObj.cells [(vI c)] 3 false 1)) = (Option.some (AObj.cells [(vI c)] 3 false 1)))) ∧
 (((vI c) = (vI c)) ∧
 (((Go.Value.pointer (Option.some (Go.Addr.mk 1000 2 Option.none))) = (Go.Value.pointer (Option.some (Go.Addr.mk 1000 2 Option.none)))) ∧
 ((((Go.Value.slice (Option.some (Go.Addr.mk 1002 0 Option.none)) 1 1) = (Go.Value.slice (Option.some (Go.Addr.mk 1002 0 Option.none)) 1 1)) ∧
 ((Option.some (AObj.cells [(vI b)] 3 false 1)) = (Option.some (AObj.cells [(vI b)] 3 false 1)))) ∧
 (((vI b) = (vI b)) ∧
 (((Go.Value.pointer (Option.some (Go.Addr.mk 1000 1 Option.none))) = (Go.Value.pointer (Option.some (Go.Addr.mk 1000 1 Option.none)))) ∧
 (((vI a) = (vI a)) ∧
 (((Go.Value.pointer (Option.some (Go.Addr.mk 1000 0 Option.none))) = (Go.Value.pointer (Option.some (Go.Addr.mk 1000 0 Option.none)))) ∧
 True))))))))))) ∧
 (∃ r2 : Int,
 ((Says witC 0 [(D.val (vI (0 : Int))), (D.val (vI (100 : Int))), (D.val (vI (2 : Int))), (D.sl 1 1 [(vI b)])] [(D.val (vI r2))]) ∧
 (((((Go.Value.slice (Option.some (Go.Addr.mk 1004 0 Option.none)) 1 1) = (Go.Value.slice (Option.some (Go.Addr.mk 1004 0 Option.none)) 1 1)) ∧
 ((Option.some (AObj.cells [(vI d)] 3 false 1)) = (Option.some (AObj.cells [(vI d)] 3 false 1)))) ∧
 (((vI d) = (vI d)) ∧
 (((Go.Value.pointer (Option.some (Go.Addr.mk 1000 3 Option.none))) = (Go.Value.pointer (Option.some (Go.Addr.mk 1000 3 Option.none)))) ∧
 ((((Go.Value.slice (Option.some (Go.Addr.mk 1003 0 Option.none)) 1 1) = (Go.Value.slice (Option.some (Go.Addr.mk 1003 0 Option.none)) 1 1)) ∧
 ((Option.some (AObj.cells [(vI c)] 3 false 1)) = (Option.some (AObj.cells [(vI c)] 3 false 1)))) ∧
 (((vI c) = (vI c)) ∧
 (((Go.Value.pointer (Option.some (Go.Addr.mk 1000 2 Option.none))) = (Go.Value.pointer (Option.some (Go.Addr.mk 1000 2 Option.none)))) ∧
 (((vI b) = (vI b)) ∧
 (((Go.Value.pointer (Option.some (Go.Addr.mk 1000 1 Option.none))) = (Go.Value.pointer (Option.some (Go.Addr.mk 1000 1 Option.none)))) ∧
 (((vI a) = (vI a)) ∧
 (((Go.Value.pointer (Option.some (Go.Addr.mk 1000 0 Option.none))) = (Go.Value.pointer (Option.some (Go.Addr.mk 1000 0 Option.none)))) ∧
 True)))))))))) ∧
 (((((Go.Value.slice (Option.some (Go.Addr.mk 1004 0 Option.none)) 1 1) = (Go.Value.slice (Option.some (Go.Addr.mk 1004 0 Option.none)) 1 1)) ∧
 ((Option.some (AObj.cells [(vI d)] 3 false 1)) = (Option.some (AObj.cells [(vI d)] 3 false 1)))) ∧
 (((vI d) = (vI d)) ∧
 (((Go.Value.pointer (Option.some (Go.Addr.mk 1000 3 Option.none))) = (Go.Value.pointer (Option.some (Go.Addr.mk 1000 3 Option.none)))) ∧
 ((((Go.Value.slice (Option.some (Go.Addr.mk 1003 0 Option.none)) 1 1) = (Go.Value.slice (Option.some (Go.Addr.mk 1003 0 Option.none)) 1 1)) ∧
 ((Option.some (AObj.cells [(vI c)] 3 false 1)) = (Option.some (AObj.cells [(vI c)] 3 false 1)))) ∧
 (((vI c) = (vI c)) ∧
 (((Go.Value.pointer (Option.some (Go.Addr.mk 1000 2 Option.none))) = (Go.Value.pointer (Option.some (Go.Addr.mk 1000 2 Option.none)))) ∧
 (((vI b) = (vI b)) ∧
 (((Go.Value.pointer (Option.some (Go.Addr.mk 1000 1 Option.none))) = (Go.Value.pointer (Option.some (Go.Addr.mk 1000 1 Option.none)))) ∧
 (((vI a) = (vI a)) ∧
 (((Go.Value.pointer (Option.some (Go.Addr.mk 1000 0 Option.none))) = (Go.Value.pointer (Option.some (Go.Addr.mk 1000 0 Option.none)))) ∧
 True)))))))))) ∧
 (∃ r3 : Int,
 ((Says witC 0 [(D.val (vI (1 : Int))), (D.val (vI (100 : Int))), (D.val (vI (2 : Int))), (D.sl 1 1 [(vI c)])] [(D.val (vI r3))]) ∧
 (((((Go.Value.slice (Option.some (Go.Addr.mk 1004 0 Option.none)) 1 1) = (Go.Value.slice (Option.some (Go.Addr.mk 1004 0 Option.none)) 1 1)) ∧
 ((Option.some (AObj.cells [(vI d)] 3 false 1)) = (Option.some (AObj.cells [(vI d)] 3 false 1)))) ∧
 (((vI d) = (vI d)) ∧
 (((Go.Value.pointer (Option.some (Go.Addr.mk 1000 3 Option.none))) = (Go.Value.pointer (Option.some (Go.Addr.mk 1000 3 Option.none)))) ∧
 (((vI c) = (vI c)) ∧
 (((Go.Value.pointer (Option.some (Go.Addr.mk 1000 2 Option.none))) = (Go.Value.pointer (Option.some (Go.Addr.mk 1000 2 Option.none)))) ∧
 (((vI b) = (vI b)) ∧
 (((Go.Value.pointer (Option.some (Go.Addr.mk 1000 1 Option.none))) = (Go.Value.pointer (Option.some (Go.Addr.mk 1000 1 Option.none)))) ∧
 (((vI a) = (vI a)) ∧
 (((Go.Value.pointer (Option.some (Go.Addr.mk 1000 0 Option.none))) = (Go.Value.pointer (Option.some (Go.Addr.mk 1000 0 Option.none)))) ∧
 True))))))))) ∧
 (((((Go.Value.slice (Option.some (Go.Addr.mk 1004 0 Option.none)) 1 1) = (Go.Value.slice (Option.some (Go.Addr.mk 1004 0 Option.none)) 1 1)) ∧
 ((Option.some (AObj.cells [(vI d)] 3 false 1)) = (Option.some (AObj.cells [(vI d)] 3 false 1)))) ∧
 (((vI d) = (vI d)) ∧
 (((Go.Value.pointer (Option.some (Go.Addr.mk 1000 3 Option.none))) = (Go.Value.pointer (Option.some (Go.Addr.mk 1000 3 Option.none)))) ∧
 (((vI c) = (vI c)) ∧
 (((Go.Value.pointer (Option.some (Go.Addr.mk 1000 2 Option.none))) = (Go.Value.pointer (Option.some (Go.Addr.mk 1000 2 Option.none)))) ∧
 (((vI b) = (vI b)) ∧
 (((Go.Value.pointer (Option.some (Go.Addr.mk 1000 1 Option.none))) = (Go.Value.pointer (Option.some (Go.Addr.mk 1000 1 Option.none)))) ∧
 (((vI a) = (vI a)) ∧
 (((Go.Value.pointer (Option.some (Go.Addr.mk 1000 0 Option.none))) = (Go.Value.pointer (Option.some (Go.Addr.mk 1000 0 Option.none)))) ∧
 True))))))))) ∧
 (∃ r4 : Int,
 ((Says witC 0 [(D.val (vI (0 : Int))), (D.val (vI (10000 : Int))), (D.val (vI (2 : Int))), (D.sl 1 1 [(vI d)])] [(D.val (vI r4))]) ∧
 (((((Go.Value.slice (Option.some (Go.Addr.mk 1013 0 Option.none)) 4 4) = (Go.Value.slice (Option.some (Go.Addr.mk 1013 0 Option.none)) 4 4)) ∧
 ((Option.some (AObj.cells [(vI r1), (vI r2), (vI r3), (vI r4)] 30 false 1)) = (Option.some (AObj.cells [(vI r1), (vI r2), (vI r3), (vI r4)] 30 false 1)))) ∧
 (((vI d) = (vI d)) ∧
 (((Go.Value.pointer (Option.some (Go.Addr.mk 1000 3 Option.none))) = (Go.Value.pointer (Option.some (Go.Addr.mk 1000 3 Option.none)))) ∧
 (((vI c) = (vI c)) ∧
 (((Go.Value.pointer (Option.some (Go.Addr.mk 1000 2 Option.none))) = (Go.Value.pointer (Option.some (Go.Addr.mk 1000 2 Option.none)))) ∧
 (((vI b) = (vI b)) ∧
 (((Go.Value.pointer (Option.some (Go.Addr.mk 1000 1 Option.none))) = (Go.Value.pointer (Option.some (Go.Addr.mk 1000 1 Option.none)))) ∧
 (((vI a) = (vI a)) ∧
 (((Go.Value.pointer (Option.some (Go.Addr.mk 1000 0 Option.none))) = (Go.Value.pointer (Option.some (Go.Addr.mk 1000 0 Option.none)))) ∧
 True))))))))) ∧
 (∃ n1 : Int,
 ((Says C 37 [(D.sl 4 1 [(vI r1), (vI r2), (vI r3), (vI r4)])] [(D.val (vI n1))]) ∧
 ((((vI d) = (vI d)) ∧
 (((Go.Value.pointer (Option.some (Go.Addr.mk 1000 3 Option.none))) = (Go.Value.pointer (Option.some (Go.Addr.mk 1000 3 Option.none)))) ∧
 (((vI c) = (vI c)) ∧
 (((Go.Value.pointer (Option.some (Go.Addr.mk 1000 2 Option.none))) = (Go.Value.pointer (Option.some (Go.Addr.mk 1000 2 Option.none)))) ∧
 (((vI b) = (vI b)) ∧
 (((Go.Value.pointer (Option.some (Go.Addr.mk 1000 1 Option.none))) = (Go.Value.pointer (Option.some (Go.Addr.mk 1000 1 Option.none)))) ∧
 (((vI a) = (vI a)) ∧
 (((Go.Value.pointer (Option.some (Go.Addr.mk 1000 0 Option.none))) = (Go.Value.pointer (Option.some (Go.Addr.mk 1000 0 Option.none)))) ∧
 True)))))))) ∧
 (True ∧
 (k [(D.val (vI n1))])))))))))))))))))))))) := by kernel_rfl
def gOu (C : Ct) (L : AtLoop) (a b c d : Int) (n cap : Nat) (l : List Value) (k : List D → Prop) : Prop := wpFn Try.prog (hG C) L 0 62 #[vA a b c d, S500 n cap] (heapOf [Q500 l]) (dataK k)
theorem gOu_text (C : Ct) (L : AtLoop) (a : Int) (b : Int) (c : Int) (d : Int) (n : Nat) (cap : Nat) (l : List Go.Value) (k : List D → Prop) : gOu C L a b c d n cap l k =
 (L 0 [(Prod.mk 2 (Go.Value.pointer (Option.some (Go.Addr.mk 1000 0 Option.none)))), (Prod.mk 6 (Go.Value.pointer (Option.some (Go.Addr.mk 1001 0 Option.none)))), (Prod.mk 7 (Go.Value.slice Option.none 0 0)), (Prod.mk 8 (vI (0 : Int))), (Prod.mk 13 (Go.Value.slice (Option.some (Go.Addr.mk 500 0 Option.none)) (n) (cap))), (Prod.mk 14 (vI ((↑n : Int)))), (Prod.mk 15 (vI (0 : Int)))] [(Prod.mk 1000 (AObj.cells [(vI a), (vI b), (vI c), (vI d)] 112 false 1)), (Prod.mk 1001 (AObj.cells [(vI (-(99999 + 1) : Int)), (vI (100000 : Int))] 56 false 2)), (Prod.mk 500 (AObj.sym (l) false 1))]) := by kernel_rfl
def gRA (C : Ct) (L : AtLoop) (a b c d x : Int) (k : List D → Prop) : Prop := wpFn Try.prog (hG C) L 0 31 #[vA a b c d, vI x] (heapOf []) (dataK k)
theorem gRA_text (C : Ct) (L : AtLoop) (a : Int) (b : Int) (c : Int) (d : Int) (x : Int) (k : List D → Prop) : gRA C L a b c d x k =
 (∃ n1 : Int,
 ((Says C 79 [(D.agg [(D.val (vI a)), (D.val (vI b)), (D.val (vI c)), (D.val (vI d))])] [(D.val (vI n1))]) ∧
 (bcase (n1 != 0)
 (∃ r1 : Int,
 ((Says witC 0 [(D.val (vI (-(9999 + 1) : Int))), (D.val (vI (10000 : Int))), (D.val (vI (2 : Int))), (D.sl 1 1 [(vI x)])] [(D.val (vI r1))]) ∧
 (∃ n2 : Int,
 ((Says C 37 [(D.sl 2 1 [(vI n1), (vI r1)])] [(D.val (vI n2))]) ∧
 (bcase (n2 != 0)
 (k [(D.val (vI (0 : Int))), (D.val (vI n2))])
 (((((Go.Value.slice (Option.some (Go.Addr.mk 1008 0 Option.none)) 1 1) = (Go.Value.slice (Option.some (Go.Addr.mk 1008 0 Option.none)) 1 1)) ∧
 ((Option.some (AObj.cells [(vI x)] 3 false 1)) = (Option.some (AObj.cells [(vI x)] 3 false 1)))) ∧
 (((vI x) = (vI x)) ∧
 (((Go.Value.agg [(vI (0 : Int)), (vI (0 : Int)), (vI (0 : Int)), (vI (0 : Int))].toArray) = (Go.Value.agg [(vI (0 : Int)), (vI (0 : Int)), (vI (0 : Int)), (vI (0 : Int))].toArray)) ∧
 True))) ∧
 (((Says C 63 [(D.sl 1 1 [(vI x)]), (D.val (vI (501 : Int)))] [D.nil]) ∧
 ((((vI x) = (vI x)) ∧
 (((Go.Value.agg [(vI (0 : Int)), (vI (0 : Int)), (vI (0 : Int)), (vI (0 : Int))].toArray) = (Go.Value.agg [(vI (0 : Int)), (vI (0 : Int)), (vI (0 : Int)), (vI (0 : Int))].toArray)) ∧
 True)) ∧
 ((∃ n3 : Int,
 ((Says C 62 [(D.agg [(D.val (vI (0 : Int))), (D.val (vI (0 : Int))), (D.val (vI (0 : Int))), (D.val (vI (0 : Int)))]), D.nil] [D.nil, (D.val (vI n3))]) ∧
 ((((vI n3) = (vI n3)) ∧
 (((Go.Value.slice Option.none 0 0) = (Go.Value.slice Option.none 0 0)) ∧
 (((Go.Value.tuple [(Go.Value.slice Option.none 0 0), (vI n3)].toArray) = (Go.Value.tuple [(Go.Value.slice Option.none 0 0), (vI n3)].toArray)) ∧
 (((vI x) = (vI x)) ∧
 True)))) ∧
 ((((vI n3) = (vI n3)) ∧
 True) ∧
 (True ∧
 (bcase (n3 != 0)
 (k [(D.val (vI (0 : Int))), (D.val (vI n3))])
 (L 0 [(Prod.mk 2 (Go.Value.pointer (Option.some (Go.Addr.mk 1000 0 Option.none)))), (Prod.mk 6 (Go.Value.pointer (Option.some (Go.Addr.mk 1001 0 Option.none)))), (Prod.mk 10 (vI a)), (Prod.mk 41 (Go.Value.slice Option.none 0 0)), (Prod.mk 42 (vI (0 : Int))), (Prod.mk 43 (vI (0 : Int)))] [(Prod.mk 1000 (AObj.cells [(vI a), (vI b), (vI c), (vI d)] 73 false 1)), (Prod.mk 1001 (AObj.cells [(vI (0 : Int)), (vI (0 : Int)), (vI (0 : Int)), (vI (0 : Int))] 112 false 4))]))))))) ∨
 (∃ n3 : Nat,
 (∃ cs1 : List Go.Value,
 (∃ n4 : Int,
 ((Says C 62 [(D.agg [(D.val (vI (0 : Int))), (D.val (vI (0 : Int))), (D.val (vI (0 : Int))), (D.val (vI (0 : Int)))]), D.nil] [(D.sl (n3) 1 (cs1)), (D.val (vI n4))]) ∧
 ((((vI n4) = (vI n4)) ∧
 (((Go.Value.slice (Option.some (Go.Addr.mk 1009 0 Option.none)) (n3) (n3)) = (Go.Value.slice (Option.some (Go.Addr.mk 1009 0 Option.none)) (n3) (n3))) ∧
 (((Go.Value.tuple [(Go.Value.slice (Option.some (Go.Addr.mk 1009 0 Option.none)) (n3) (n3)), (vI n4)].toArray) = (Go.Value.tuple [(Go.Value.slice (Option.some (Go.Addr.mk 1009 0 Option.none)) (n3) (n3)), (vI n4)].toArray)) ∧
 (((vI x) = (vI x)) ∧
 True)))) ∧
 ((((vI n4) = (vI n4)) ∧
 True) ∧
 (True ∧
 (bcase (n4 != 0)
 (k [(D.val (vI (0 : Int))), (D.val (vI n4))])
 (L 0 [(Prod.mk 2 (Go.Value.pointer (Option.some (Go.Addr.mk 1000 0 Option.none)))), (Prod.mk 6 (Go.Value.pointer (Option.some (Go.Addr.mk 1001 0 Option.none)))), (Prod.mk 10 (vI a)), (Prod.mk 41 (Go.Value.slice (Option.some (Go.Addr.mk 1002 0 Option.none)) (n3) (n3))), (Prod.mk 42 (vI ((↑n3 : Int)))), (Prod.mk 43 (vI (0 : Int)))] [(Prod.mk 1000 (AObj.cells [(vI a), (vI b), (vI c), (vI d)] 73 false 1)), (Prod.mk 1001 (AObj.cells [(vI (0 : Int)), (vI (0 : Int)), (vI (0 : Int)), (vI (0 : Int))] 112 false 4)), (Prod.mk 1002 (AObj.sym (cs1) true 1))])))))))))))) ∨
 (∃ n3 : Nat,
 (∃ cs1 : List Go.Value,
 ((Says C 63 [(D.sl 1 1 [(vI x)]), (D.val (vI (501 : Int)))] [(D.sl (n3) 1 (cs1))]) ∧
 ((((vI x) = (vI x)) ∧
 (((Go.Value.agg [(vI (0 : Int)), (vI (0 : Int)), (vI (0 : Int)), (vI (0 : Int))].toArray) = (Go.Value.agg [(vI (0 : Int)), (vI (0 : Int)), (vI (0 : Int)), (vI (0 : Int))].toArray)) ∧
 True)) ∧
 (bcase (decide (0 + n3 * 1 ≤ List.length cs1))
 ((∃ n4 : Int,
 ((Says C 62 [(D.agg [(D.val (vI (0 : Int))), (D.val (vI (0 : Int))), (D.val (vI (0 : Int))), (D.val (vI (0 : Int)))]), (D.sl (n3) 1 (List.take (n3 * 1) (List.drop 0 cs1)))] [D.nil, (D.val (vI n4))]) ∧
 ((((vI n4) = (vI n4)) ∧
 (((Go.Value.slice Option.none 0 0) = (Go.Value.slice Option.none 0 0)) ∧
 (((Go.Value.tuple [(Go.Value.slice Option.none 0 0), (vI n4)].toArray) = (Go.Value.tuple [(Go.Value.slice Option.none 0 0), (vI n4)].toArray)) ∧
 (((vI x) = (vI x)) ∧
 True)))) ∧
 ((((vI n4) = (vI n4)) ∧
 True) ∧
 (True ∧
 (bcase (n4 != 0)
 (k [(D.val (vI (0 : Int))), (D.val (vI n4))])
 (L 0 [(Prod.mk 2 (Go.Value.pointer (Option.some (Go.Addr.mk 1000 0 Option.none)))), (Prod.mk 6 (Go.Value.pointer (Option.some (Go.Addr.mk 1001 0 Option.none)))), (Prod.mk 10 (vI a)), (Prod.mk 41 (Go.Value.slice Option.none 0 0)), (Prod.mk 42 (vI (0 : Int))), (Prod.mk 43 (vI (0 : Int)))] [(Prod.mk 1000 (AObj.cells [(vI a), (vI b), (vI c), (vI d)] 73 false 1)), (Prod.mk 1001 (AObj.cells [(vI (0 : Int)), (vI (0 : Int)), (vI (0 : Int)), (vI (0 : Int))] 112 false 4))]))))))) ∨
 (∃ n4 : Nat,
 (∃ cs2 : List Go.Value,
 (∃ n5 : Int,
 ((Says C 62 [(D.agg [(D.val (vI (0 : Int))), (D.val (vI (0 : Int))), (D.val (vI (0 : Int))), (D.val (vI (0 : Int)))]), (D.sl (n3) 1 (List.take (n3 * 1) (List.drop 0 cs1)))] [(D.sl (n4) 1 (cs2)), (D.val (vI n5))]) ∧
 ((((vI n5) = (vI n5)) ∧
 (((Go.Value.slice (Option.some (Go.Addr.mk 1010 0 Option.none)) (n4) (n4)) = (Go.Value.slice (Option.some (Go.Addr.mk 1010 0 Option.none)) (n4) (n4))) ∧
 (((Go.Value.tuple [(Go.Value.slice (Option.some (Go.Addr.mk 1010 0 Option.none)) (n4) (n4)), (vI n5)].toArray) = (Go.Value.tuple [(Go.Value.slice (Option.some (Go.Addr.mk 1010 0 Option.none)) (n4) (n4)), (vI n5)].toArray)) ∧
 (((vI x) = (vI x)) ∧
 True)))) ∧
 ((((vI n5) = (vI n5)) ∧
 True) ∧
 (True ∧
 (bcase (n5 != 0)
 (k [(D.val (vI (0 : Int))), (D.val (vI n5))])
 (L 0 [(Prod.mk 2 (Go.Value.pointer (Option.some (Go.Addr.mk 1000 0 Option.none)))), (Prod.mk 6 (Go.Value.pointer (Option.some (Go.Addr.mk 1001 0 Option.none)))), (Prod.mk 10 (vI a)), (Prod.mk 41 (Go.Value.slice (Option.some (Go.Addr.mk 1002 0 Option.none)) (n4) (n4))), (Prod.mk 42 (vI ((↑n4 : Int)))), (Prod.mk 43 (vI (0 : Int)))] [(Prod.mk 1000 (AObj.cells [(vI a), (vI b), (vI c), (vI d)] 73 false 1)), (Prod.mk 1001 (AObj.cells [(vI (0 : Int)), (vI (0 : Int)), (vI (0 : Int)), (vI (0 : Int))] 112 false 4)), (Prod.mk 1002 (AObj.sym (cs2) true 1))]))))))))))
 False))))))))))))
 (∃ r1 : Int,
 ((Says witC 0 [(D.val (vI (-(9999 + 1) : Int))), (D.val (vI (10000 : Int))), (D.val (vI (2 : Int))), (D.sl 1 1 [(vI x)])] [(D.val (vI r1))]) ∧
 (∃ n2 : Int,
 ((Says C 37 [(D.sl 2 1 [(vI (0 : Int)), (vI r1)])] [(D.val (vI n2))]) ∧
 (bcase (n2 != 0)
 (k [(D.val (vI (0 : Int))), (D.val (vI n2))])
 (((((Go.Value.slice (Option.some (Go.Addr.mk 1008 0 Option.none)) 1 1) = (Go.Value.slice (Option.some (Go.Addr.mk 1008 0 Option.none)) 1 1)) ∧
 ((Option.some (AObj.cells [(vI x)] 3 false 1)) = (Option.some (AObj.cells [(vI x)] 3 false 1)))) ∧
 (((vI x) = (vI x)) ∧
 (((Go.Value.agg [(vI a), (vI b), (vI c), (vI d)].toArray) = (Go.Value.agg [(vI a), (vI b), (vI c), (vI d)].toArray)) ∧
 True))) ∧
 (((Says C 63 [(D.sl 1 1 [(vI x)]), (D.val (vI (501 : Int)))] [D.nil]) ∧
 ((((vI x) = (vI x)) ∧
 (((Go.Value.agg [(vI a), (vI b), (vI c), (vI d)].toArray) = (Go.Value.agg [(vI a), (vI b), (vI c), (vI d)].toArray)) ∧
 True)) ∧
 ((∃ n3 : Int,
 ((Says C 62 [(D.agg [(D.val (vI a)), (D.val (vI b)), (D.val (vI c)), (D.val (vI d))]), D.nil] [D.nil, (D.val (vI n3))]) ∧
 ((((vI n3) = (vI n3)) ∧
 (((Go.Value.slice Option.none 0 0) = (Go.Value.slice Option.none 0 0)) ∧
 (((Go.Value.tuple [(Go.Value.slice Option.none 0 0), (vI n3)].toArray) = (Go.Value.tuple [(Go.Value.slice Option.none 0 0), (vI n3)].toArray)) ∧
 (((vI x) = (vI x)) ∧
 True)))) ∧
 ((((vI n3) = (vI n3)) ∧
 True) ∧
 (True ∧
 (bcase (n3 != 0)
 (k [(D.val (vI (0 : Int))), (D.val (vI n3))])
 (L 0 [(Prod.mk 2 (Go.Value.pointer (Option.some (Go.Addr.mk 1000 0 Option.none)))), (Prod.mk 6 (Go.Value.pointer (Option.some (Go.Addr.mk 1001 0 Option.none)))), (Prod.mk 10 (vI a)), (Prod.mk 41 (Go.Value.slice Option.none 0 0)), (Prod.mk 42 (vI (0 : Int))), (Prod.mk 43 (vI (0 : Int)))] [(Prod.mk 1000 (AObj.cells [(vI a), (vI b), (vI c), (vI d)] 73 false 1)), (Prod.mk 1001 (AObj.cells [(vI a), (vI b), (vI c), (vI d)] 112 false 4))]))))))) ∨
 (∃ n3 : Nat,
 (∃ cs1 : List Go.Value,
 (∃ n4 : Int,
 ((Says C 62 [(D.agg [(D.val (vI a)), (D.val (vI b)), (D.val (vI c)), (D.val (vI d))]), D.nil] [(D.sl (n3) 1 (cs1)), (D.val (vI n4))]) ∧
 ((((vI n4) = (vI n4)) ∧
 (((Go.Value.slice (Option.some (Go.Addr.mk 1009 0 Option.none)) (n3) (n3)) = (Go.Value.slice (Option.some (Go.Addr.mk 1009 0 Option.none)) (n3) (n3))) ∧
 (((Go.Value.tuple [(Go.Value.slice (Option.some (Go.Addr.mk 1009 0 Option.none)) (n3) (n3)), (vI n4)].toArray) = (Go.Value.tuple [(Go.Value.slice (Option.some (Go.Addr.mk 1009 0 Option.none)) (n3) (n3)), (vI n4)].toArray)) ∧
 (((vI x) = (vI x)) ∧
 True)))) ∧
 ((((vI n4) = (vI n4)) ∧
 True) ∧
 (True ∧
 (bcase (n4 != 0)
 (k [(D.val (vI (0 : Int))), (D.val (vI n4))])
 (L 0 [(Prod.mk 2 (Go.Value.pointer (Option.some (Go.Addr.mk 1000 0 Option.none)))), (Prod.mk 6 (Go.Value.pointer (Option.some (Go.Addr.mk 1001 0 Option.none)))), (Prod.mk 10 (vI a)), (Prod.mk 41 (Go.Value.slice (Option.some (Go.Addr.mk 1002 0 Option.none)) (n3) (n3))), (Prod.mk 42 (vI ((↑n3 : Int)))), (Prod.mk 43 (vI (0 : Int)))] [(Prod.mk 1000 (AObj.cells [(vI a), (vI b), (vI c), (vI d)] 73 false 1)), (Prod.mk 1001 (AObj.cells [(vI a), (vI b), (vI c), (vI d)] 112 false 4)), (Prod.mk 1002 (AObj.sym (cs1) true 1))])))))))))))) ∨
 (∃ n3 : Nat,
 (∃ cs1 : List Go.Value,
 ((Says C 63 [(D.sl 1 1 [(vI x)]), (D.val (vI (501 : Int)))] [(D.sl (n3) 1 (cs1))]) ∧
 ((((vI x) = (vI x)) ∧
 (((Go.Value.agg [(vI a), (vI b), (vI c), (vI d)].toArray) = (Go.Value.agg [(vI a), (vI b), (vI c), (vI d)].toArray)) ∧
 True)) ∧
 (bcase (decide (0 + n3 * 1 ≤ List.length cs1))
 ((∃ n4 : Int,
 ((Says C 62 [(D.agg [(D.val (vI a)), (D.val (vI b)), (D.val (vI c)), (D.val (vI d))]), (D.sl (n3) 1 (List.take (n3 * 1) (List.drop 0 cs1)))] [D.nil, (D.val (vI n4))]) ∧
 ((((vI n4) = (vI n4)) ∧
 (((Go.Value.slice Option.none 0 0) = (Go.Value.slice Option.none 0 0)) ∧
 (((Go.Value.tuple [(Go.Value.slice Option.none 0 0), (vI n4)].toArray) = (Go.Value.tuple [(Go.Value.slice Option.none 0 0), (vI n4)].toArray)) ∧
 (((vI x) = (vI x)) ∧
 True)))) ∧
 ((((vI n4) = (vI n4)) ∧
 True) ∧
 (True ∧
 (bcase (n4 != 0)
 (k [(D.val (vI (0 : Int))), (D.val (vI n4))])
 (L 0 [(Prod.mk 2 (Go.Value.pointer (Option.some (Go.Addr.mk 1000 0 Option.none)))), (Prod.mk 6 (Go.Value.pointer (Option.some (Go.Addr.mk 1001 0 Option.none)))), (Prod.mk 10 (vI a)), (Prod.mk 41 (Go.Value.slice Option.none 0 0)), (Prod.mk 42 (vI (0 : Int))), (Prod.mk 43 (vI (0 : Int)))] [(Prod.mk 1000 (AObj.cells [(vI a), (vI b), (vI c), (vI d)] 73 false 1)), (Prod.mk 1001 (AObj.cells [(vI a), (vI b), (vI c), (vI d)] 112 false 4))]))))))) ∨
 (∃ n4 : Nat,
 (∃ cs2 : List Go.Value,
 (∃ n5 : Int,
 ((Says C 62 [(D.agg [(D.val (vI a)), (D.val (vI b)), (D.val (vI c)), (D.val (vI d))]), (D.sl (n3) 1 (List.take (n3 * 1) (List.drop 0 cs1)))] [(D.sl (n4) 1 (cs2)), (D.val (vI n5))]) ∧
 ((((vI n5) = (vI n5)) ∧
 (((Go.Value.slice (Option.some (Go.Addr.mk 1010 0 Option.none)) (n4) (n4)) = (Go.Value.slice (Option.some (Go.Addr.mk 1010 0 Option.none)) (n4) (n4))) ∧
 (((Go.Value.tuple [(Go.Value.slice (Option.some (Go.Addr.mk 1010 0 Option.none)) (n4) (n4)), (vI n5)].toArray) = (Go.Value.tuple [(Go.Value.slice (Option.some (Go.Addr.mk 1010 0 Option.none)) (n4) (n4)), (vI n5)].toArray)) ∧
 (((vI x) = (vI x)) ∧
 True)))) ∧
 ((((vI n5) = (vI n5)) ∧
 True) ∧
 (True ∧
 (bcase (n5 != 0)
 (k [(D.val (vI (0 : Int))), (D.val (vI n5))])
 (L 0 [(Prod.mk 2 (Go.Value.pointer (Option.some (Go.Addr.mk 1000 0 Option.none)))), (Prod.mk 6 (Go.Value.pointer (Option.some (Go.Addr.mk 1001 0 Option.none)))), (Prod.mk 10 (vI a)), (Prod.mk 41 (Go.Value.slice (Option.some (Go.Addr.mk 1002 0 Option.none)) (n4) (n4))), (Prod.mk 42 (vI ((↑n4 : Int)))), (Prod.mk 43 (vI (0 : Int)))] [(Prod.mk 1000 (AObj.cells [(vI a), (vI b), (vI c), (vI d)] 73 false 1)), (Prod.mk 1001 (AObj.cells [(vI a), (vI b), (vI c), (vI d)] 112 false 4)), (Prod.mk 1002 (AObj.sym (cs2) true 1))]))))))))))
 False))))))))))))))) := by kernel_rfl
def sFE (n cap : Nat) (i : Int) : Slots := [(5, S500 n cap), (6, .int .i64 n), (7, vI i)]
def rFE (C : Ct) (L : AtLoop) (n cap : Nat) (l : List Value) (i : Int) (B : Bx) (X : Xx) (k : List D → Prop) : Prop := wpRound Try.prog (hG C) L 37 0 (sFE n cap i) [Q500 l] B X (dataK k)
theorem rFE_text (C : Ct) (L : AtLoop) (n : Nat) (cap : Nat) (l : List Go.Value) (i : Int) (B : Bx) (X : Xx) (k : List D → Prop) : rFE C L n cap l i B X k =
 (bcase (decide (i < (↑n : Int)))
 (bcase (decide (0 ≤ i))
 (bcase (decide (i < (↑n : Int)))
 (∃ n1 : Int,
 ((At (l) (0 + Int.toNat i * 1) 1 [(vI n1)]) ∧
 (bcase (n1 != 0)
 (k [(D.val (vI n1))])
 (B [(Prod.mk 5 (Go.Value.slice (Option.some (Go.Addr.mk 500 0 Option.none)) (n) (cap))), (Prod.mk 6 (vI ((↑n : Int)))), (Prod.mk 7 (vI (IntKind.wrap .i64 (i + 1))))] [(Prod.mk 500 (AObj.sym (l) false 1))]))))
 False)
 False)
 (X 0 [] [])) := by kernel_rfl
def nFE (C : Ct) (L : AtLoop) (k : List D → Prop) : Prop := wpNext Try.prog (hG C) L 37 0 .normal [] [] (dataK k)
theorem nFE_text (C : Ct) (L : AtLoop) (k : List D → Prop) : nFE C L k =
 (k [(D.val (vI (0 : Int)))]) := by kernel_rfl
def sCS (a : Int) (n cap : Nat) (i : Int) : Slots := [(0, vI a), (7, S500 n cap), (8, .int .i64 n), (9, vI i)]
def rCS (C : Ct) (L : AtLoop) (a : Int) (n cap : Nat) (l : List Value) (i : Int) (B : Bx) (X : Xx) (k : List D → Prop) : Prop := wpRound Try.prog (hG C) L 38 0 (sCS a n cap i) [Q500 l] B X (dataK k)
theorem rCS_text (C : Ct) (L : AtLoop) (a : Int) (n : Nat) (cap : Nat) (l : List Go.Value) (i : Int) (B : Bx) (X : Xx) (k : List D → Prop) : rCS C L a n cap l i B X k =
 (bcase (decide (i < (↑n : Int)))
 (bcase (decide (0 ≤ i))
 (bcase (decide (i < (↑n : Int)))
 (∃ n1 : Int,
 ((At (l) (0 + Int.toNat i * 1) 1 [(vI n1)]) ∧
 (bcase (n1 != a)
 (k [(D.val (vI (10 : Int)))])
 (B [(Prod.mk 0 (vI a)), (Prod.mk 7 (Go.Value.slice (Option.some (Go.Addr.mk 500 0 Option.none)) (n) (cap))), (Prod.mk 8 (vI ((↑n : Int)))), (Prod.mk 9 (vI (IntKind.wrap .i64 (i + 1))))] [(Prod.mk 500 (AObj.sym (l) false 1))]))))
 False)
 False)
 (X 0 [] [])) := by kernel_rfl
def nCS (C : Ct) (L : AtLoop) (k : List D → Prop) : Prop := wpNext Try.prog (hG C) L 38 0 .normal [] [] (dataK k)
theorem nCS_text (C : Ct) (L : AtLoop) (k : List D → Prop) : nCS C L k =
 (k [(D.val (vI (0 : Int)))]) := by kernel_rfl
def sOu (l7 : Value) (c : Int) (n cap : Nat) (i : Int) : Slots := [(2, P1 1000 0), (6, P1 1001 0), (7, l7), (8, vI c), (13, S500 n cap), (14, .int .i64 n), (15, vI i)]
abbrev oM (a b c d : Int) : Nat × AObj := (1000, .cells [vI a, vI b, vI c, vI d] 112 false 1)
abbrev oL : Nat × AObj := (1001, .cells [vI (-100000), vI 100000] 56 false 2)
def rOu0 (C : Ct) (L : AtLoop) (a b c d x : Int) (n cap : Nat) (l : List Value) (i : Int) (B : Bx) (X : Xx) (k : List D → Prop) : Prop := wpRound Try.prog (hG C) L 62 0 (sOu (.slice none 0 0) x n cap i) [oM a b c d, oL, Q500 l] B X (dataK k)
theorem rOu0_text (C : Ct) (L : AtLoop) (a : Int) (b : Int) (c : Int) (d : Int) (x : Int) (n : Nat) (cap : Nat) (l : List Go.Value) (i : Int) (B : Bx) (X : Xx) (k : List D → Prop) : rOu0 C L a b c d x n cap l i B X k =
 (bcase (decide (i < (↑n : Int)))
 (bcase (decide (0 ≤ i))
 (bcase (decide (i < (↑n : Int)))
 (∃ n1 : Int,
 ((At (l) (0 + Int.toNat i * 1) 1 [(vI n1)]) ∧
 (bcase (decide (0 ≤ i))
 (bcase (decide (i < (↑1 : Int)))
 (∃ n2 : Int,
 ((At [(vI (IntKind.wrap .i64 (n1 + x)))] (0 + Int.toNat i * 1) 1 [(vI n2)]) ∧
 (((((Go.Value.slice (Option.some (Go.Addr.mk 1004 0 Option.none)) 1 1) = (Go.Value.slice (Option.some (Go.Addr.mk 1004 0 Option.none)) 1 1)) ∧
 ((Option.some (AObj.cells [(vI n2)] 3 false 1)) = (Option.some (AObj.cells [(vI n2)] 3 false 1)))) ∧
 ((∃ n3 : Int,
 ((At [(vI (IntKind.wrap .i64 (n1 + x)))] (0 + Int.toNat i * 1) 1 [(vI n3)]) ∧
 ((vI n3) = (vI n2)))) ∧
 ((bcase (decide (0 ≤ i))
 (bcase (decide (i < (↑1 : Int)))
 ((Go.Value.pointer (Option.some (Go.Addr.mk 1003 (0 + Int.toNat i * 1) Option.none))) = (Go.Value.pointer (Option.some (Go.Addr.mk 1003 (0 + Int.toNat i * 1) Option.none))))
 False)
 False) ∧
 (((vI i) = (vI i)) ∧
 (((Go.Value.slice (Option.some (Go.Addr.mk 1003 0 Option.none)) 1 1) = (Go.Value.slice (Option.some (Go.Addr.mk 1003 0 Option.none)) 1 1)) ∧
 (((Go.Value.agg [(vI (-(99999 + 1) : Int)), (vI (100000 : Int))].toArray) = (Go.Value.agg [(vI (-(99999 + 1) : Int)), (vI (100000 : Int))].toArray)) ∧
 True)))))) ∧
 (((((Go.Value.slice (Option.some (Go.Addr.mk 1004 0 Option.none)) 1 1) = (Go.Value.slice (Option.some (Go.Addr.mk 1004 0 Option.none)) 1 1)) ∧
 ((Option.some (AObj.cells [(vI n2)] 3 false 1)) = (Option.some (AObj.cells [(vI n2)] 3 false 1)))) ∧
 ((∃ n3 : Int,
 ((At [(vI (IntKind.wrap .i64 (n1 + x)))] (0 + Int.toNat i * 1) 1 [(vI n3)]) ∧
 ((vI n3) = (vI n2)))) ∧
 ((bcase (decide (0 ≤ i))
 (bcase (decide (i < (↑1 : Int)))
 ((Go.Value.pointer (Option.some (Go.Addr.mk 1003 (0 + Int.toNat i * 1) Option.none))) = (Go.Value.pointer (Option.some (Go.Addr.mk 1003 (0 + Int.toNat i * 1) Option.none))))
 False)
 False) ∧
 (((vI i) = (vI i)) ∧
 (((Go.Value.slice (Option.some (Go.Addr.mk 1003 0 Option.none)) 1 1) = (Go.Value.slice (Option.some (Go.Addr.mk 1003 0 Option.none)) 1 1)) ∧
 True))))) ∧
 (∃ r1 : Int,
 ((Says witC 0 [(D.val (vI (-(99999 + 1) : Int))), (D.val (vI (100000 : Int))), (D.val (vI (22 : Int))), (D.sl 1 1 [(vI n2)])] [(D.val (vI r1))]) ∧
 (((∃ n3 : Int,
 ((At [(vI (IntKind.wrap .i64 (n1 + x)))] (0 + Int.toNat i * 1) 1 [(vI n3)]) ∧
 ((vI n3) = (vI n2)))) ∧
 ((bcase (decide (0 ≤ i))
 (bcase (decide (i < (↑1 : Int)))
 ((Go.Value.pointer (Option.some (Go.Addr.mk 1003 (0 + Int.toNat i * 1) Option.none))) = (Go.Value.pointer (Option.some (Go.Addr.mk 1003 (0 + Int.toNat i * 1) Option.none))))
 False)
 False) ∧
 (((vI i) = (vI i)) ∧
 (((Go.Value.slice (Option.some (Go.Addr.mk 1003 0 Option.none)) 1 1) = (Go.Value.slice (Option.some (Go.Addr.mk 1003 0 Option.none)) 1 1)) ∧
 True)))) ∧
 (True ∧
 (bcase (r1 != 0)
 (k [D.nil, (D.val (vI r1))])
 (bcase (decide (i ≥ a))
 (bcase (decide (0 ≤ IntKind.wrap .i64 (i - a)))
 (bcase (decide (IntKind.wrap .i64 (i - a) < (↑1 : Int)))
 (∃ n3 : Int,
 ((At [(vI (IntKind.wrap .i64 (n1 + x)))] (0 + Int.toNat (IntKind.wrap .i64 (i - a)) * 1) 1 [(vI n3)]) ∧
 (((∃ n4 : Int,
 ((At [(vI (IntKind.wrap .i64 (n1 + x)))] (0 + Int.toNat (IntKind.wrap .i64 (i - a)) * 1) 1 [(vI n4)]) ∧
 ((vI n4) = (vI n3)))) ∧
 ((bcase (decide (0 ≤ IntKind.wrap .i64 (i - a)))
 (bcase (decide (IntKind.wrap .i64 (i - a) < (↑1 : Int)))
 ((Go.Value.pointer (Option.some (Go.Addr.mk 1003 (0 + Int.toNat (IntKind.wrap .i64 (i - a)) * 1) Option.none))) = (Go.Value.pointer (Option.some (Go.Addr.mk 1003 (0 + Int.toNat (IntKind.wrap .i64 (i - a)) * 1) Option.none))))
 False)
 False) ∧
 (((vI (IntKind.wrap .i64 (i - a))) = (vI (IntKind.wrap .i64 (i - a)))) ∧
 (((vI a) = (vI a)) ∧
 (((Go.Value.pointer (Option.some (Go.Addr.mk 1000 0 Option.none))) = (Go.Value.pointer (Option.some (Go.Addr.mk 1000 0 Option.none)))) ∧
 (((Go.Value.pointer (Option.some (Go.Addr.mk 1000 0 Option.none))) = (Go.Value.pointer (Option.some (Go.Addr.mk 1000 0 Option.none)))) ∧
 (((vI i) = (vI i)) ∧
 (((Go.Value.slice (Option.some (Go.Addr.mk 1003 0 Option.none)) 1 1) = (Go.Value.slice (Option.some (Go.Addr.mk 1003 0 Option.none)) 1 1)) ∧
 (((Go.Value.agg [(vI a), (vI b), (vI c), (vI d)].toArray) = (Go.Value.agg [(vI a), (vI b), (vI c), (vI d)].toArray)) ∧
 (((vI x) = (vI x)) ∧
 True)))))))))) ∧
 (∃ n4 : Int,
 ((Says C 64 [(D.agg [(D.val (vI a)), (D.val (vI b)), (D.val (vI c)), (D.val (vI d))]), (D.val (vI n3))] [(D.val (vI n4))]) ∧
 ((((vI (IntKind.wrap .i64 (x - n4))) = (vI (IntKind.wrap .i64 (x - n4)))) ∧
 ((bcase (decide (0 ≤ IntKind.wrap .i64 (i - a)))
 (bcase (decide (IntKind.wrap .i64 (i - a) < (↑1 : Int)))
 ((Go.Value.pointer (Option.some (Go.Addr.mk 1003 (0 + Int.toNat (IntKind.wrap .i64 (i - a)) * 1) Option.none))) = (Go.Value.pointer (Option.some (Go.Addr.mk 1003 (0 + Int.toNat (IntKind.wrap .i64 (i - a)) * 1) Option.none))))
 False)
 False) ∧
 (((vI (IntKind.wrap .i64 (i - a))) = (vI (IntKind.wrap .i64 (i - a)))) ∧
 (((vI a) = (vI a)) ∧
 (((Go.Value.pointer (Option.some (Go.Addr.mk 1000 0 Option.none))) = (Go.Value.pointer (Option.some (Go.Addr.mk 1000 0 Option.none)))) ∧
 (((Go.Value.pointer (Option.some (Go.Addr.mk 1000 0 Option.none))) = (Go.Value.pointer (Option.some (Go.Addr.mk 1000 0 Option.none)))) ∧
 (((vI i) = (vI i)) ∧
 (((Go.Value.slice (Option.some (Go.Addr.mk 1003 0 Option.none)) 1 1) = (Go.Value.slice (Option.some (Go.Addr.mk 1003 0 Option.none)) 1 1)) ∧
 (((vI x) = (vI x)) ∧
 True))))))))) ∧
 (True ∧
 (B [(Prod.mk 2 (Go.Value.pointer (Option.some (Go.Addr.mk 1000 0 Option.none)))), (Prod.mk 6 (Go.Value.pointer (Option.some (Go.Addr.mk 1001 0 Option.none)))), (Prod.mk 7 (Go.Value.slice (Option.some (Go.Addr.mk 1002 0 Option.none)) 1 1)), (Prod.mk 8 (vI (IntKind.wrap .i64 (x - n4)))), (Prod.mk 13 (Go.Value.slice (Option.some (Go.Addr.mk 500 0 Option.none)) (n) (cap))), (Prod.mk 14 (vI ((↑n : Int)))), (Prod.mk 15 (vI (IntKind.wrap .i64 (i + 1))))] [(Prod.mk 1000 (AObj.cells [(vI a), (vI b), (vI c), (vI d)] 112 false 1)), (Prod.mk 1001 (AObj.cells [(vI (-(99999 + 1) : Int)), (vI (100000 : Int))] 56 false 2)), (Prod.mk 1002 (AObj.sym [(vI (IntKind.wrap .i64 (n1 + x)))] true 1)), (Prod.mk 500 (AObj.sym (l) false 1))]))))))))
 False)
 False)
 (B [(Prod.mk 2 (Go.Value.pointer (Option.some (Go.Addr.mk 1000 0 Option.none)))), (Prod.mk 6 (Go.Value.pointer (Option.some (Go.Addr.mk 1001 0 Option.none)))), (Prod.mk 7 (Go.Value.slice (Option.some (Go.Addr.mk 1002 0 Option.none)) 1 1)), (Prod.mk 8 (vI x)), (Prod.mk 13 (Go.Value.slice (Option.some (Go.Addr.mk 500 0 Option.none)) (n) (cap))), (Prod.mk 14 (vI ((↑n : Int)))), (Prod.mk 15 (vI (IntKind.wrap .i64 (i + 1))))] [(Prod.mk 1000 (AObj.cells [(vI a), (vI b), (vI c), (vI d)] 112 false 1)), (Prod.mk 1001 (AObj.cells [(vI (-(99999 + 1) : Int)), (vI (100000 : Int))] 56 false 2)), (Prod.mk 1002 (AObj.sym [(vI (IntKind.wrap .i64 (n1 + x)))] true 1)), (Prod.mk 500 (AObj.sym (l) false 1))])))))))))))
 False)
 False)))
 False)
 False)
 (X 0 [(Prod.mk 7 (Go.Value.slice Option.none 0 0))] [])) := by kernel_rfl
def rOu (C : Ct) (L : AtLoop) (a b c d x : Int) (n cap : Nat) (l : List Value) (m mc : Nat) (vs : List Value) (i : Int) (B : Bx) (X : Xx) (k : List D → Prop) : Prop := wpRound Try.prog (hG C) L 62 0 (sOu (.slice (some ⟨1002, 0, none⟩) m mc) x n cap i) [oM a b c d, oL, (1002, .sym vs true 1), Q500 l] B X (dataK k)
theorem rOu_text (C : Ct) (L : AtLoop) (a : Int) (b : Int) (c : Int) (d : Int) (x : Int) (n : Nat) (cap : Nat) (l : List Go.Value) (m : Nat) (mc : Nat) (vs : List Go.Value) (i : Int) (B : Bx) (X : Xx) (k : List D → Prop) : rOu C L a b c d x n cap l m mc vs i B X k =
 (bcase (decide (i < (↑n : Int)))
 (bcase (decide (0 ≤ i))
 (bcase (decide (i < (↑n : Int)))
 (∃ n1 : Int,
 ((At (l) (0 + Int.toNat i * 1) 1 [(vI n1)]) ∧
 (bcase (decide (mc < m + 1))
 (bcase (decide ((2 * (m + 1) + 768) * 8 ≤ 281474976710656))
 (bcase (decide (m + 1 ≤ 1099511627776))
 (bcase (decide (0 + m * 1 ≤ List.length vs))
 (bcase (decide (0 + mc * 1 = List.length vs))
 (bcase (decide (0 ≤ i))
 (bcase (decide (i < (↑(m + 1) : Int)))
 (∃ n2 : Int,
 ((At ((List.take (m * 1) (List.drop 0 vs)) ++ [(vI (IntKind.wrap .i64 (n1 + x)))]) (0 + Int.toNat i * 1) 1 [(vI n2)]) ∧
 (((((Go.Value.slice (Option.some (Go.Addr.mk 1005 0 Option.none)) 1 1) = (Go.Value.slice (Option.some (Go.Addr.mk 1005 0 Option.none)) 1 1)) ∧
 ((Option.some (AObj.cells [(vI n2)] 3 false 1)) = (Option.some (AObj.cells [(vI n2)] 3 false 1)))) ∧
 ((∃ n3 : Int,
 ((At ((List.take (m * 1) (List.drop 0 vs)) ++ [(vI (IntKind.wrap .i64 (n1 + x)))]) (0 + Int.toNat i * 1) 1 [(vI n3)]) ∧
 ((vI n3) = (vI n2)))) ∧
 ((bcase (decide (0 ≤ i))
 (bcase (decide (i < (↑(m + 1) : Int)))
 ((Go.Value.pointer (Option.some (Go.Addr.mk 1004 (0 + Int.toNat i * 1) Option.none))) = (Go.Value.pointer (Option.some (Go.Addr.mk 1004 (0 + Int.toNat i * 1) Option.none))))
 False)
 False) ∧
 (((vI i) = (vI i)) ∧
 (((Go.Value.slice (Option.some (Go.Addr.mk 1004 0 Option.none)) (m + 1) (m + 1)) = (Go.Value.slice (Option.some (Go.Addr.mk 1004 0 Option.none)) (m + 1) (m + 1))) ∧
 (((Go.Value.agg [(vI (-(99999 + 1) : Int)), (vI (100000 : Int))].toArray) = (Go.Value.agg [(vI (-(99999 + 1) : Int)), (vI (100000 : Int))].toArray)) ∧
 True)))))) ∧
 (((((Go.Value.slice (Option.some (Go.Addr.mk 1005 0 Option.none)) 1 1) = (Go.Value.slice (Option.some (Go.Addr.mk 1005 0 Option.none)) 1 1)) ∧
 ((Option.some (AObj.cells [(vI n2)] 3 false 1)) = (Option.some (AObj.cells [(vI n2)] 3 false 1)))) ∧
 ((∃ n3 : Int,
 ((At ((List.take (m * 1) (List.drop 0 vs)) ++ [(vI (IntKind.wrap .i64 (n1 + x)))]) (0 + Int.toNat i * 1) 1 [(vI n3)]) ∧
 ((vI n3) = (vI n2)))) ∧
 ((bcase (decide (0 ≤ i))
 (bcase (decide (i < (↑(m + 1) : Int)))
 ((Go.Value.pointer (Option.some (Go.Addr.mk 1004 (0 + Int.toNat i * 1) Option.none))) = (Go.Value.pointer (Option.some (Go.Addr.mk 1004 (0 + Int.toNat i * 1) Option.none))))
 False)
 False) ∧
 (((vI i) = (vI i)) ∧
 (((Go.Value.slice (Option.some (Go.Addr.mk 1004 0 Option.none)) (m + 1) (m + 1)) = (Go.Value.slice (Option.some (Go.Addr.mk 1004 0 Option.none)) (m + 1) (m + 1))) ∧
 True))))) ∧
 (∃ r1 : Int,
 ((Says witC 0 [(D.val (vI (-(99999 + 1) : Int))), (D.val (vI (100000 : Int))), (D.val (vI (22 : Int))), (D.sl 1 1 [(vI n2)])] [(D.val (vI r1))]) ∧
 (((∃ n3 : Int,
 ((At ((List.take (m * 1) (List.drop 0 vs)) ++ [(vI (IntKind.wrap .i64 (n1 + x)))]) (0 + Int.toNat i * 1) 1 [(vI n3)]) ∧
 ((vI n3) = (vI n2)))) ∧
 ((bcase (decide (0 ≤ i))
 (bcase (decide (i < (↑(m + 1) : Int)))
 ((Go.Value.pointer (Option.some (Go.Addr.mk 1004 (0 + Int.toNat i * 1) Option.none))) = (Go.Value.pointer (Option.some (Go.Addr.mk 1004 (0 + Int.toNat i * 1) Option.none))))
 False)
 False) ∧
 (((vI i) = (vI i)) ∧
 (((Go.Value.slice (Option.some (Go.Addr.mk 1004 0 Option.none)) (m + 1) (m + 1)) = (Go.Value.slice (Option.some (Go.Addr.mk 1004 0 Option.none)) (m + 1) (m + 1))) ∧
 True)))) ∧
 (True ∧
 (bcase (r1 != 0)
 (k [D.nil, (D.val (vI r1))])
 (bcase (decide (i ≥ a))
 (bcase (decide (0 ≤ IntKind.wrap .i64 (i - a)))
 (bcase (decide (IntKind.wrap .i64 (i - a) < (↑(m + 1) : Int)))
 (∃ n3 : Int,
 ((At ((List.take (m * 1) (List.drop 0 vs)) ++ [(vI (IntKind.wrap .i64 (n1 + x)))]) (0 + Int.toNat (IntKind.wrap .i64 (i - a)) * 1) 1 [(vI n3)]) ∧
 (((∃ n4 : Int,
 ((At ((List.take (m * 1) (List.drop 0 vs)) ++ [(vI (IntKind.wrap .i64 (n1 + x)))]) (0 + Int.toNat (IntKind.wrap .i64 (i - a)) * 1) 1 [(vI n4)]) ∧
 ((vI n4) = (vI n3)))) ∧
 ((bcase (decide (0 ≤ IntKind.wrap .i64 (i - a)))
 (bcase (decide (IntKind.wrap .i64 (i - a) < (↑(m + 1) : Int)))
 ((Go.Value.pointer (Option.some (Go.Addr.mk 1004 (0 + Int.toNat (IntKind.wrap .i64 (i - a)) * 1) Option.none))) = (Go.Value.pointer (Option.some (Go.Addr.mk 1004 (0 + Int.toNat (IntKind.wrap .i64 (i - a)) * 1) Option.none))))
 False)
 False) ∧
 (((vI (IntKind.wrap .i64 (i - a))) = (vI (IntKind.wrap .i64 (i - a)))) ∧
 (((vI a) = (vI a)) ∧
 (((Go.Value.pointer (Option.some (Go.Addr.mk 1000 0 Option.none))) = (Go.Value.pointer (Option.some (Go.Addr.mk 1000 0 Option.none)))) ∧
 (((Go.Value.pointer (Option.some (Go.Addr.mk 1000 0 Option.none))) = (Go.Value.pointer (Option.some (Go.Addr.mk 1000 0 Option.none)))) ∧
 (((vI i) = (vI i)) ∧
 (((Go.Value.slice (Option.some (Go.Addr.mk 1004 0 Option.none)) (m + 1) (m + 1)) = (Go.Value.slice (Option.some (Go.Addr.mk 1004 0 Option.none)) (m + 1) (m + 1))) ∧
 (((Go.Value.agg [(vI a), (vI b), (vI c), (vI d)].toArray) = (Go.Value.agg [(vI a), (vI b), (vI c), (vI d)].toArray)) ∧
 (((vI x) = (vI x)) ∧
 True)))))))))) ∧
 (∃ n4 : Int,
 ((Says C 64 [(D.agg [(D.val (vI a)), (D.val (vI b)), (D.val (vI c)), (D.val (vI d))]), (D.val (vI n3))] [(D.val (vI n4))]) ∧
 ((((vI (IntKind.wrap .i64 (x - n4))) = (vI (IntKind.wrap .i64 (x - n4)))) ∧
 ((bcase (decide (0 ≤ IntKind.wrap .i64 (i - a)))
 (bcase (decide (IntKind.wrap .i64 (i - a) < (↑(m + 1) : Int)))
 ((Go.Value.pointer (Option.some (Go.Addr.mk 1004 (0 + Int.toNat (IntKind.wrap .i64 (i - a)) * 1) Option.none))) = (Go.Value.pointer (Option.some (Go.Addr.mk 1004 (0 + Int.toNat (IntKind.wrap .i64 (i - a)) * 1) Option.none))))
 False)
 False) ∧
 (((vI (IntKind.wrap .i64 (i - a))) = (vI (IntKind.wrap .i64 (i - a)))) ∧
 (((vI a) = (vI a)) ∧
 (((Go.Value.pointer (Option.some (Go.Addr.mk 1000 0 Option.none))) = (Go.Value.pointer (Option.some (Go.Addr.mk 1000 0 Option.none)))) ∧
 (((Go.Value.pointer (Option.some (Go.Addr.mk 1000 0 Option.none))) = (Go.Value.pointer (Option.some (Go.Addr.mk 1000 0 Option.none)))) ∧
 (((vI i) = (vI i)) ∧
 (((Go.Value.slice (Option.some (Go.Addr.mk 1004 0 Option.none)) (m + 1) (m + 1)) = (Go.Value.slice (Option.some (Go.Addr.mk 1004 0 Option.none)) (m + 1) (m + 1))) ∧
 (((vI x) = (vI x)) ∧
 True))))))))) ∧
 (True ∧
 (B [(Prod.mk 2 (Go.Value.pointer (Option.some (Go.Addr.mk 1000 0 Option.none)))), (Prod.mk 6 (Go.Value.pointer (Option.some (Go.Addr.mk 1001 0 Option.none)))), (Prod.mk 7 (Go.Value.slice (Option.some (Go.Addr.mk 1002 0 Option.none)) (m + 1) (m + 1))), (Prod.mk 8 (vI (IntKind.wrap .i64 (x - n4)))), (Prod.mk 13 (Go.Value.slice (Option.some (Go.Addr.mk 500 0 Option.none)) (n) (cap))), (Prod.mk 14 (vI ((↑n : Int)))), (Prod.mk 15 (vI (IntKind.wrap .i64 (i + 1))))] [(Prod.mk 1000 (AObj.cells [(vI a), (vI b), (vI c), (vI d)] 112 false 1)), (Prod.mk 1001 (AObj.cells [(vI (-(99999 + 1) : Int)), (vI (100000 : Int))] 56 false 2)), (Prod.mk 1002 (AObj.sym ((List.take (m * 1) (List.drop 0 vs)) ++ [(vI (IntKind.wrap .i64 (n1 + x)))]) true 1)), (Prod.mk 500 (AObj.sym (l) false 1))]))))))))
 False)
 False)
 (B [(Prod.mk 2 (Go.Value.pointer (Option.some (Go.Addr.mk 1000 0 Option.none)))), (Prod.mk 6 (Go.Value.pointer (Option.some (Go.Addr.mk 1001 0 Option.none)))), (Prod.mk 7 (Go.Value.slice (Option.some (Go.Addr.mk 1002 0 Option.none)) (m + 1) (m + 1))), (Prod.mk 8 (vI x)), (Prod.mk 13 (Go.Value.slice (Option.some (Go.Addr.mk 500 0 Option.none)) (n) (cap))), (Prod.mk 14 (vI ((↑n : Int)))), (Prod.mk 15 (vI (IntKind.wrap .i64 (i + 1))))] [(Prod.mk 1000 (AObj.cells [(vI a), (vI b), (vI c), (vI d)] 112 false 1)), (Prod.mk 1001 (AObj.cells [(vI (-(99999 + 1) : Int)), (vI (100000 : Int))] 56 false 2)), (Prod.mk 1002 (AObj.sym ((List.take (m * 1) (List.drop 0 vs)) ++ [(vI (IntKind.wrap .i64 (n1 + x)))]) true 1)), (Prod.mk 500 (AObj.sym (l) false 1))])))))))))))
 False)
 False)
 False)
 False)
 False)
 False)
 False)))
 False)
 False)
 (X 0 [(Prod.mk 7 (Go.Value.slice (Option.some (Go.Addr.mk 1000 0 Option.none)) (m) (mc)))] [(Prod.mk 1000 (AObj.sym (vs) true 1))])) := by kernel_rfl
abbrev oN (a b c d : Int) : Nat × AObj := (1000, .cells [vI a, vI b, vI c, vI d] 73 false 1)
def sRA (a : Int) (l41 : Value) (n q t : Int) : Slots := [(2, P1 1000 0), (6, P1 1001 0), (10, vI q), (41, l41), (42, vI n), (43, vI t)]
def rRA (C : Ct) (L : AtLoop) (a b c d : Int) (n : Nat) (q t : Int) (l : List Value) (B : Bx) (X : Xx) (k : List D → Prop) : Prop := wpRound Try.prog (hG C) L 31 0 (sRA a (.slice (some ⟨1002, 0, none⟩) n n) n q t) [oN a b c d, (1001, .cells [vI a, vI b, vI c, vI d] 112 false 4), (1002, .sym l true 1)] B X (dataK k)
theorem rRA_text (C : Ct) (L : AtLoop) (a : Int) (b : Int) (c : Int) (d : Int) (n : Nat) (q : Int) (t : Int) (l : List Go.Value) (B : Bx) (X : Xx) (k : List D → Prop) : rRA C L a b c d n q t l B X k =
 (bcase (decide (t < (↑n : Int)))
 (bcase (decide (0 ≤ t))
 (bcase (decide (t < (↑n : Int)))
 (∃ n1 : Int,
 ((At (l) (0 + Int.toNat t * 1) 1 [(vI n1)]) ∧
 (∃ n2 : Int,
 ((Says C 64 [(D.agg [(D.val (vI a)), (D.val (vI b)), (D.val (vI c)), (D.val (vI d))]), (D.val (vI n1))] [(D.val (vI n2))]) ∧
 (bcase (n2 != 0)
 (bcase (decide (0 > a))
 (k [(D.val (vI t)), (D.val (vI (0 : Int)))])
 (B [(Prod.mk 2 (Go.Value.pointer (Option.some (Go.Addr.mk 1000 0 Option.none)))), (Prod.mk 6 (Go.Value.pointer (Option.some (Go.Addr.mk 1001 0 Option.none)))), (Prod.mk 10 (vI (0 : Int))), (Prod.mk 41 (Go.Value.slice (Option.some (Go.Addr.mk 1002 0 Option.none)) (n) (n))), (Prod.mk 42 (vI ((↑n : Int)))), (Prod.mk 43 (vI (IntKind.wrap .i64 (t + 1))))] [(Prod.mk 1000 (AObj.cells [(vI a), (vI b), (vI c), (vI d)] 73 false 1)), (Prod.mk 1001 (AObj.cells [(vI a), (vI b), (vI c), (vI d)] 112 false 4)), (Prod.mk 1002 (AObj.sym (l) true 1))]))
 (bcase (decide (IntKind.wrap .i64 (q + 1) > a))
 (k [(D.val (vI t)), (D.val (vI (0 : Int)))])
 (B [(Prod.mk 2 (Go.Value.pointer (Option.some (Go.Addr.mk 1000 0 Option.none)))), (Prod.mk 6 (Go.Value.pointer (Option.some (Go.Addr.mk 1001 0 Option.none)))), (Prod.mk 10 (vI (IntKind.wrap .i64 (q + 1)))), (Prod.mk 41 (Go.Value.slice (Option.some (Go.Addr.mk 1002 0 Option.none)) (n) (n))), (Prod.mk 42 (vI ((↑n : Int)))), (Prod.mk 43 (vI (IntKind.wrap .i64 (t + 1))))] [(Prod.mk 1000 (AObj.cells [(vI a), (vI b), (vI c), (vI d)] 73 false 1)), (Prod.mk 1001 (AObj.cells [(vI a), (vI b), (vI c), (vI d)] 112 false 4)), (Prod.mk 1002 (AObj.sym (l) true 1))])))))))
 False)
 False)
 (X 0 [] [])) := by kernel_rfl
def nRA (C : Ct) (L : AtLoop) (a b c d : Int) (k : List D → Prop) : Prop := wpNext Try.prog (hG C) L 31 0 .normal [] [] (dataK k)
theorem nRA_text (C : Ct) (L : AtLoop) (a : Int) (b : Int) (c : Int) (d : Int) (k : List D → Prop) : nRA C L a b c d k =
 (k [(D.val (vI (0 : Int))), (D.val (vI (21 : Int)))]) := by kernel_rfl
def nOu0 (C : Ct) (L : AtLoop) (k : List D → Prop) : Prop := wpNext Try.prog (hG C) L 62 0 .normal [(7, .slice none 0 0)] [] (dataK k)
theorem nOu0_text (C : Ct) (L : AtLoop) (k : List D → Prop) : nOu0 C L k =
 (k [D.nil, (D.val (vI (0 : Int)))]) := by kernel_rfl
def nOu (C : Ct) (L : AtLoop) (m mc : Nat) (vs : List Value) (k : List D → Prop) : Prop := wpNext Try.prog (hG C) L 62 0 .normal [(7, .slice (some ⟨1000, 0, none⟩) m mc)] [(1000, .sym vs true 1)] (dataK k)
theorem nOu_text (C : Ct) (L : AtLoop) (m : Nat) (mc : Nat) (vs : List Go.Value) (k : List D → Prop) : nOu C L m mc vs k =
 ((((m) = (mc)) ∧
 ((List.length vs) = (m * 1))) ∧
 (k [(D.sl (m) 1 (vs)), (D.val (vI (0 : Int)))])) := by kernel_rfl
def fRe (C : Ct) (cap : Nat) (x : Int) (k : List D → Prop) : Prop := wpFn Try.prog (hE C) (fun _ _ _ => False) 12 63 #[S500 1 cap, vI 501] (heapOf [Q500 [vI x]]) (dataK k)
end Go.Proofs.G5b

/- Chapter 5: monitors in data: outputs, rest. -/
namespace Go.Proofs.G5
open Go Go.Abs
/-- the size of a number -/
def szI (y : Int) : Int := if -y > y then -y else y
/-- what is taken from the correction for an output -/
def tk (nu de ba y : Int) : Int := if szI y ≤ ba then 0 else (nu * y).tdiv de
/-- the outputs, none if one is too great -/
def outs (D : Nat) (f : Int → Int) : List Int → Int → List Int → Option (List Int)
  | done, _, [] => some done
  | done, c, d :: r => if -100000 ≤ d + c ∧ d + c ≤ 100000 then outs D f (done ++ [d + c]) (c - if D ≤ done.length then f ((done ++ [d + c]).getD (done.length - D) 0) else 0) r else none
/-- the first tick after which it rests -/
def restGo (D : Int) (f : Int → Int) : Int → Int → List Int → Int × Int
  | _, _, [] => (0, 21)
  | q, t, y :: r => if (if f y ≠ 0 then 0 else q + 1) > D then (t, 0) else restGo D f (if f y ≠ 0 then 0 else q + 1) (t + 1) r
/-! ### a constant disturbance -/
def hist (D : Nat) (f : Int → Int) (d : Int) : Nat → List Int × Int
  | 0 => ([], 0)
  | t + 1 => ((hist D f d t).1 ++ [d + (hist D f d t).2], (hist D f d t).2 - if D ≤ t then f (((hist D f d t).1 ++ [d + (hist D f d t).2]).getD (t - D) 0) else 0)
def Y (D : Nat) (f : Int → Int) (d : Int) (t : Nat) : Int := d + (hist D f d t).2
variable {D : Nat} {f : Int → Int} {d : Int}
def okY (D : Nat) (f : Int → Int) (d : Int) (t : Nat) : Prop := -100000 ≤ Y D f d t ∧ Y D f d t ≤ 100000
instance (t : Nat) : Decidable (okY D f d t) := by unfold okY; infer_instance
/-! ### rest -/
/-- the first place from which on all are the same -/
def runAt (l : List Int) : Nat → Nat
  | 0 => 0
  | n + 1 => if l.getD n 0 = l.getD (n + 1) 0 then runAt l n else n + 1
open Classical in
/-- after how many ticks it rests, by the definition -/
noncomputable def restRef (D : Nat) (f : Int → Int) (d : Int) : Int × Int :=
  match outs D f [] 0 (List.replicate 501 d) with
  | none => (0, 22)
  | some out =>
    match outs D f [] 0 (List.replicate (501 + D + 1) d) with
    | none => (0, 21)
    | some more => if ∀ t, runAt out 500 ≤ t → t < 501 + D + 1 → more.getD t 0 = out.getD (runAt out 500) 0 then ((runAt out 500 : Nat), 0) else (0, 21)
/-- after how many ticks it rests -/
def restV (D : Nat) (f : Int → Int) (d : Int) : Int × Int :=
  match outs D f [] 0 (List.replicate 501 d) with
  | none => (0, 22)
  | some out => restGo D f D 0 out
end Go.Proofs.G5

/- Chapter 5: monitors that rest: what is true of them. -/
namespace Go.Proofs.G5
open Go Go.Abs
variable {D : Nat} {f : Int → Int} {d : Int}
end Go.Proofs.G5

/- The evaluator with a table: calls whose outcome on some data is known are not entered. -/
namespace Go.Abs
open Go.RowKit
variable {P : Program} {ρ : Ren} {w0 : Start} {w : World} {H : Heap}

/-! ### Data of values, computed -/
def readCO (H : Heap) : List Value → Option (List D)
  | [] => some []
  | v :: r =>
    match v with
    | .slice none 0 0 => (readCO H r).map (.nil :: ·)
    | .slice (some ⟨i, o, none⟩) len _ =>
      match H.get i with
      | some (.sym cs _ es) => if o + len * es ≤ cs.length then (readCO H r).map (.sl len es ((cs.drop o).take (len * es)) :: ·) else none
      | some (.cells cs _ _ es) => if o + len * es ≤ cs.length then (if ((cs.drop o).take (len * es)).all cellP then (readCO H r).map (.sl len es ((cs.drop o).take (len * es)) :: ·) else none) else none
      | _ => none
    | v => if plain 8 v then (readCO H r).map (.val v :: ·) else none
def readVO (H : Heap) : List Value → Option (List D)
  | [] => some []
  | .agg cs :: r => (readCO H cs.toList).bind fun ds => (readVO H r).map (.agg ds :: ·)
  | v :: r => (readCO H [v]).bind fun ds => (readVO H r).map (ds ++ ·)
theorem readCO_ok : ∀ {l : List Value} {ds : List D}, readCO H l = some ds → ∀ k : List D → Prop, k ds → readCells H l k
  | [], ds, h, k, hk => by
    simp only [readCO, Option.some.injEq] at h; subst h; exact hk
  | v :: r, ds, h, k, hk => by
    unfold readCO at h
    unfold readCells
    split at h
    · obtain ⟨x, hx, rfl⟩ := Option.map_eq_some_iff.1 h
      exact readCO_ok hx _ hk
    · simp only
      split at h
      · rename_i hg
        simp only [hg]
        split at h
        · rename_i hle
          obtain ⟨x, hx, rfl⟩ := Option.map_eq_some_iff.1 h
          exact bcase_intro (fun _ => readCO_ok hx _ hk) (fun hf => absurd hle (of_decide_eq_false hf))
        · cases h
      · rename_i hg
        simp only [hg]
        split at h
        · rename_i hle
          split at h
          · rename_i hall
            obtain ⟨x, hx, rfl⟩ := Option.map_eq_some_iff.1 h
            exact bcase_intro (fun _ => bcase_intro (fun _ => readCO_ok hx _ hk) (fun hf => by rw [hall] at hf; cases hf)) (fun hf => absurd hle (of_decide_eq_false hf))
          · cases h
        · cases h
      · cases h
    · rename_i h1 h2
      split
      · exact absurd rfl h1
      · exact absurd rfl (h2 _ _ _ _)
      · split at h
        · rename_i hp
          obtain ⟨x, hx, rfl⟩ := Option.map_eq_some_iff.1 h
          rw [if_pos hp]
          exact readCO_ok hx _ hk
        · cases h
theorem readVO_ok : ∀ {l : List Value} {ds : List D}, readVO H l = some ds → ∀ k : List D → Prop, k ds → readVals H l k
  | [], ds, h, k, hk => by
    simp only [readVO, Option.some.injEq] at h; subst h; exact hk
  | v :: r, ds, h, k, hk => by
    unfold readVO at h
    unfold readVals
    split at h
    · rename_i e; cases e
    · rename_i e; cases e
      obtain ⟨x, hx, h⟩ := Option.bind_eq_some_iff.1 h
      obtain ⟨y, hy, rfl⟩ := Option.map_eq_some_iff.1 h
      exact readCO_ok hx _ (readVO_ok hy _ hk)
    · rename_i h1 e; cases e
      obtain ⟨x, hx, h⟩ := Option.bind_eq_some_iff.1 h
      obtain ⟨y, hy, rfl⟩ := Option.map_eq_some_iff.1 h
      split
      · rename_i e; cases e
      · rename_i e; cases e; exact absurd rfl (h1 _)
      · rename_i e; cases e
        exact readCO_ok hx _ (readVO_ok hy _ hk)

/-! ### Data laid, computed -/
def layCO : List D → Heap → Option (List Value × Heap)
  | [], H => some ([], H)
  | .nil :: r, H => (layCO r H).map fun x => (.slice none 0 0 :: x.1, x.2)
  | .sl n es cs :: r, H => (layCO r (H.new (.sym cs true es))).map fun x => (.slice (some ⟨H.next, 0, none⟩) n n :: x.1, x.2)
  | .val v :: r, H => match v with
    | .agg _ => none
    | v => (layCO r H).map fun x => (v :: x.1, x.2)
  | .agg _ :: _, _ => none
def layVO : List D → Heap → Option (List Value × Heap)
  | [], H => some ([], H)
  | .agg ds :: r, H => (layCO ds H).bind fun x => (layVO r x.2).map fun y => (.agg x.1.toArray :: y.1, y.2)
  | d :: r, H => (layCO [d] H).bind fun x => match x.1 with
    | [v] => (layVO r x.2).map fun y => (v :: y.1, y.2)
    | _ => none
theorem layCO_ok : ∀ {ds : List D} {H : Heap} {x : List Value × Heap}, layCO ds H = some x → ∀ k : List Value → Heap → Prop, k x.1 x.2 → layC ds H k
  | [], H, x, h, k, hk => by
    simp only [layCO, Option.some.injEq] at h; subst h; exact hk
  | .nil :: r, H, x, h, k, hk => by
    obtain ⟨y, hy, rfl⟩ := Option.map_eq_some_iff.1 h
    exact layCO_ok hy _ hk
  | .sl n es cs :: r, H, x, h, k, hk => by
    obtain ⟨y, hy, rfl⟩ := Option.map_eq_some_iff.1 h
    exact layCO_ok hy _ hk
  | .val v :: r, H, x, h, k, hk => by
    unfold layCO at h
    unfold layC
    split at h
    · cases h
    · rename_i hv
      split
      · exact absurd rfl (hv _)
      · obtain ⟨y, hy, rfl⟩ := Option.map_eq_some_iff.1 h
        exact layCO_ok hy _ hk
  | .agg _ :: _, H, x, h, k, hk => by cases h
theorem layVO_ok : ∀ {ds : List D} {H : Heap} {x : List Value × Heap}, layVO ds H = some x → ∀ k : List Value → Heap → Prop, k x.1 x.2 → layV ds H k
  | [], H, x, h, k, hk => by
    simp only [layVO, Option.some.injEq] at h; subst h; exact hk
  | d :: r, H, x, h, k, hk => by
    unfold layVO at h
    unfold layV
    split at h
    · rename_i e; cases e
    · rename_i e; cases e
      obtain ⟨y, hy, h⟩ := Option.bind_eq_some_iff.1 h
      obtain ⟨z, hz, rfl⟩ := Option.map_eq_some_iff.1 h
      exact layCO_ok hy _ (layVO_ok hz _ hk)
    · rename_i h1 e; cases e
      obtain ⟨y, hy, h⟩ := Option.bind_eq_some_iff.1 h
      split at h
      · rename_i he
        obtain ⟨z, hz, rfl⟩ := Option.map_eq_some_iff.1 h
        split
        · rename_i e; cases e
        · rename_i e; cases e; exact absurd rfl (h1 _)
        · rename_i e; cases e
          refine layCO_ok hy _ ?_
          simp only [he]
          exact layVO_ok hz _ hk
      · cases h

/-! ### Data given, computed -/
def giveCO (H : Heap) : List Nat → List Value → Option (List Nat × List D)
  | used, [] => some (used, [])
  | used, v :: r =>
    match v with
    | .slice none 0 0 => (giveCO H used r).map fun x => (x.1, .nil :: x.2)
    | .slice (some ⟨i, 0, none⟩) len cap =>
      if gbase ≤ i ∧ used.contains i = false then
        match H.get i with
        | some (.sym cs true es) => if len = cap ∧ cs.length = len * es then (giveCO H (i :: used) r).map fun x => (x.1, .sl len es cs :: x.2) else none
        | some (.cells cs _ _ es) => if len = cap ∧ cs.length = len * es then (if cs.all cellP then (giveCO H (i :: used) r).map fun x => (x.1, .sl len es cs :: x.2) else none) else none
        | _ => none
      else none
    | v => if plain 8 v then (giveCO H used r).map fun x => (x.1, .val v :: x.2) else none
def giveVO (H : Heap) : List Nat → List Value → Option (List D)
  | _, [] => some []
  | used, .agg cs :: r => (giveCO H used cs.toList).bind fun x => (giveVO H x.1 r).map (.agg x.2 :: ·)
  | used, v :: r => (giveCO H used [v]).bind fun x => (giveVO H x.1 r).map (x.2 ++ ·)
def giveO (v : Value) (H : Heap) : Option (List D) :=
  match v with
  | .tuple vs => if vs.size = 1 then none else giveVO H [] vs.toList
  | v => giveVO H [] [v]
theorem giveCO_ok : ∀ {l : List Value} {used : List Nat} {x : List Nat × List D}, giveCO H used l = some x → ∀ k : List Nat → List D → Prop, k x.1 x.2 → giveCells H used l k
  | [], used, x, h, k, hk => by
    simp only [giveCO, Option.some.injEq] at h; subst h; exact hk
  | v :: r, used, x, h, k, hk => by
    unfold giveCO at h
    unfold giveCells
    split at h
    · obtain ⟨y, hy, rfl⟩ := Option.map_eq_some_iff.1 h
      exact giveCO_ok hy _ hk
    · simp only
      split at h
      · rename_i hc
        rw [if_pos hc]
        split at h
        · rename_i hg
          simp only [hg]
          split at h
          · rename_i hl
            obtain ⟨y, hy, rfl⟩ := Option.map_eq_some_iff.1 h
            exact ⟨hl, giveCO_ok hy _ hk⟩
          · cases h
        · rename_i hg
          simp only [hg]
          split at h
          · rename_i hl
            split at h
            · rename_i hall
              obtain ⟨y, hy, rfl⟩ := Option.map_eq_some_iff.1 h
              exact ⟨hl, bcase_intro (fun _ => giveCO_ok hy _ hk) (fun hf => by rw [hall] at hf; cases hf)⟩
            · cases h
          · cases h
        · cases h
      · cases h
    · rename_i h1 h2
      split
      · exact absurd rfl h1
      · exact absurd rfl (h2 _ _ _)
      · split at h
        · rename_i hp
          obtain ⟨y, hy, rfl⟩ := Option.map_eq_some_iff.1 h
          rw [if_pos hp]
          exact giveCO_ok hy _ hk
        · cases h
theorem giveVO_ok : ∀ {l : List Value} {used : List Nat} {ds : List D}, giveVO H used l = some ds → ∀ k : List D → Prop, k ds → giveVals H used l k
  | [], used, ds, h, k, hk => by
    simp only [giveVO, Option.some.injEq] at h; subst h; exact hk
  | v :: r, used, ds, h, k, hk => by
    unfold giveVO at h
    unfold giveVals
    split at h
    · rename_i e; cases e
    · rename_i e; cases e
      obtain ⟨x, hx, h⟩ := Option.bind_eq_some_iff.1 h
      obtain ⟨y, hy, rfl⟩ := Option.map_eq_some_iff.1 h
      exact giveCO_ok hx _ (giveVO_ok hy _ hk)
    · rename_i h1 e; cases e
      obtain ⟨x, hx, h⟩ := Option.bind_eq_some_iff.1 h
      obtain ⟨y, hy, rfl⟩ := Option.map_eq_some_iff.1 h
      split
      · rename_i e; cases e
      · rename_i e; cases e; exact absurd rfl (h1 _)
      · rename_i e; cases e
        exact giveCO_ok hx _ (giveVO_ok hy _ hk)
theorem giveO_ok {v : Value} {ds : List D} (h : giveO v H = some ds) : dataK (· = ds) v H := by
  unfold giveO at h
  unfold dataK
  split at h
  · split at h
    · cases h
    · rename_i hs
      simp only [if_neg hs]
      exact giveVO_ok h _ rfl
  · rename_i hn
    split
    · exact absurd rfl (hn _)
    · exact giveVO_ok h _ rfl

/-! ### Data compared -/
def cEq : Value → Value → Bool
  | .int j a, .int k b => j == k && a == b
  | .bool a, .bool b => a == b
  | .string a, .string b => a.data.toList == b.data.toList
  | _, _ => false
def csEq : List Value → List Value → Bool
  | [], [] => true
  | a :: xs, b :: bs => cEq a b && csEq xs bs
  | _, _ => false
def d1Eq : D → D → Bool
  | .nil, .nil => true
  | .val a, .val b => cEq a b
  | .sl n es cs, .sl m fs bs => n == m && es == fs && csEq cs bs
  | _, _ => false
def d2Eq : List D → List D → Bool
  | [], [] => true
  | a :: xs, b :: bs => d1Eq a b && d2Eq xs bs
  | _, _ => false
def dEq : D → D → Bool
  | .agg a, .agg b => d2Eq a b
  | a, b => d1Eq a b
def dsEq : List D → List D → Bool
  | [], [] => true
  | a :: xs, b :: bs => dEq a b && dsEq xs bs
  | _, _ => false
theorem cEq_ok : ∀ {a b : Value}, cEq a b = true → a = b := by
  intro a b h
  unfold cEq at h
  split at h
  · simp only [Bool.and_eq_true, beq_iff_eq] at h; rw [h.1, h.2]
  · rw [eq_of_beq h]
  · rename_i x y
    have e := eq_of_beq h
    obtain ⟨x⟩ := x
    obtain ⟨y⟩ := y
    have : x = y := Array.ext' e
    rw [this]
  · cases h
theorem csEq_ok : ∀ {a b : List Value}, csEq a b = true → a = b
  | [], [], _ => rfl
  | a :: xs, b :: bs, h => by
    simp only [csEq, Bool.and_eq_true] at h
    rw [cEq_ok h.1, csEq_ok h.2]
  | [], _ :: _, h => by cases h
  | _ :: _, [], h => by cases h
theorem d1Eq_ok {a b : D} (h : d1Eq a b = true) : a = b := by
  unfold d1Eq at h
  split at h
  · rfl
  · rw [cEq_ok h]
  · simp only [Bool.and_eq_true, beq_iff_eq] at h
    rw [h.1.1, h.1.2, csEq_ok h.2]
  · cases h
theorem d2Eq_ok : ∀ {a b : List D}, d2Eq a b = true → a = b
  | [], [], _ => rfl
  | a :: xs, b :: bs, h => by
    simp only [d2Eq, Bool.and_eq_true] at h
    rw [d1Eq_ok h.1, d2Eq_ok h.2]
  | [], _ :: _, h => by cases h
  | _ :: _, [], h => by cases h
theorem dEq_ok {a b : D} (h : dEq a b = true) : a = b := by
  unfold dEq at h
  split at h
  · rw [d2Eq_ok h]
  · exact d1Eq_ok h
theorem dsEq_ok : ∀ {a b : List D}, dsEq a b = true → a = b
  | [], [], _ => rfl
  | a :: xs, b :: bs, h => by
    simp only [dsEq, Bool.and_eq_true] at h
    rw [dEq_ok h.1, dsEq_ok h.2]
  | [], _ :: _, h => by cases h
  | _ :: _, [], h => by cases h

/-! ### The evaluator with a table -/
abbrev Tab := FuncId → Option (List D → Option (List D))
/-- (a list of what is known) -/
def tabLook : List (List D × List D) → List D → Option (List D)
  | [], _ => none
  | p :: r, ds => if dsEq p.1 ds then some p.2 else tabLook r ds
theorem tabLook_ok : ∀ {t : List (List D × List D)} {ds rs : List D}, tabLook t ds = some rs → (ds, rs) ∈ t
  | [], _, _, h => by cases h
  | p :: r, ds, rs, h => by
    unfold tabLook at h
    split at h
    · rename_i he
      simp only [Option.some.injEq] at h
      rw [← dsEq_ok he, ← h]
      exact List.mem_cons_self ..
    · exact List.mem_cons_of_mem _ (tabLook_ok h)
def tabCall (t : List D → Option (List D)) (args : Array Value) (H : Heap) : Option (Value × Heap) :=
  (readVO H args.toList).bind fun ds => (t ds).bind fun rs => (layVO rs H).map fun x => (tupleOf x.1, x.2)
def evalT (P : Program) (tab : Tab) : Nat → Self
  | 0 => ⟨fun _ _ _ => none, fun _ _ _ _ => none⟩
  | n + 1 => ⟨fun f args H => match tab f with | none => callBody P (evalT P tab n) f args H | some t => tabCall t args H, fun round c A H => codeA P (evalT P tab n) round c A H⟩
def TabOK (P : Program) (tab : Tab) : Prop := ∀ f t, tab f = some t → ∀ ds rs, t ds = some rs → Con P f ds rs
theorem tabCall_sound {f : FuncId} {t : List D → Option (List D)} (ht : ∀ ds rs, t ds = some rs → Con P f ds rs) {args : Array Value} {v : Value} {H' : Heap} (h : tabCall t args H = some (v, H')) : CallH P f args H (fun u K => u = v ∧ K = H') := by
  obtain ⟨ds, h1, h⟩ := Option.bind_eq_some_iff.1 h
  obtain ⟨rs, h2, h⟩ := Option.bind_eq_some_iff.1 h
  obtain ⟨x, h3, h⟩ := Option.map_eq_some_iff.1 h
  simp only [Prod.mk.injEq] at h
  obtain ⟨rfl, rfl⟩ := h
  refine wpFix_call (C := fun g ds rs => g = f ∧ t ds = some rs ∨ Con P g ds rs) (fun g ds rs hc => ?_) (fix := t) ?_
  · rcases hc with ⟨rfl, hm⟩ | hc
    · exact ht _ _ hm
    · exact hc
  · unfold wpFix
    refine readVO_ok h1 _ ?_
    simp only [h2]
    exact ⟨⟨.inl ⟨rfl, h2⟩⟩, layVO_ok h3 _ ⟨rfl, rfl⟩⟩
theorem evalT_sound {tab : Tab} (htab : TabOK P tab) (hmix : P.follows .mixedOrders = true) : ∀ n, SelfS P w0 (evalT P tab n)
  | 0 => ⟨fun n _ _ h => by simp [evalT] at h, fun n _ _ _ h => by simp [evalT] at h, fun n _ _ _ h => by simp [evalT] at h⟩
  | k + 1 => ⟨fun {ρ H w f args args' v H'} n g ha h => by
      simp only [evalT] at h
      split at h
      · exact callBody_sound (evalT_sound htab hmix k) g n ha h
      · rename_i t ht
        refine (tabCall_sound (htab f t ht) h w0 ρ w args' n g ha).mono ?_
        rintro e w' ⟨u, K, ρ', v', ⟨rfl, rfl⟩, h1, h2, h3, h4⟩
        exact ⟨ρ', v', h1, h2, h3, h4⟩, fun n g rr ra h => codeA_sound (evalT_sound htab hmix k) hmix n _ g rr ra h,
      fun n g rr ra h => loopIn_once (loop_body (evalT_sound htab hmix k) n _ (fun g rr ra h => codeA_sound (evalT_sound htab hmix k) hmix n _ g rr ra h) g rr ra h)⟩
/-- A call of known data is run. -/
def runOK (P : Program) (tab : Tab) (n : Nat) (f : FuncId) (ds rs : List D) (caps : Nat → Nat) : Bool :=
  match (evalT P tab n).call f (layVals caps 500 ds).1.toArray (heapOf (layVals caps 500 ds).2) with
  | some (v, H) => (match giveO v H with | some rs' => dsEq rs' rs | none => false)
  | none => false
theorem con_run {tab : Tab} (htab : TabOK P tab) (hmix : P.follows .mixedOrders = true) {n : Nat} {f : FuncId} {ds rs : List D} (hcount : countV ds ≤ 400) (h : ∀ caps, runOK P tab n f ds rs caps = true) : Con P f ds rs := by
  intro w args hr
  obtain ⟨caps, ρ, hst, g, ha⟩ := lay_gam hr hcount
  have h := h caps
  unfold runOK at h
  split at h
  · rename_i v H hc
    split at h
    · rename_i rs' hg
      have e := dsEq_ok h
      subst e
      refine callsIn_wide.1 (((evalT_sound htab hmix n).call 0 g (by simpa using ha) hc).mono ?_)
      rintro e w' ⟨ρ', v', rfl, hv, g', ext'⟩
      obtain ⟨vs, ds', u, rfl, h1, rfl⟩ := dataK_out g' hv (giveO_ok hg)
      exact ⟨⟨vs, u, rfl, h1⟩, g'.below.below hst⟩
    · cases h
  · cases h
end Go.Abs

/- Chapter 5: what small functions do, in data. -/
namespace Go.Proofs.G5b
open Go Go.Abs Go.Proofs Go.Proofs.G5
set_option maxRecDepth 100000
abbrev C5 : FuncId → List D → List D → Prop := Con Try.prog
theorem preOK : PreOK Try.prog (preG C5) := by
  intro g h he args ats H k hk
  unfold preG at he
  split at he
  · rename_i e
    obtain rfl := Option.some.inj he
    rw [beq_iff_eq] at e
    subst e
    exact wpState_call (fun args bs K hk => wit_ok hk) hk
  · split at he
    · obtain rfl := Option.some.inj he
      exact fixH_ok (fun _ _ _ h => h) _ _ _ _ _ hk
    · split at he
      · obtain rfl := Option.some.inj he
        exact saidH_ok (fun _ _ _ h => h) _ _ _ _ _ hk
      · cases he
theorem hok : HandlerOK Try.prog (hG C5) := handlerX_ok mixed preOK (by decide) 6
theorem hokE : HandlerOK Try.prog (hE C5) := handlerX_ok mixed (fun g h he => by cases he) (by decide) 6
theorem vi_snoc (r : List Int) (z : Int) : vi r ++ [vI z] = vi (r ++ [z]) := by simp [vi]
theorem wit_of1 {lo hi e x r : Int} (h : r = if lo ≤ x ∧ x ≤ hi then 0 else e) : Says witC 0 [dI lo, dI hi, dI e, .sl 1 1 [vI x]] [dI r] := ⟨by
  show r = witE lo hi e [.int .i64 x]
  rw [h]; simp only [witE]
  split <;> split <;> first | rfl | omega⟩
def rngE (lo hi e x : Int) : Int := if lo ≤ x ∧ x ≤ hi then 0 else e
theorem wit_rng {lo hi e x : Int} : Says witC 0 [dI lo, dI hi, dI e, .sl 1 1 [vI x]] [dI (rngE lo hi e x)] := wit_of1 rfl
theorem rngE0 {lo hi e x : Int} (he : e ≠ 0) : rngE lo hi e x = 0 ↔ lo ≤ x ∧ x ≤ hi := by
  unfold rngE; split <;> omega
theorem rngE_no {lo hi e x : Int} (h : ¬ (lo ≤ x ∧ x ≤ hi)) : rngE lo hi e x = e := if_neg h
theorem fst0_rng {lo hi e x : Int} {l : List Int} (he : e ≠ 0) : fst0 (rngE lo hi e x :: l) = if lo ≤ x ∧ x ≤ hi then fst0 l else e := by
  unfold rngE
  rw [fst0]
  by_cases h : lo ≤ x ∧ x ≤ hi
  · rw [if_pos h, if_pos h, if_pos rfl]
  · rw [if_neg h, if_neg h, if_neg he]
theorem ite_and2 {α : Type} {p q : Prop} [Decidable p] [Decidable q] {a b : α} : (if p ∧ q then a else b) = if p then (if q then a else b) else b := by
  by_cases hp : p
  · by_cases hq : q
    · rw [if_pos ⟨hp, hq⟩, if_pos hp, if_pos hq]
    · rw [if_neg (fun h => hq h.2), if_pos hp, if_neg hq]
  · rw [if_neg (fun h => hp h.1), if_neg hp]
/-- the first error of a list of errors -/
theorem conFE (l : List Int) (hlen : l.length < 1000000000) : C5 37 [.sl l.length 1 (vi l)] [dI (fst0 l)] := by
  let inv : Nat × Nat → Prop := fun x => x.1 ≤ l.length ∧ fst0 l = fst0 (l.drop x.1)
  let st : Nat × Nat → Slots × Blocks := fun x => (sFE l.length x.2 x.1, [Q500 (vi l)])
  refine con_of (L := fun _ s b => ∃ x, inv x ∧ st x = (s, b)) hok mixed Try.func37 rfl (by show 1 ≤ 400; omega) rfl (ids := [0]) (by kernel_rfl) rfl (fun caps => ?_) (fun id hid => ?_)
  · show gFE _ _ l.length (caps 500) (vi l) _
    rw [gFE_text]
    exact ⟨(0, caps 500), ⟨by simp, rfl⟩, rfl⟩
  · obtain rfl := List.mem_singleton.1 hid
    refine ⟨Nat × Nat, st, inv, fun x => l.length - x.1, ⟨fun s b h => h, by kernel_rfl, ?_⟩⟩
    rintro ⟨i, cap⟩ ⟨hi, hr⟩
    simp only at hi hr
    show rFE _ _ l.length cap (vi l) i _ _ _
    rw [rFE_text]
    refine bc_dec (fun h => ?_) (fun h => ?_)
    · have hi' : i < l.length := by omega
      rw [List.drop_eq_getElem_cons hi', fst0] at hr
      simp only [bc_t h, bc_t (show (0 : Int) ≤ (i : Int) by omega), Int.toNat_natCast, at1 (vi_at l i hi')]
      refine bc_bne (fun hc => ?_) (fun hc => ?_)
      · rw [if_neg hc] at hr
        show [dI l[i]] = [dI (fst0 l)]
        rw [hr]
      · rw [if_pos hc] at hr
        refine ⟨(i + 1, cap), ⟨by show i + 1 ≤ l.length; omega, hr⟩, by show l.length - (i + 1) < l.length - i; omega, ?_⟩
        rw [w64 (by omega) (by omega)]; rfl
    · show (if 0 = 0 then _ else _)
      rw [if_pos rfl]
      show nFE _ _ _
      rw [nFE_text]
      have : i = l.length := by omega
      rw [this, List.drop_length] at hr
      show [dI 0] = [dI (fst0 l)]
      rw [hr]; rfl
def sameE (a : Int) : List Int → Int
  | [] => 0
  | p :: r => if p = a then sameE a r else 10
theorem conCS (a : Int) (l : List Int) (hlen : l.length < 1000000000) : C5 38 [dI a, .sl l.length 1 (vi l)] [dI (sameE a l)] := by
  let inv : Nat × Nat → Prop := fun x => x.1 ≤ l.length ∧ sameE a l = sameE a (l.drop x.1)
  let st : Nat × Nat → Slots × Blocks := fun x => (sCS a l.length x.2 x.1, [Q500 (vi l)])
  refine con_of (L := fun _ s b => ∃ x, inv x ∧ st x = (s, b)) hok mixed Try.func38 rfl (by show 1 ≤ 400; omega) rfl (ids := [0]) (by kernel_rfl) rfl (fun caps => ?_) (fun id hid => ?_)
  · show gCS _ _ a l.length (caps 500) (vi l) _
    rw [gCS_text]
    exact ⟨(0, caps 500), ⟨by simp, rfl⟩, rfl⟩
  · obtain rfl := List.mem_singleton.1 hid
    refine ⟨Nat × Nat, st, inv, fun x => l.length - x.1, ⟨fun s b h => h, by kernel_rfl, ?_⟩⟩
    rintro ⟨i, cap⟩ ⟨hi, hr⟩
    simp only at hi hr
    show rCS _ _ a l.length cap (vi l) i _ _ _
    rw [rCS_text]
    refine bc_dec (fun h => ?_) (fun h => ?_)
    · have hi' : i < l.length := by omega
      rw [List.drop_eq_getElem_cons hi', sameE] at hr
      simp only [bc_t h, bc_t (show (0 : Int) ≤ (i : Int) by omega), Int.toNat_natCast, at1 (vi_at l i hi')]
      refine bc_bne (fun hc => ?_) (fun hc => ?_)
      · rw [if_neg hc] at hr
        show [dI _] = [dI (sameE a l)]
        rw [hr]
      · rw [if_pos hc] at hr
        refine ⟨(i + 1, cap), ⟨by show i + 1 ≤ l.length; omega, hr⟩, by show l.length - (i + 1) < l.length - i; omega, ?_⟩
        rw [w64 (by omega) (by omega)]; rfl
    · show (if 0 = 0 then _ else _)
      rw [if_pos rfl]
      show nCS _ _ _
      rw [nCS_text]
      have : i = l.length := by omega
      rw [this, List.drop_length] at hr
      show [dI 0] = [dI (sameE a l)]
      rw [hr]; rfl
theorem conCC (a b : Int) : C5 34 [dI a, dI b] [dI (if a = 0 then 10 else if a > b then 8 else 0)] := by
  refine con_flat hok mixed Try.func34 rfl (by show 0 ≤ 400; omega) rfl (by kernel_rfl) (fun caps => ?_)
  show gCC _ _ a b _
  rw [gCC_text]
  refine bc_beq (fun h => ?_) (fun h => bc_dec (fun h2 => ?_) (fun h2 => ?_))
  · show _ = _; rw [if_pos h]
  · show _ = _; rw [if_neg h, if_pos h2]
  · show _ = _; rw [if_neg h, if_neg h2]
theorem conWi (a b c : Int) : C5 26 [dI a, dI b, dI c] [.val (.bool (decide (b ≤ a ∧ a ≤ c)))] := by
  refine con_flat hok mixed Try.func26 rfl (by show 0 ≤ 400; omega) rfl (by kernel_rfl) (fun caps => ?_)
  show gWi _ _ a b c _
  rw [gWi_text]
  refine bc_dec (fun h => bc_dec (fun h2 => ?_) (fun h2 => ?_)) (fun h => ?_)
  · show _ = _; rw [decide_eq_true (show b ≤ a ∧ a ≤ c from ⟨h, h2⟩)]
  · show _ = _; rw [decide_eq_false (show ¬ (b ≤ a ∧ a ≤ c) by omega)]
  · show _ = _; rw [decide_eq_false (show ¬ (b ≤ a ∧ a ≤ c) by omega)]
theorem sayWt {a b c : Int} (h : b ≤ a ∧ a ≤ c) : Says C5 26 [dI a, dI b, dI c] [.val (.bool true)] := by
  have := conWi a b c
  rw [decide_eq_true h] at this
  exact ⟨this⟩
theorem sayWf {a b c : Int} (h : ¬ (b ≤ a ∧ a ≤ c)) : Says C5 26 [dI a, dI b, dI c] [.val (.bool false)] := by
  have := conWi a b c
  rw [decide_eq_false h] at this
  exact ⟨this⟩
/-- the numbers of a monitor -/
structure VM (D nu de ba : Int) : Prop where
  dl : 0 ≤ D ∧ D ≤ 10
  nu : 0 ≤ nu ∧ nu ≤ 100
  de : 1 ≤ de ∧ de ≤ 100
  ba : 0 ≤ ba ∧ ba ≤ 10000
def mE (D nu de ba : Int) : Int := if (0 ≤ D ∧ D ≤ 10) ∧ (0 ≤ nu ∧ nu ≤ 100) ∧ (1 ≤ de ∧ de ≤ 100) ∧ (0 ≤ ba ∧ ba ≤ 10000) then 0 else 2
theorem mE_ok {D nu de ba : Int} : mE D nu de ba = 0 ↔ VM D nu de ba := by
  unfold mE
  constructor
  · intro h
    split at h
    · rename_i hc; exact ⟨hc.1, hc.2.1, hc.2.2.1, hc.2.2.2⟩
    · omega
  · intro h; rw [if_pos ⟨h.1, h.2, h.3, h.4⟩]
theorem conCM (a b c d : Int) : C5 79 [.agg [dI a, dI b, dI c, dI d]] [dI (mE a b c d)] := by
  refine con_flat hok mixed Try.func79 rfl (by show 0 ≤ 400; omega) rfl (by kernel_rfl) (fun caps => ?_)
  show gCM _ _ a b c d _
  rw [gCM_text]
  simp only [eq_self, true_and, and_true]
  refine ⟨_, wit_rng, _, wit_rng, _, wit_rng, _, wit_rng, _, ⟨conFE [rngE 0 10 2 a, rngE 0 100 2 b, rngE 1 100 2 c, rngE 0 10000 2 d] (by simp)⟩, ?_⟩
  show [dI _] = [dI _]
  have : fst0 [rngE 0 10 2 a, rngE 0 100 2 b, rngE 1 100 2 c, rngE 0 10000 2 d] = mE a b c d := by
    have h2 : (2 : Int) ≠ 0 := by decide
    rw [fst0_rng h2, fst0_rng h2, fst0_rng h2, fst0_rng h2, mE, ite_and2 (p := 0 ≤ a ∧ a ≤ 10) (q := (0 ≤ b ∧ b ≤ 100) ∧ (1 ≤ c ∧ c ≤ 100) ∧ (0 ≤ d ∧ d ≤ 10000)), ite_and2 (p := 0 ≤ b ∧ b ≤ 100) (q := (1 ≤ c ∧ c ≤ 100) ∧ (0 ≤ d ∧ d ≤ 10000)), ite_and2 (p := 1 ≤ c ∧ c ≤ 100) (q := (0 ≤ d ∧ d ≤ 10000))]
    rfl
  rw [this]
theorem mul_bd {a b A B : Int} (ha : 0 ≤ a ∧ a ≤ A) (hb : -B ≤ b ∧ b ≤ B) : -(A * B) ≤ a * b ∧ a * b ≤ A * B := by
  have hB : 0 ≤ B := by omega
  have e1 : a * B ≤ A * B := Int.mul_le_mul_of_nonneg_right ha.2 hB
  have e2 : a * b ≤ a * B := Int.mul_le_mul_of_nonneg_left hb.2 ha.1
  have e3 : a * -B ≤ a * b := Int.mul_le_mul_of_nonneg_left hb.1 ha.1
  rw [Int.mul_neg] at e3
  omega
theorem tdiv_bd {n g : Int} (hn : -10000000 ≤ n ∧ n ≤ 10000000) : -10000000 ≤ n.tdiv g ∧ n.tdiv g ≤ 10000000 := by
  have h := Int.natAbs_tdiv_le_natAbs n g
  omega
theorem tk_bd {D nu de ba y : Int} (hm : VM D nu de ba) (hy : -100000 ≤ y ∧ y ≤ 100000) : -10000000 ≤ tk nu de ba y ∧ tk nu de ba y ≤ 10000000 := by
  unfold tk
  split
  · omega
  · exact tdiv_bd (mul_bd hm.nu hy)
theorem conTk {D nu de ba y : Int} (hm : VM D nu de ba) (hy : -100000 ≤ y ∧ y ≤ 100000) : C5 64 [.agg [dI D, dI nu, dI de, dI ba], dI y] [dI (tk nu de ba y)] := by
  refine con_flat hok mixed Try.func64 rfl (by show 0 ≤ 400; omega) rfl (by kernel_rfl) (fun caps => ?_)
  show gTk _ _ D nu de ba y _
  rw [gTk_text, w64 (z := 0 - y) (by omega) (by omega)]
  have hp := mul_bd hm.nu hy
  rw [w64 (z := nu * y) (by omega) (by omega)]
  have hq := tdiv_bd (n := nu * y) (g := de) hp
  rw [w64 (by omega) (by omega)]
  have e : (if 0 - y > y then 0 - y else y) = szI y := by rw [show (0 : Int) - y = -y by omega]; rfl
  rw [e]
  have := hm.de
  refine bc_dec (fun h => ?_) (fun h => bc_bne (fun _ => ?_) (fun h0 => absurd h0 (by omega)))
  · show _ = _; rw [tk, if_pos h]
  · show _ = _; rw [tk, if_neg h]
end Go.Proofs.G5b

/- Chapter 5: what the frames of the laws share. -/
namespace Go.Proofs.Ytekodcjnlkfipaa.K
open Go Go.Abs Go.RowKit Go.ChangeShapes Go.WideShapes Go.ChangeAt Go.Proofs Go.Flat
set_option maxRecDepth 100000
theorem own : ownKnob Try.prog.godebug = none := by kernel_rfl
theorem laidP : laidOutB Try.prog = true := by kernel_rfl
theorem mapsP : mapsRowed Try.prog = true := by kernel_rfl
theorem slicesP : ∀ t e, t < Try.prog.types.size → Try.prog.underlying t = some (.slice e) → 0 < Try.prog.cellsOf e := slices_full_of Try.prog (by kernel_rfl)
theorem tsP {l : List TypeId} (h : l.all (fun t => decide (t < Try.prog.types.size)) = true) : ∀ t ∈ l, t < Try.prog.types.size := fun t ht => of_decide_eq_true (List.all_eq_true.1 h t ht)
theorem flat_vi : ∀ l : List Int, (l.flatMap fun a => [Value.int .i64 a]) = vi l
  | [] => rfl
  | a :: r => by rw [List.flatMap_cons, flat_vi r]; rfl
/-- lists of whole numbers -/
theorem leaf_ints {t e : TypeId} {d : D} (ht : Try.prog.underlying t = some (.slice e)) (he : leaves Try.prog 10 e = some [.int .i64]) (h : LeafD Try.prog t d) : d = .nil ∨ ∃ l : List Int, d = .sl l.length 1 (vi l) := by
  unfold LeafD at h
  rw [ht] at h
  simp only at h
  rcases h with h | ⟨n, cs, L, rfl, hL, hn, hl, hc⟩
  · exact .inl h
  · rw [he] at hL
    obtain rfl := Option.some.inj hL
    simp only [List.length_cons, List.length_nil, Nat.zero_add] at hl hc ⊢
    obtain ⟨ps, hp, rfl⟩ := chunks_of (f := fun a : Int => [Value.int .i64 a]) (k := 1) (fun _ => rfl) n cs hl (fun i hi => by
      have := hc i hi
      generalize (cs.drop (i * 1)).take 1 = x at this ⊢
      cases this with
      | cons h t => cases t; obtain ⟨a, rfl, _⟩ := h; exact ⟨a, rfl⟩)
    refine .inr ⟨ps, ?_⟩
    rw [hp]
    rw [flat_vi]
end Go.Proofs.Ytekodcjnlkfipaa.K

/- Lists of structs of seven whole numbers as cells. -/
namespace Go.Abs
/-- seven whole numbers -/
structure Sv where
  a : Int
  b : Int
  c : Int
  d : Int
  e : Int
  f : Int
  g : Int
def Sv.row (p : Sv) : List Value := [.int .i64 p.a, .int .i64 p.b, .int .i64 p.c, .int .i64 p.d, .int .i64 p.e, .int .i64 p.f, .int .i64 p.g]
def vs7 (l : List Sv) : List Value := l.flatMap Sv.row
theorem vs7_cons (p : Sv) (r : List Sv) : vs7 (p :: r) = p.row ++ vs7 r := List.flatMap_cons
@[simp] theorem vs7_length : ∀ l : List Sv, (vs7 l).length = l.length * 7
  | [] => rfl
  | p :: r => by rw [vs7_cons, List.length_append, vs7_length r, List.length_cons]; simp only [Sv.row, List.length_cons, List.length_nil]; omega
theorem vs7_drop : ∀ (l : List Sv) (i : Nat), (vs7 l).drop (i * 7) = vs7 (l.drop i)
  | l, 0 => by simp
  | [], i + 1 => by simp [vs7]
  | p :: r, i + 1 => by
    rw [vs7_cons, show (i + 1) * 7 = i * 7 + 7 by omega, List.drop_succ_cons, Nat.add_comm, ← List.drop_drop]
    have : (p.row ++ vs7 r).drop 7 = vs7 r := by simp [Sv.row]
    rw [this]; exact vs7_drop r i
theorem vs7_all (l : List Sv) (i : Nat) (h : i < l.length) : At (vs7 l) (0 + i * 7) 7 l[i].row := by
  refine ⟨by rw [vs7_length]; omega, ?_⟩
  rw [Nat.zero_add, vs7_drop, List.drop_eq_getElem_cons h, vs7_cons]
  simp [Sv.row]
/-- one of the seven -/
theorem vs7_one (l : List Sv) (i : Nat) (h : i < l.length) (j : Nat) (v : Value) (hj : l[i].row[j]? = some v) : At (vs7 l) (0 + i * 7 + j) 1 [v] := by
  have hj7 : j < 7 := (List.getElem?_eq_some_iff.1 hj).1
  refine ⟨by rw [vs7_length]; omega, ?_⟩
  rw [Nat.zero_add, ← List.drop_drop, vs7_drop, List.drop_eq_getElem_cons h, vs7_cons]
  apply List.ext_getElem?
  intro k
  cases k with
  | zero =>
    rw [List.getElem?_take, if_pos (by omega), List.getElem?_drop, List.getElem?_append_left (by simpa [Sv.row] using hj7)]
    exact hj
  | succ k => rw [List.getElem?_take, if_neg (by omega)]; rfl
theorem at7 {l : List Value} {k : Nat} {p : Sv} (h : At l k 7 p.row) {Q : Int → Int → Int → Int → Int → Int → Int → Prop} :
    (∃ n1 : Int, ∃ n2 : Int, ∃ n3 : Int, ∃ n4 : Int, ∃ n5 : Int, ∃ n6 : Int, ∃ n7 : Int, At l k 7 [.int .i64 n1, .int .i64 n2, .int .i64 n3, .int .i64 n4, .int .i64 n5, .int .i64 n6, .int .i64 n7] ∧ Q n1 n2 n3 n4 n5 n6 n7) = Q p.a p.b p.c p.d p.e p.f p.g := by
  apply propext
  constructor
  · rintro ⟨n1, n2, n3, n4, n5, n6, n7, hn, hq⟩
    have e := hn.eq.symm.trans h.eq
    simp only [Sv.row, List.cons.injEq, Value.int.injEq, true_and, and_true] at e
    obtain ⟨rfl, rfl, rfl, rfl, rfl, rfl, rfl⟩ := e
    exact hq
  · intro hq; exact ⟨_, _, _, _, _, _, _, h, hq⟩
end Go.Abs

/- Chapter 5: loopers: corrections, heights after a tick, boxes; what they are, and that greater heights never lead to smaller ones. -/
namespace Go.Abs
abbrev hgt (n : Int) : Prop := -1000 ≤ n ∧ n ≤ 1000
/-- the error of a looper -/
def lpE (p : Sv) : Int :=
  if (hgt p.a ∧ hgt p.d ∧ hgt p.e ∧ hgt p.f ∧ hgt p.g) ∧ (0 ≤ p.b ∧ p.b ≤ 100) ∧ (1 ≤ p.c ∧ p.c ≤ 100) then
    (if p.b > p.c then 3 else if p.d > p.e ∨ p.f > p.g then 9 else if p.f ≤ p.a ∧ p.a ≤ p.g then 0 else 22)
  else 2
/-- a valid looper -/
structure LpV (p : Sv) : Prop where
  a : hgt p.a
  d : hgt p.d
  e : hgt p.e
  f : hgt p.f
  g : hgt p.g
  b0 : 0 ≤ p.b
  b1 : p.b ≤ 100
  c0 : 1 ≤ p.c
  c1 : p.c ≤ 100
  bc : p.b ≤ p.c
  de : p.d ≤ p.e
  fg : p.f ≤ p.g
  fa : p.f ≤ p.a
  ag : p.a ≤ p.g
theorem lpE_ok {p : Sv} : lpE p = 0 ↔ LpV p := by
  unfold lpE
  constructor
  · intro h
    split at h
    · rename_i hc
      split at h
      · omega
      · split at h
        · omega
        · split at h
          · exact ⟨hc.1.1, hc.1.2.1, hc.1.2.2.1, hc.1.2.2.2.1, hc.1.2.2.2.2, hc.2.1.1, hc.2.1.2, hc.2.2.1, hc.2.2.2, by omega, by omega, by omega, by omega, by omega⟩
          · omega
    · omega
  · intro h
    have ha := h.a; have hb := h.b0; have hc := h.c0; have hbc := h.bc; have hde := h.de; have hfg := h.fg; have hfa := h.fa; have hag := h.ag
    rw [if_pos ⟨⟨h.a, h.d, h.e, h.f, h.g⟩, ⟨h.b0, h.b1⟩, h.c0, h.c1⟩, if_neg (by omega), if_neg (by omega), if_pos ⟨hfa, hag⟩]
def corr (p : Sv) (h : Int) : Int := (p.b * (h - p.a)).tdiv p.c
theorem tdiv_step {x y d k : Int} (hd : 1 ≤ d) (hk : 0 ≤ k) (h : y ≤ x + d * k) : y.tdiv d ≤ x.tdiv d + k := by
  have h1 : y.tdiv d ≤ (x + d * k).tdiv d := Int.tdiv_le_tdiv (by omega) h
  have h2 : (x + d * k).tdiv d ≤ x.tdiv d + k := by
    rcases Int.lt_or_le x 0 with hx | hx
    · rcases Int.lt_or_le (x + d * k) 0 with hy | hy
      · have e1 : (x + d * k).tdiv d = -((-(x + d * k)) / d) := by
          rw [← Int.tdiv_eq_ediv_of_nonneg (by omega), Int.neg_tdiv]; omega
        have e2 : x.tdiv d = -((-x) / d) := by
          rw [← Int.tdiv_eq_ediv_of_nonneg (by omega), Int.neg_tdiv]; omega
        have e3 : (-(x + d * k)) / d = (-x) / d + -k := by
          rw [show -(x + d * k) = -x + d * -k by rw [Int.mul_neg]; omega, Int.add_mul_ediv_left _ _ (by omega)]
        rw [e1, e2, e3]; omega
      · rw [Int.tdiv_eq_ediv_of_nonneg hy, Int.add_mul_ediv_left _ _ (by omega)]
        have : x / d ≤ x.tdiv d := by
          have hs : d.sign = 1 := Int.sign_eq_one_of_pos (by omega)
          rw [Int.tdiv_eq_ediv, hs]
          split <;> omega
        omega
    · have hy : 0 ≤ x + d * k := by
        have := Int.mul_nonneg (show 0 ≤ d by omega) hk
        omega
      rw [Int.tdiv_eq_ediv_of_nonneg hy, Int.tdiv_eq_ediv_of_nonneg hx, Int.add_mul_ediv_left _ _ (by omega)]
      omega
  omega
theorem corr_mono {p : Sv} (hp : LpV p) {h k : Int} (hk : h ≤ k) : corr p h ≤ corr p k := by
  have := hp.c0
  exact Int.tdiv_le_tdiv (by omega) (Int.mul_le_mul_of_nonneg_left (by omega) hp.b0)
theorem corr_step {p : Sv} (hp : LpV p) {h k : Int} (hk : h ≤ k) : h - corr p h ≤ k - corr p k := by
  have hc := hp.c0
  have : corr p k ≤ corr p h + (k - h) := by
    refine tdiv_step hc (by omega) ?_
    have e : p.b * (k - p.a) = p.b * (h - p.a) + p.b * (k - h) := by rw [← Int.mul_add]; congr 1; omega
    have := Int.mul_le_mul_of_nonneg_right hp.bc (show 0 ≤ k - h by omega)
    omega
  omega
theorem corr_bd {p : Sv} (hp : LpV p) {h : Int} (hh : hgt h) : -2000 ≤ corr p h ∧ corr p h ≤ 2000 := by
  have ha := hp.a
  have hc := hp.c0
  have h1 : corr p h ≤ corr p p.a + 2000 := by
    rcases Int.le_total h p.a with hk | hk
    · have := corr_mono hp hk; omega
    · have := corr_step hp hk; omega
  have h2 : corr p p.a - 2000 ≤ corr p h := by
    rcases Int.le_total h p.a with hk | hk
    · have := corr_step hp hk; omega
    · have := corr_mono hp hk; omega
  have h3 : corr p p.a = 0 := by unfold corr; rw [Int.sub_self, Int.mul_zero]; exact Int.zero_tdiv _
  omega
theorem prod_bd {p : Sv} (hp : LpV p) {h : Int} (hh : hgt h) : -1000000 ≤ p.b * (h - p.a) ∧ p.b * (h - p.a) ≤ 1000000 := by
  have ha := hp.a; have hb := hp.b0; have hb1 := hp.b1
  have e1 : p.b * (h - p.a) ≤ p.b * 2000 := Int.mul_le_mul_of_nonneg_left (by omega) hb
  have e2 : p.b * -2000 ≤ p.b * (h - p.a) := Int.mul_le_mul_of_nonneg_left (by omega) hb
  omega
def sv0 : Sv := ⟨0, 0, 1, 0, 0, 0, 0⟩
/-- the correction of the looper with an index; none after the last one -/
def cA (ps : List Sv) (hs : List Int) (i : Nat) : Int := if i = ps.length then 0 else corr (ps.getD i sv0) (hs.getD i 0)
def aftV (ps : List Sv) (hs ds : List Int) (i : Nat) : Int := hs.getD i 0 - cA ps hs i + cA ps hs (i + 1) + ds.getD i 0
/-- heights after a tick -/
def aft (ps : List Sv) (hs ds : List Int) : List Int := (List.range ps.length).map (aftV ps hs ds)
theorem aft_length (ps : List Sv) (hs ds : List Int) : (aft ps hs ds).length = ps.length := by simp [aft]
theorem gd_at {α : Type} {l : List α} {i : Nat} {d : α} (h : i < l.length) : l.getD i d = l[i] := by simp [List.getD, h]
theorem gd_mem {α : Type} {l : List α} {i : Nat} {d : α} (h : i < l.length) : l.getD i d ∈ l := by
  rw [gd_at h]; exact List.getElem_mem h
theorem cA_bd {ps : List Sv} {hs : List Int} (hv : ∀ p ∈ ps, LpV p) (hh : ∀ h ∈ hs, hgt h) (hl : hs.length = ps.length) {i : Nat} (hi : i ≤ ps.length) : -2000 ≤ cA ps hs i ∧ cA ps hs i ≤ 2000 := by
  unfold cA
  split
  · omega
  · exact corr_bd (hv _ (gd_mem (by omega))) (hh _ (gd_mem (by omega)))
theorem rg_snoc (f : Nat → Int) (i : Nat) : vi ((List.range i).map f) ++ [.int .i64 (f i)] = vi ((List.range (i + 1)).map f) := by
  rw [List.range_succ, List.map_append]; simp [vi]
theorem rg_take (f : Nat → Int) (i : Nat) : List.take (i * 1) (List.drop 0 (vi ((List.range i).map f))) = vi ((List.range i).map f) := by
  rw [List.drop_zero, List.take_of_length_le (by simp)]
theorem vs7_whole (l : List Sv) : List.take (l.length * 7) (List.drop 0 (vs7 l)) = vs7 l := by rw [List.drop_zero, List.take_of_length_le (by simp)]
theorem v7le (l : List Sv) : 0 + l.length * 7 ≤ (vs7 l).length := by simp
theorem v1le (l : List Int) : 0 + l.length * 1 ≤ (vi l).length := by simp
/-- the first error of heights and disturbances -/
def mvGo : List Sv → List Int → List Int → Int
  | p :: ps, h :: hs, d :: ds => if p.f ≤ h ∧ h ≤ p.g then (if p.d ≤ d ∧ d ≤ p.e then mvGo ps hs ds else 2) else 22
  | _, _, _ => 0
def mvE (ps : List Sv) (hs ds : List Int) : Int := if hs.length ≠ ps.length ∨ ds.length ≠ ps.length then 10 else mvGo ps hs ds
theorem mvGo_ok : ∀ {ps : List Sv} {hs ds : List Int}, hs.length = ps.length → ds.length = ps.length → mvGo ps hs ds = 0 → (∀ p ∈ ps, LpV p) → (∀ h ∈ hs, hgt h) ∧ (∀ d ∈ ds, hgt d)
  | [], [], [], _, _, _, _ => by simp
  | p :: ps, h :: hs, d :: ds, h1, h2, h0, hv => by
    simp only [List.length_cons, Nat.add_right_cancel_iff] at h1 h2
    unfold mvGo at h0
    have hp := hv p (List.mem_cons_self ..)
    have a1 := hp.d; have a2 := hp.e; have a3 := hp.f; have a4 := hp.g
    split at h0
    · split at h0
      · obtain ⟨i1, i2⟩ := mvGo_ok h1 h2 h0 (fun q hq => hv q (List.mem_cons_of_mem _ hq))
        refine ⟨fun x hx => ?_, fun x hx => ?_⟩
        · rcases List.mem_cons.1 hx with rfl | hx
          · exact ⟨by omega, by omega⟩
          · exact i1 x hx
        · rcases List.mem_cons.1 hx with rfl | hx
          · exact ⟨by omega, by omega⟩
          · exact i2 x hx
      · omega
    · omega
  | [], _ :: _, _, h1, _, _, _ => by simp at h1
  | _ :: _, [], _, h1, _, _, _ => by simp at h1
  | [], [], _ :: _, _, h2, _, _ => by simp at h2
  | _ :: _, _ :: _, [], _, h2, _, _ => by simp at h2
/-- the first looper with an error, from an index on -/
def lpGo : Nat → List Sv → Int × Int
  | _, [] => (0, 0)
  | i, p :: r => if lpE p ≠ 0 then (i, lpE p) else lpGo (i + 1) r
def chE (l : List Sv) : Int × Int := if l.length = 0 then (0, 10) else if l.length > 5 then (0, 8) else lpGo 0 l
theorem lpGo_ok : ∀ {l : List Sv} {i : Nat}, (lpGo i l).2 = 0 → ∀ p ∈ l, LpV p
  | [], _, _, p, hp => by cases hp
  | q :: r, i, h, p, hp => by
    unfold lpGo at h
    split at h
    · rename_i hq; exact absurd h hq
    · rename_i hq
      rcases List.mem_cons.1 hp with rfl | hp
      · exact lpE_ok.1 (by omega)
      · exact lpGo_ok h p hp
theorem chE_ok {l : List Sv} (h : (chE l).2 = 0) : 0 < l.length ∧ l.length ≤ 5 ∧ ∀ p ∈ l, LpV p := by
  unfold chE at h
  split at h
  · simp at h
  · split at h
    · simp at h
    · exact ⟨by omega, by omega, lpGo_ok h⟩
end Go.Abs

/- Chapter 5: lists of loopers as arguments. -/
namespace Go.Proofs.Ytekodcjnlkfipaa.K
open Go Go.Abs Go.RowKit Go.ChangeShapes Go.WideShapes Go.ChangeAt Go.Proofs Go.Flat
set_option maxRecDepth 100000
theorem leaf_svs {t e : TypeId} {d : D} (ht : Try.prog.underlying t = some (.slice e)) (he : leaves Try.prog 10 e = some [.int .i64, .int .i64, .int .i64, .int .i64, .int .i64, .int .i64, .int .i64]) (h : LeafD Try.prog t d) : d = .nil ∨ ∃ l : List Sv, d = .sl l.length 7 (vs7 l) := by
  unfold LeafD at h
  rw [ht] at h
  simp only at h
  rcases h with h | ⟨n, cs, L, rfl, hL, hn, hl, hc⟩
  · exact .inl h
  · rw [he] at hL
    obtain rfl := Option.some.inj hL
    simp only [List.length_cons, List.length_nil, Nat.zero_add] at hl hc ⊢
    obtain ⟨ps, hp, rfl⟩ := chunks_of (f := Sv.row) (k := 7) (fun _ => rfl) n cs hl (fun i hi => by
      have := hc i hi
      generalize (cs.drop (i * 7)).take 7 = x at this ⊢
      cases this with | cons h1 t => cases t with | cons h2 t => cases t with | cons h3 t => cases t with | cons h4 t => cases t with | cons h5 t => cases t with | cons h6 t => cases t with | cons h7 t =>
      cases t
      obtain ⟨a, rfl, _⟩ := h1
      obtain ⟨b, rfl, _⟩ := h2
      obtain ⟨c, rfl, _⟩ := h3
      obtain ⟨d, rfl, _⟩ := h4
      obtain ⟨e, rfl, _⟩ := h5
      obtain ⟨f, rfl, _⟩ := h6
      obtain ⟨g, rfl, _⟩ := h7
      exact ⟨⟨a, b, c, d, e, f, g⟩, rfl⟩)
    exact .inr ⟨ps, by rw [hp]; rfl⟩
end Go.Proofs.Ytekodcjnlkfipaa.K

/- Chapter 5: lists of ranges as arguments. -/
namespace Go.Proofs.Ytekodcjnlkfipaa.K
open Go Go.Abs Go.RowKit Go.ChangeShapes Go.WideShapes Go.ChangeAt Go.Proofs Go.Flat
set_option maxRecDepth 100000
theorem flat_vp : ∀ l : List (Int × Int), (l.flatMap fun p => [Value.int .i64 p.1, Value.int .i64 p.2]) = vp l
  | [] => rfl
  | p :: r => by rw [List.flatMap_cons, flat_vp r]; rfl
theorem leaf_prs {t e : TypeId} {d : D} (ht : Try.prog.underlying t = some (.slice e)) (he : leaves Try.prog 10 e = some [.int .i64, .int .i64]) (h : LeafD Try.prog t d) : d = .nil ∨ ∃ l : List (Int × Int), d = .sl l.length 2 (vp l) := by
  unfold LeafD at h
  rw [ht] at h
  simp only at h
  rcases h with h | ⟨n, cs, L, rfl, hL, hn, hl, hc⟩
  · exact .inl h
  · rw [he] at hL
    obtain rfl := Option.some.inj hL
    simp only [List.length_cons, List.length_nil, Nat.zero_add] at hl hc ⊢
    obtain ⟨ps, hp, rfl⟩ := chunks_of (f := fun p : Int × Int => [Value.int .i64 p.1, Value.int .i64 p.2]) (k := 2) (fun _ => rfl) n cs hl (fun i hi => by
      have := hc i hi
      generalize (cs.drop (i * 2)).take 2 = x at this ⊢
      cases this with | cons h1 t => cases t with | cons h2 t =>
      cases t
      obtain ⟨a, rfl, _⟩ := h1
      obtain ⟨b, rfl, _⟩ := h2
      exact ⟨(a, b), rfl⟩)
    exact .inr ⟨ps, by rw [hp, flat_vp]⟩
end Go.Proofs.Ytekodcjnlkfipaa.K

/- slices.Insert at the beginning, where there is room: one number is put before the others, in place. -/
namespace Go.Proofs.G5b
open Go Go.Abs Go.Proofs Go.Shelf Go.RowKit Go.Lib
set_option maxHeartbeats 4000000 in
set_option maxRecDepth 100000 in
theorem insW (b off n c vb voff vc : Nat) (cs : List Value) (x : Value) (w : World) (hn : 0 < n) (hn63 : n + 1 ≤ 9223372036854775807) (hroom : n + 1 ≤ c) (hvb : vb ≠ b) (hcl : cs.length = n)
    (hcs : ∀ j v, cs[j]? = some v → w.cell? ⟨b, off + j, none⟩ = some v) (hsp : ∀ j, j < n + 1 → (w.cell? ⟨b, off + j, none⟩).isSome = true) (hfz : ∀ j, j < n + 1 → w.frozen? ⟨b, off + j, none⟩ = false)
    (hvs : w.cell? ⟨vb, voff, none⟩ = some x) (h1c : ∀ v ∈ cs, v.oneCell' = true) (h1v : x.oneCell' = true)
    (tA tB : TypeId) (kA kB : Nat) (hsa : w.shape? vb = some (tA, kA)) (hsb : w.shape? b = some (tB, kB)) (hkB : kB ≠ 0) (hfa : w.frozen? ⟨vb, voff, none⟩ = false) (hfe : w.frozen? ⟨vb, kA, none⟩ = false) :
    Calls Try.prog 95 #[.slice (some ⟨b, off, none⟩) n c, .int .i64 0, .slice (some ⟨vb, voff, none⟩) 1 vc] w fun e w' =>
      e = .returned (.slice (some ⟨b, off, none⟩) (n + 1) c) ∧ w' = (w.drew.setCells b (off + 1) cs).setCells b off [x] := by
  have t22 := Try.underlying25
  have t3 := Try.underlying3
  have t4 := Try.underlying4
  have z3 : ∀ w, (Go.sizeOf 3).run Try.prog w = .ok 1 w := by intro w; kernel_rfl
  have z22 : ∀ w, (Go.sizeOf 25).run Try.prog w = .ok 1 w := by intro w; kernel_rfl
  have z4 : ∀ w, (Go.sizeOf 4).run Try.prog w = .ok 1 w := by intro w; kernel_rfl
  have a3 : ∀ w, (isAgg 3).run Try.prog w = .ok false w := by intro w; kernel_rfl
  have a22 : ∀ w, (isAgg 25).run Try.prog w = .ok false w := by intro w; kernel_rfl
  have a4 : ∀ w, (isAgg 4).run Try.prog w = .ok false w := by intro w; kernel_rfl
  have v3 : ∀ w, (zeroValue 3).run Try.prog w = .ok (Value.int IntKind.i64 0) w := by intro w; kernel_rfl
  have v22 : ∀ w, (zeroValue 25).run Try.prog w = .ok (Value.slice none 0 0) w := by intro w; kernel_rfl
  have v4 : ∀ w, (zeroValue 4).run Try.prog w = .ok (Value.bool false) w := by intro w; kernel_rfl
  have u22 := run_underlying t22
  have u3 := run_underlying t3
  have u4 := run_underlying t4
  have hz2 : ¬ ((0 : Int) = (n : Int)) := by omega
  have hsz : (Try.prog.info? 3).map (·.size) = some 1 := by kernel_rfl
  have hov : ∀ lb cb, (callFunc 99 #[.slice (some ⟨vb, voff, none⟩) 1 vc, .slice (some ⟨b, off + 1, none⟩) lb cb]).run Try.prog w = .ok (.value (.bool false)) w := fun lb cb => by
    rw [run_callFunc_extern Try.func99 (by kernel_rfl) (by kernel_rfl) (by kernel_rfl) (e := Extern.SlicesOverlaps.overlaps #[25, 25] #[4]) (by kernel_rfl),
      Lib.run_overlaps_apart w 25 4 3 t22 1 z3 ⟨vb, voff, none⟩ ⟨b, off + 1, none⟩ 1 vc lb cb hvb tA tB kA kB hsa hsb hkB hfa hfe]
    rfl
  have mixed := mixed
  have hb2 : ¬ (c = 1) := by omega
  have hw1 : IntKind.i64.wrap 1 = 1 := by rw [IntKind.wrap_i64]; omega
  have hw2 : IntKind.i64.wrap ((n : Int) + 1) = (n : Int) + 1 := by rw [IntKind.wrap_i64]; omega
  have hb1 : (1 : Int) ≤ (n : Int) + 1 := by omega
  have hb0 : (0 : Int) ≤ (n : Int) + 1 := by omega
  have htn : (1 : Int).toNat = 1 := rfl
  have hb4 : ¬ (c = 0) := by omega
  have hcp1 : ∀ ty dc sc, (Builtin.copy_ #[25, 25] ty #[.slice (some ⟨b, off + 1, none⟩) n dc, .slice (some ⟨b, off, none⟩) (n + 1) sc]).run Try.prog w.drew = .ok (goInt cs.length) (w.drew.setCells b (off + 1) cs) := fun ty dc sc =>
    run_copy_cells w.drew _ _ ty 3 b (off + 1) n dc ⟨b, off, none⟩ (n + 1) sc cs t22 hsz (by rw [hcl]; simp only [Nat.min_def]; split <;> omega)
      (fun j v hj => by rw [Addr.add_lit]; exact hcs j v hj)
      (fun j hj => by rw [Nat.add_assoc]; exact hsp _ (by omega)) (fun j hj => by rw [Nat.add_assoc]; exact hfz _ (by omega)) h1c
  obtain ⟨W1, hW1⟩ : ∃ W1, W1 = w.drew.setCells b (off + 1) cs := ⟨_, rfl⟩
  have hsp1 : ∀ k, k < n + 1 → (W1.cell? ⟨b, off + k, none⟩).isSome = true := fun k hk => by
    rw [hW1]
    exact isSome_setCells b _ _ _ (fun j hj => by rw [Nat.add_assoc]; exact hsp _ (by omega)) _ (hsp k hk)
  have hcp2 : ∀ (W : World), (∀ x, W.cell? x = W1.cell? x) → (∀ x, W.frozen? x = W1.frozen? x) → ∀ ty dc, (Builtin.copy_ #[25, 25] ty #[.slice (some ⟨b, off, none⟩) (n + 1) dc, .slice (some ⟨vb, voff, none⟩) 1 vc]).run Try.prog W = .ok (goInt 1) (W.setCells b off [x]) := fun W hWc hWf ty dc =>
    run_copy_cells W _ _ ty 3 b off (n + 1) dc ⟨vb, voff, none⟩ 1 vc [x] t22 hsz (by simp only [List.length_singleton, Nat.min_def]; split <;> omega)
      (fun j v hj => by
        rw [Addr.add_lit, hWc, hW1, World.cell?_setCells_out b _ _ _ _ (fun h _ => absurd h hvb)]
        cases j with
        | zero => simp only [List.getElem?_cons_zero, Option.some.injEq] at hj; rw [← hj]; exact hvs
        | succ j => simp at hj)
      (fun j hj => by rw [hWc]; exact hsp1 _ (by simp only [List.length_singleton] at hj; omega)) (fun j hj => by rw [hWf, hW1, World.frozen?_setCells]; exact hfz _ (by simp only [List.length_singleton] at hj; omega)) (by intro v hv; rw [List.mem_singleton.1 hv]; exact h1v)
  rw [← hW1] at hcp1
  go_enter Try.func95, Try.ntmps95
  go_wp2_with (simp only [hov])
  go_region_law_o (refine step_copy_runI rfl _ _ 25 25 rfl _ _ (by simp [Act.eval, Act.put]) (by simp [Act.eval, Act.put]) (hcp1 _ _ _) ?_)
  go_wp2_with (at_builtin; refine wpList_copy_runI _ rfl _ _ 25 25 rfl _ _ rfl rfl (hcp2 _ (fun _ => rfl) (fun _ => rfl) _ _) ?_)
  go_ret
  first | exact ⟨rfl, rfl⟩ | exact ⟨rfl, by rw [hW1]⟩
end Go.Proofs.G5b

/- What is left to show of each function, written out; the kernel reckons it. -/
namespace Go.Proofs.G5b
open Go Go.Abs Go.Proofs
set_option maxRecDepth 100000
set_option linter.unusedVariables false
theorem fRe_text (C : Ct) (cap : Nat) (x : Int) (k : List D → Prop) : fRe C cap x k =
(( (((Go.Value.slice (Option.some (Go.Addr.mk 1000 0 Option.none)) 1 501) = (Go.Value.slice (Option.some (Go.Addr.mk 1000 0 Option.none)) 1 501)) ∧
 (((vI (1 : Int)) = (vI (1 : Int))) ∧
 (((Go.Value.slice (Option.some (Go.Addr.mk 1000 0 Option.none)) 501 501) = (Go.Value.slice (Option.some (Go.Addr.mk 1000 0 Option.none)) 501 501)) ∧
 (((Go.Value.slice (Option.some (Go.Addr.mk 1000 1 Option.none)) 500 500) = (Go.Value.slice (Option.some (Go.Addr.mk 1000 1 Option.none)) 500 500)) ∧
 (((vI (1 : Int)) = (vI (1 : Int))) ∧
 (((Go.Value.slice (Option.some (Go.Addr.mk 1000 0 Option.none)) 501 501) = (Go.Value.slice (Option.some (Go.Addr.mk 1000 0 Option.none)) 501 501)) ∧
 (((vI (1 : Int)) = (vI (1 : Int))) ∧
 True)))))))) ∧
 (( (((vI (2 : Int)) = (vI (2 : Int))) ∧
 (((vI (1 : Int)) = (vI (1 : Int))) ∧
 (((Go.Value.slice (Option.some (Go.Addr.mk 1000 0 Option.none)) 501 501) = (Go.Value.slice (Option.some (Go.Addr.mk 1000 0 Option.none)) 501 501)) ∧
 (((vI (1 : Int)) = (vI (1 : Int))) ∧
 (((Go.Value.slice (Option.some (Go.Addr.mk 1000 0 Option.none)) 501 501) = (Go.Value.slice (Option.some (Go.Addr.mk 1000 0 Option.none)) 501 501)) ∧
 (((vI (1 : Int)) = (vI (1 : Int))) ∧
 True))))))) ∧
 (True ∧
 (( (((Go.Value.slice (Option.some (Go.Addr.mk 1000 0 Option.none)) 2 501) = (Go.Value.slice (Option.some (Go.Addr.mk 1000 0 Option.none)) 2 501)) ∧
 (((vI (2 : Int)) = (vI (2 : Int))) ∧
 (((Go.Value.slice (Option.some (Go.Addr.mk 1000 0 Option.none)) 501 501) = (Go.Value.slice (Option.some (Go.Addr.mk 1000 0 Option.none)) 501 501)) ∧
 (((Go.Value.slice (Option.some (Go.Addr.mk 1000 2 Option.none)) 499 499) = (Go.Value.slice (Option.some (Go.Addr.mk 1000 2 Option.none)) 499 499)) ∧
 (((vI (2 : Int)) = (vI (2 : Int))) ∧
 (((Go.Value.slice (Option.some (Go.Addr.mk 1000 0 Option.none)) 501 501) = (Go.Value.slice (Option.some (Go.Addr.mk 1000 0 Option.none)) 501 501)) ∧
 (((vI (2 : Int)) = (vI (2 : Int))) ∧
 True)))))))) ∧
 (( (((vI (4 : Int)) = (vI (4 : Int))) ∧
 (((vI (2 : Int)) = (vI (2 : Int))) ∧
 (((Go.Value.slice (Option.some (Go.Addr.mk 1000 0 Option.none)) 501 501) = (Go.Value.slice (Option.some (Go.Addr.mk 1000 0 Option.none)) 501 501)) ∧
 (((vI (2 : Int)) = (vI (2 : Int))) ∧
 (((Go.Value.slice (Option.some (Go.Addr.mk 1000 0 Option.none)) 501 501) = (Go.Value.slice (Option.some (Go.Addr.mk 1000 0 Option.none)) 501 501)) ∧
 (((vI (2 : Int)) = (vI (2 : Int))) ∧
 True))))))) ∧
 (True ∧
 (( (((Go.Value.slice (Option.some (Go.Addr.mk 1000 0 Option.none)) 4 501) = (Go.Value.slice (Option.some (Go.Addr.mk 1000 0 Option.none)) 4 501)) ∧
 (((vI (4 : Int)) = (vI (4 : Int))) ∧
 (((Go.Value.slice (Option.some (Go.Addr.mk 1000 0 Option.none)) 501 501) = (Go.Value.slice (Option.some (Go.Addr.mk 1000 0 Option.none)) 501 501)) ∧
 (((Go.Value.slice (Option.some (Go.Addr.mk 1000 4 Option.none)) 497 497) = (Go.Value.slice (Option.some (Go.Addr.mk 1000 4 Option.none)) 497 497)) ∧
 (((vI (4 : Int)) = (vI (4 : Int))) ∧
 (((Go.Value.slice (Option.some (Go.Addr.mk 1000 0 Option.none)) 501 501) = (Go.Value.slice (Option.some (Go.Addr.mk 1000 0 Option.none)) 501 501)) ∧
 (((vI (4 : Int)) = (vI (4 : Int))) ∧
 True)))))))) ∧
 (( (((vI (8 : Int)) = (vI (8 : Int))) ∧
 (((vI (4 : Int)) = (vI (4 : Int))) ∧
 (((Go.Value.slice (Option.some (Go.Addr.mk 1000 0 Option.none)) 501 501) = (Go.Value.slice (Option.some (Go.Addr.mk 1000 0 Option.none)) 501 501)) ∧
 (((vI (4 : Int)) = (vI (4 : Int))) ∧
 (((Go.Value.slice (Option.some (Go.Addr.mk 1000 0 Option.none)) 501 501) = (Go.Value.slice (Option.some (Go.Addr.mk 1000 0 Option.none)) 501 501)) ∧
 (((vI (4 : Int)) = (vI (4 : Int))) ∧
 True))))))) ∧
 (True ∧
 (( (((Go.Value.slice (Option.some (Go.Addr.mk 1000 0 Option.none)) 8 501) = (Go.Value.slice (Option.some (Go.Addr.mk 1000 0 Option.none)) 8 501)) ∧
 (((vI (8 : Int)) = (vI (8 : Int))) ∧
 (((Go.Value.slice (Option.some (Go.Addr.mk 1000 0 Option.none)) 501 501) = (Go.Value.slice (Option.some (Go.Addr.mk 1000 0 Option.none)) 501 501)) ∧
 (((Go.Value.slice (Option.some (Go.Addr.mk 1000 8 Option.none)) 493 493) = (Go.Value.slice (Option.some (Go.Addr.mk 1000 8 Option.none)) 493 493)) ∧
 (((vI (8 : Int)) = (vI (8 : Int))) ∧
 (((Go.Value.slice (Option.some (Go.Addr.mk 1000 0 Option.none)) 501 501) = (Go.Value.slice (Option.some (Go.Addr.mk 1000 0 Option.none)) 501 501)) ∧
 (((vI (8 : Int)) = (vI (8 : Int))) ∧
 True)))))))) ∧
 (( (((vI (16 : Int)) = (vI (16 : Int))) ∧
 (((vI (8 : Int)) = (vI (8 : Int))) ∧
 (((Go.Value.slice (Option.some (Go.Addr.mk 1000 0 Option.none)) 501 501) = (Go.Value.slice (Option.some (Go.Addr.mk 1000 0 Option.none)) 501 501)) ∧
 (((vI (8 : Int)) = (vI (8 : Int))) ∧
 (((Go.Value.slice (Option.some (Go.Addr.mk 1000 0 Option.none)) 501 501) = (Go.Value.slice (Option.some (Go.Addr.mk 1000 0 Option.none)) 501 501)) ∧
 (((vI (8 : Int)) = (vI (8 : Int))) ∧
 True))))))) ∧
 (True ∧
 (( (((Go.Value.slice (Option.some (Go.Addr.mk 1000 0 Option.none)) 16 501) = (Go.Value.slice (Option.some (Go.Addr.mk 1000 0 Option.none)) 16 501)) ∧
 (((vI (16 : Int)) = (vI (16 : Int))) ∧
 (((Go.Value.slice (Option.some (Go.Addr.mk 1000 0 Option.none)) 501 501) = (Go.Value.slice (Option.some (Go.Addr.mk 1000 0 Option.none)) 501 501)) ∧
 (((Go.Value.slice (Option.some (Go.Addr.mk 1000 16 Option.none)) 485 485) = (Go.Value.slice (Option.some (Go.Addr.mk 1000 16 Option.none)) 485 485)) ∧
 (((vI (16 : Int)) = (vI (16 : Int))) ∧
 (((Go.Value.slice (Option.some (Go.Addr.mk 1000 0 Option.none)) 501 501) = (Go.Value.slice (Option.some (Go.Addr.mk 1000 0 Option.none)) 501 501)) ∧
 (((vI (16 : Int)) = (vI (16 : Int))) ∧
 True)))))))) ∧
 (( (((vI (32 : Int)) = (vI (32 : Int))) ∧
 (((vI (16 : Int)) = (vI (16 : Int))) ∧
 (((Go.Value.slice (Option.some (Go.Addr.mk 1000 0 Option.none)) 501 501) = (Go.Value.slice (Option.some (Go.Addr.mk 1000 0 Option.none)) 501 501)) ∧
 (((vI (16 : Int)) = (vI (16 : Int))) ∧
 (((Go.Value.slice (Option.some (Go.Addr.mk 1000 0 Option.none)) 501 501) = (Go.Value.slice (Option.some (Go.Addr.mk 1000 0 Option.none)) 501 501)) ∧
 (((vI (16 : Int)) = (vI (16 : Int))) ∧
 True))))))) ∧
 (True ∧
 (( (((Go.Value.slice (Option.some (Go.Addr.mk 1000 0 Option.none)) 32 501) = (Go.Value.slice (Option.some (Go.Addr.mk 1000 0 Option.none)) 32 501)) ∧
 (((vI (32 : Int)) = (vI (32 : Int))) ∧
 (((Go.Value.slice (Option.some (Go.Addr.mk 1000 0 Option.none)) 501 501) = (Go.Value.slice (Option.some (Go.Addr.mk 1000 0 Option.none)) 501 501)) ∧
 (((Go.Value.slice (Option.some (Go.Addr.mk 1000 32 Option.none)) 469 469) = (Go.Value.slice (Option.some (Go.Addr.mk 1000 32 Option.none)) 469 469)) ∧
 (((vI (32 : Int)) = (vI (32 : Int))) ∧
 (((Go.Value.slice (Option.some (Go.Addr.mk 1000 0 Option.none)) 501 501) = (Go.Value.slice (Option.some (Go.Addr.mk 1000 0 Option.none)) 501 501)) ∧
 (((vI (32 : Int)) = (vI (32 : Int))) ∧
 True)))))))) ∧
 (( (((vI (64 : Int)) = (vI (64 : Int))) ∧
 (((vI (32 : Int)) = (vI (32 : Int))) ∧
 (((Go.Value.slice (Option.some (Go.Addr.mk 1000 0 Option.none)) 501 501) = (Go.Value.slice (Option.some (Go.Addr.mk 1000 0 Option.none)) 501 501)) ∧
 (((vI (32 : Int)) = (vI (32 : Int))) ∧
 (((Go.Value.slice (Option.some (Go.Addr.mk 1000 0 Option.none)) 501 501) = (Go.Value.slice (Option.some (Go.Addr.mk 1000 0 Option.none)) 501 501)) ∧
 (((vI (32 : Int)) = (vI (32 : Int))) ∧
 True))))))) ∧
 (True ∧
 (( (((Go.Value.slice (Option.some (Go.Addr.mk 1000 0 Option.none)) 64 501) = (Go.Value.slice (Option.some (Go.Addr.mk 1000 0 Option.none)) 64 501)) ∧
 (((vI (64 : Int)) = (vI (64 : Int))) ∧
 (((Go.Value.slice (Option.some (Go.Addr.mk 1000 0 Option.none)) 501 501) = (Go.Value.slice (Option.some (Go.Addr.mk 1000 0 Option.none)) 501 501)) ∧
 (((Go.Value.slice (Option.some (Go.Addr.mk 1000 64 Option.none)) 437 437) = (Go.Value.slice (Option.some (Go.Addr.mk 1000 64 Option.none)) 437 437)) ∧
 (((vI (64 : Int)) = (vI (64 : Int))) ∧
 (((Go.Value.slice (Option.some (Go.Addr.mk 1000 0 Option.none)) 501 501) = (Go.Value.slice (Option.some (Go.Addr.mk 1000 0 Option.none)) 501 501)) ∧
 (((vI (64 : Int)) = (vI (64 : Int))) ∧
 True)))))))) ∧
 (( (((vI (128 : Int)) = (vI (128 : Int))) ∧
 (((vI (64 : Int)) = (vI (64 : Int))) ∧
 (((Go.Value.slice (Option.some (Go.Addr.mk 1000 0 Option.none)) 501 501) = (Go.Value.slice (Option.some (Go.Addr.mk 1000 0 Option.none)) 501 501)) ∧
 (((vI (64 : Int)) = (vI (64 : Int))) ∧
 (((Go.Value.slice (Option.some (Go.Addr.mk 1000 0 Option.none)) 501 501) = (Go.Value.slice (Option.some (Go.Addr.mk 1000 0 Option.none)) 501 501)) ∧
 (((vI (64 : Int)) = (vI (64 : Int))) ∧
 True))))))) ∧
 (True ∧
 (( (((Go.Value.slice (Option.some (Go.Addr.mk 1000 0 Option.none)) 128 501) = (Go.Value.slice (Option.some (Go.Addr.mk 1000 0 Option.none)) 128 501)) ∧
 (((vI (128 : Int)) = (vI (128 : Int))) ∧
 (((Go.Value.slice (Option.some (Go.Addr.mk 1000 0 Option.none)) 501 501) = (Go.Value.slice (Option.some (Go.Addr.mk 1000 0 Option.none)) 501 501)) ∧
 (((Go.Value.slice (Option.some (Go.Addr.mk 1000 128 Option.none)) 373 373) = (Go.Value.slice (Option.some (Go.Addr.mk 1000 128 Option.none)) 373 373)) ∧
 (((vI (128 : Int)) = (vI (128 : Int))) ∧
 (((Go.Value.slice (Option.some (Go.Addr.mk 1000 0 Option.none)) 501 501) = (Go.Value.slice (Option.some (Go.Addr.mk 1000 0 Option.none)) 501 501)) ∧
 (((vI (128 : Int)) = (vI (128 : Int))) ∧
 True)))))))) ∧
 (( (((vI (256 : Int)) = (vI (256 : Int))) ∧
 (((vI (128 : Int)) = (vI (128 : Int))) ∧
 (((Go.Value.slice (Option.some (Go.Addr.mk 1000 0 Option.none)) 501 501) = (Go.Value.slice (Option.some (Go.Addr.mk 1000 0 Option.none)) 501 501)) ∧
 (((vI (128 : Int)) = (vI (128 : Int))) ∧
 (((Go.Value.slice (Option.some (Go.Addr.mk 1000 0 Option.none)) 501 501) = (Go.Value.slice (Option.some (Go.Addr.mk 1000 0 Option.none)) 501 501)) ∧
 (((vI (128 : Int)) = (vI (128 : Int))) ∧
 True))))))) ∧
 (True ∧
 (( (((Go.Value.slice (Option.some (Go.Addr.mk 1000 0 Option.none)) 256 501) = (Go.Value.slice (Option.some (Go.Addr.mk 1000 0 Option.none)) 256 501)) ∧
 (((vI (256 : Int)) = (vI (256 : Int))) ∧
 (((Go.Value.slice (Option.some (Go.Addr.mk 1000 0 Option.none)) 501 501) = (Go.Value.slice (Option.some (Go.Addr.mk 1000 0 Option.none)) 501 501)) ∧
 (((Go.Value.slice (Option.some (Go.Addr.mk 1000 256 Option.none)) 245 245) = (Go.Value.slice (Option.some (Go.Addr.mk 1000 256 Option.none)) 245 245)) ∧
 (((vI (256 : Int)) = (vI (256 : Int))) ∧
 (((Go.Value.slice (Option.some (Go.Addr.mk 1000 0 Option.none)) 501 501) = (Go.Value.slice (Option.some (Go.Addr.mk 1000 0 Option.none)) 501 501)) ∧
 (((vI (256 : Int)) = (vI (256 : Int))) ∧
 True)))))))) ∧
 (( (((vI (501 : Int)) = (vI (501 : Int))) ∧
 (((vI (256 : Int)) = (vI (256 : Int))) ∧
 (((Go.Value.slice (Option.some (Go.Addr.mk 1000 0 Option.none)) 501 501) = (Go.Value.slice (Option.some (Go.Addr.mk 1000 0 Option.none)) 501 501)) ∧
 (((vI (256 : Int)) = (vI (256 : Int))) ∧
 (((Go.Value.slice (Option.some (Go.Addr.mk 1000 0 Option.none)) 501 501) = (Go.Value.slice (Option.some (Go.Addr.mk 1000 0 Option.none)) 501 501)) ∧
 (((vI (256 : Int)) = (vI (256 : Int))) ∧
 True))))))) ∧
 (True ∧
 (((501 = 501) ∧
 (501 = 501)) ∧
 (k [(D.sl 501 1 (List.replicate 501 (vI x)))]))))))))))))))))))))))))))))) := by kernel_rfl
end Go.Proofs.G5b

/- One number is put before the others of an own list, where there is room: what it does (slices.Insert at 0). -/
namespace Go.Abs
def wpIns (args : Array Value) (H : Heap) (k : Value → Heap → Prop) : Prop :=
  match args.toList with
  | [.slice (some ⟨b, 0, none⟩) n cap, .int .i64 z, .slice (some ⟨vb, 0, none⟩) 1 _] =>
    match H.get b, H.get vb with
    | some (.sym cs true 1), some (.cells [x] _ false _) =>
      if z = 0 ∧ mbase ≤ b ∧ b ≠ vb ∧ 0 < n ∧ n + 1 ≤ cap ∧ cap ≤ 1000000 ∧ cs.length = cap ∧ cellP x = true then
        k (.slice (some ⟨b, 0, none⟩) (n + 1) cap) (H.set b (.sym (listSet (listSet cs 1 (cs.take n)) 0 [x]) true 1))
      else False
    | _, _ => False
  | _ => False
end Go.Abs

/- What is left to show of each function, written out; the kernel reckons it. -/
namespace Go.Proofs.G5b
open Go Go.Abs Go.Proofs
set_option maxRecDepth 100000
set_option linter.unusedVariables false
abbrev S502 (n cap : Nat) : Value := .slice (some ⟨502, 0, none⟩) n cap
def preI : FuncId → Option Handler := fun g => if g == 95 then some (fun _ args _ H k => wpIns args H k) else none
abbrev hI : Handler := handlerX Try.prog preI 12 6
def gAf (cap1 cap2 cap3 : Nat) (cs0 : List Value) (den a b d c1 c2 x : Int) (k : List D → Prop) : Prop := wpFn Try.prog hI (fun _ _ _ => False) 6 88 #[.agg #[S500 2 cap1, vI den], .agg #[S501 2 cap2, vI d], .agg #[S502 2 cap3, vI x]] (heapOf [(500, .sym cs0 false 2), (501, .sym [vI a, vI b] false 1), (502, .sym [vI c1, vI c2] false 1)]) (dataK k)
theorem gAf_text (cap1 : Nat) (cap2 : Nat) (cap3 : Nat) (cs0 : List Go.Value) (den : Int) (a : Int) (b : Int) (d : Int) (c1 : Int) (c2 : Int) (x : Int) (k : List D → Prop) : gAf cap1 cap2 cap3 cs0 den a b d c1 c2 x k =
 (∃ n1 : Int,
 ((At [(vI a), (vI b)] 0 1 [(vI n1)]) ∧
 (∃ n2 : Int,
 ((At [(vI c1), (vI c2)] 0 1 [(vI n2)]) ∧
 (∃ n3 : Int,
 ((At [(vI a), (vI b)] 1 1 [(vI n3)]) ∧
 (∃ n4 : Int,
 ((At [(vI c1), (vI c2)] 1 1 [(vI n4)]) ∧
 (((2 = 2) ∧
 (2 = 2)) ∧
 (k [(D.agg [(D.sl 2 1 [(vI (IntKind.wrap .i64 (IntKind.wrap .i64 (IntKind.wrap .i64 (x * IntKind.wrap .i64 (d * den)) + IntKind.wrap .i64 (n2 * n1)) + IntKind.wrap .i64 (n4 * n3)))), (vI (IntKind.wrap .i64 (n1 * den)))]), (D.val (vI (IntKind.wrap .i64 (d * den))))])])))))))))) := by kernel_rfl
end Go.Proofs.G5b

/- What is left to show of each function, written out; the kernel reckons it. -/
namespace Go.Proofs.G5b
open Go Go.Abs Go.Proofs
set_option maxRecDepth 100000
set_option linter.unusedVariables false
abbrev hZ : Handler := handlerX Try.prog (fun _ => none) 12 6
def gPr (a b c d : Int) (k : List D → Prop) : Prop := wpFn Try.prog hZ (fun _ _ _ => False) 12 93 #[.agg #[vI a, vI b], .agg #[vI c, vI d]] (heapOf []) (dataK k)
theorem gPr_text (a : Int) (b : Int) (c : Int) (d : Int) (k : List D → Prop) : gPr a b c d k =
 (∃ n1 : Int,
 ((At [(vI (IntKind.wrap .i64 (a * c))), (vI (IntKind.wrap .i64 (a * d))), (vI (IntKind.wrap .i64 (b * c))), (vI (IntKind.wrap .i64 (b * d)))] 0 1 [(vI n1)]) ∧
 (∃ n2 : Int,
 ((At [(vI (IntKind.wrap .i64 (a * c))), (vI (IntKind.wrap .i64 (a * d))), (vI (IntKind.wrap .i64 (b * c))), (vI (IntKind.wrap .i64 (b * d)))] 1 1 [(vI n2)]) ∧
 (∃ n3 : Int,
 ((At [(vI (IntKind.wrap .i64 (a * c))), (vI (IntKind.wrap .i64 (a * d))), (vI (IntKind.wrap .i64 (b * c))), (vI (IntKind.wrap .i64 (b * d)))] 2 1 [(vI n3)]) ∧
 (∃ n4 : Int,
 ((At [(vI (IntKind.wrap .i64 (a * c))), (vI (IntKind.wrap .i64 (a * d))), (vI (IntKind.wrap .i64 (b * c))), (vI (IntKind.wrap .i64 (b * d)))] 3 1 [(vI n4)]) ∧
 (∃ n5 : Int,
 ((At [(vI (IntKind.wrap .i64 (a * c))), (vI (IntKind.wrap .i64 (a * d))), (vI (IntKind.wrap .i64 (b * c))), (vI (IntKind.wrap .i64 (b * d)))] 0 1 [(vI n5)]) ∧
 (∃ n6 : Int,
 ((At [(vI (IntKind.wrap .i64 (a * c))), (vI (IntKind.wrap .i64 (a * d))), (vI (IntKind.wrap .i64 (b * c))), (vI (IntKind.wrap .i64 (b * d)))] 1 1 [(vI n6)]) ∧
 (∃ n7 : Int,
 ((At [(vI (IntKind.wrap .i64 (a * c))), (vI (IntKind.wrap .i64 (a * d))), (vI (IntKind.wrap .i64 (b * c))), (vI (IntKind.wrap .i64 (b * d)))] 2 1 [(vI n7)]) ∧
 (∃ n8 : Int,
 ((At [(vI (IntKind.wrap .i64 (a * c))), (vI (IntKind.wrap .i64 (a * d))), (vI (IntKind.wrap .i64 (b * c))), (vI (IntKind.wrap .i64 (b * d)))] 3 1 [(vI n8)]) ∧
 (k [(D.agg [(D.val (vI (if n4 < if n3 < if n2 < n1 then n2 else n1 then n3 else if n2 < n1 then n2 else n1 then n4 else if n3 < if n2 < n1 then n2 else n1 then n3 else if n2 < n1 then n2 else n1))), (D.val (vI (if n8 > if n7 > if n6 > n5 then n6 else n5 then n7 else if n6 > n5 then n6 else n5 then n8 else if n7 > if n6 > n5 then n6 else n5 then n7 else if n6 > n5 then n6 else n5)))])]))))))))))))))))) := by kernel_rfl
def gLT (C : Ct) (L : AtLoop) (n d : Int) (k : List D → Prop) : Prop := wpFn Try.prog hZ L 0 73 #[vI n, vI d] (heapOf []) (dataK k)
theorem gLT_text (C : Ct) (L : AtLoop) (n : Int) (d : Int) (k : List D → Prop) : gLT C L n d k =
 (L 0 [(Prod.mk 0 (vI n)), (Prod.mk 1 (vI d)), (Prod.mk 4 (Go.Value.pointer (Option.some (Go.Addr.mk 1000 0 Option.none)))), (Prod.mk 5 (vI n)), (Prod.mk 6 (vI d))] [(Prod.mk 1000 (AObj.cells [(vI (0 : Int)), (vI (0 : Int))] 63 false 2))]) := by kernel_rfl
def sLT (n d a b : Int) : Slots := [(0, vI n), (1, vI d), (4, P1 1000 0), (5, vI a), (6, vI b)]
abbrev bLT : Blocks := [(1000, .cells [vI 0, vI 0] 63 false 2)]
def rLT (C : Ct) (L : AtLoop) (n d a b : Int) (B : Bx) (X : Xx) (k : List D → Prop) : Prop := wpRound Try.prog hZ L 73 0 (sLT n d a b) bLT B X (dataK k)
theorem rLT_text (C : Ct) (L : AtLoop) (n : Int) (d : Int) (a : Int) (b : Int) (B : Bx) (X : Xx) (k : List D → Prop) : rLT C L n d a b B X k =
 (bcase (b != 0)
 (bcase (b != 0)
 (((bcase (b != 0)
 ((vI (Int.tmod a b)) = (vI (Int.tmod a b)))
 False) ∧
 (((vI b) = (vI b)) ∧
 (((vI a) = (vI a)) ∧
 (((vI b) = (vI b)) ∧
 True)))) ∧
 (((bcase (b != 0)
 ((vI (Int.tmod a b)) = (vI (Int.tmod a b)))
 False) ∧
 (((vI b) = (vI b)) ∧
 True)) ∧
 (True ∧
 (B [(Prod.mk 0 (vI n)), (Prod.mk 1 (vI d)), (Prod.mk 4 (Go.Value.pointer (Option.some (Go.Addr.mk 1000 0 Option.none)))), (Prod.mk 5 (vI b)), (Prod.mk 6 (vI (Int.tmod a b)))] [(Prod.mk 1000 (AObj.cells [(vI (0 : Int)), (vI (0 : Int))] 63 false 2))]))))
 False)
 (X 0 [(Prod.mk 0 (vI n)), (Prod.mk 1 (vI d)), (Prod.mk 4 (Go.Value.pointer (Option.some (Go.Addr.mk 1000 0 Option.none)))), (Prod.mk 5 (vI a))] [(Prod.mk 1000 (AObj.cells [(vI (0 : Int)), (vI (0 : Int))] 63 false 2))])) := by kernel_rfl
def nLT (C : Ct) (L : AtLoop) (n d a : Int) (k : List D → Prop) : Prop := wpNext Try.prog hZ L 73 0 .normal [(0, vI n), (1, vI d), (4, P1 1000 0), (5, vI a)] bLT (dataK k)
theorem nLT_text (C : Ct) (L : AtLoop) (n : Int) (d : Int) (a : Int) (k : List D → Prop) : nLT C L n d a k =
 (bcase (decide (a < 0))
 (bcase (decide (d < 0))
 (bcase (a != 0)
 (bcase (a != 0)
 ((((Go.Value.agg [(vI (IntKind.wrap .i64 (Int.tdiv n a))), (vI (IntKind.wrap .i64 (Int.tdiv d a)))].toArray) = (Go.Value.agg [(vI (IntKind.wrap .i64 (Int.tdiv n a))), (vI (IntKind.wrap .i64 (Int.tdiv d a)))].toArray)) ∧
 ((bcase (a != 0)
 ((vI (IntKind.wrap .i64 (Int.tdiv d a))) = (vI (IntKind.wrap .i64 (Int.tdiv d a))))
 False) ∧
 (((vI a) = (vI a)) ∧
 (((vI d) = (vI d)) ∧
 ((bcase (a != 0)
 ((vI (IntKind.wrap .i64 (Int.tdiv n a))) = (vI (IntKind.wrap .i64 (Int.tdiv n a))))
 False) ∧
 (((vI a) = (vI a)) ∧
 (((vI n) = (vI n)) ∧
 True))))))) ∧
 (True ∧
 (k [(D.agg [(D.val (vI (IntKind.wrap .i64 (Int.tdiv n a)))), (D.val (vI (IntKind.wrap .i64 (Int.tdiv d a))))])])))
 False)
 False)
 (bcase (IntKind.wrap .i64 (0 - a) != 0)
 (bcase (IntKind.wrap .i64 (0 - a) != 0)
 ((((Go.Value.agg [(vI (IntKind.wrap .i64 (Int.tdiv n (IntKind.wrap .i64 (0 - a))))), (vI (IntKind.wrap .i64 (Int.tdiv d (IntKind.wrap .i64 (0 - a)))))].toArray) = (Go.Value.agg [(vI (IntKind.wrap .i64 (Int.tdiv n (IntKind.wrap .i64 (0 - a))))), (vI (IntKind.wrap .i64 (Int.tdiv d (IntKind.wrap .i64 (0 - a)))))].toArray)) ∧
 ((bcase (IntKind.wrap .i64 (0 - a) != 0)
 ((vI (IntKind.wrap .i64 (Int.tdiv d (IntKind.wrap .i64 (0 - a))))) = (vI (IntKind.wrap .i64 (Int.tdiv d (IntKind.wrap .i64 (0 - a))))))
 False) ∧
 (((vI (IntKind.wrap .i64 (0 - a))) = (vI (IntKind.wrap .i64 (0 - a)))) ∧
 (((vI d) = (vI d)) ∧
 ((bcase (IntKind.wrap .i64 (0 - a) != 0)
 ((vI (IntKind.wrap .i64 (Int.tdiv n (IntKind.wrap .i64 (0 - a))))) = (vI (IntKind.wrap .i64 (Int.tdiv n (IntKind.wrap .i64 (0 - a))))))
 False) ∧
 (((vI (IntKind.wrap .i64 (0 - a))) = (vI (IntKind.wrap .i64 (0 - a)))) ∧
 (((vI n) = (vI n)) ∧
 True))))))) ∧
 (True ∧
 (k [(D.agg [(D.val (vI (IntKind.wrap .i64 (Int.tdiv n (IntKind.wrap .i64 (0 - a)))))), (D.val (vI (IntKind.wrap .i64 (Int.tdiv d (IntKind.wrap .i64 (0 - a))))))])])))
 False)
 False))
 (bcase (decide (d < 0))
 (bcase (IntKind.wrap .i64 (0 - a) != 0)
 (bcase (IntKind.wrap .i64 (0 - a) != 0)
 ((((Go.Value.agg [(vI (IntKind.wrap .i64 (Int.tdiv n (IntKind.wrap .i64 (0 - a))))), (vI (IntKind.wrap .i64 (Int.tdiv d (IntKind.wrap .i64 (0 - a)))))].toArray) = (Go.Value.agg [(vI (IntKind.wrap .i64 (Int.tdiv n (IntKind.wrap .i64 (0 - a))))), (vI (IntKind.wrap .i64 (Int.tdiv d (IntKind.wrap .i64 (0 - a)))))].toArray)) ∧
 ((bcase (IntKind.wrap .i64 (0 - a) != 0)
 ((vI (IntKind.wrap .i64 (Int.tdiv d (IntKind.wrap .i64 (0 - a))))) = (vI (IntKind.wrap .i64 (Int.tdiv d (IntKind.wrap .i64 (0 - a))))))
 False) ∧
 (((vI (IntKind.wrap .i64 (0 - a))) = (vI (IntKind.wrap .i64 (0 - a)))) ∧
 (((vI d) = (vI d)) ∧
 ((bcase (IntKind.wrap .i64 (0 - a) != 0)
 ((vI (IntKind.wrap .i64 (Int.tdiv n (IntKind.wrap .i64 (0 - a))))) = (vI (IntKind.wrap .i64 (Int.tdiv n (IntKind.wrap .i64 (0 - a))))))
 False) ∧
 (((vI (IntKind.wrap .i64 (0 - a))) = (vI (IntKind.wrap .i64 (0 - a)))) ∧
 (((vI n) = (vI n)) ∧
 True))))))) ∧
 (True ∧
 (k [(D.agg [(D.val (vI (IntKind.wrap .i64 (Int.tdiv n (IntKind.wrap .i64 (0 - a)))))), (D.val (vI (IntKind.wrap .i64 (Int.tdiv d (IntKind.wrap .i64 (0 - a))))))])])))
 False)
 False)
 (bcase (a != 0)
 (bcase (a != 0)
 ((((Go.Value.agg [(vI (IntKind.wrap .i64 (Int.tdiv n a))), (vI (IntKind.wrap .i64 (Int.tdiv d a)))].toArray) = (Go.Value.agg [(vI (IntKind.wrap .i64 (Int.tdiv n a))), (vI (IntKind.wrap .i64 (Int.tdiv d a)))].toArray)) ∧
 ((bcase (a != 0)
 ((vI (IntKind.wrap .i64 (Int.tdiv d a))) = (vI (IntKind.wrap .i64 (Int.tdiv d a))))
 False) ∧
 (((vI a) = (vI a)) ∧
 (((vI d) = (vI d)) ∧
 ((bcase (a != 0)
 ((vI (IntKind.wrap .i64 (Int.tdiv n a))) = (vI (IntKind.wrap .i64 (Int.tdiv n a))))
 False) ∧
 (((vI a) = (vI a)) ∧
 (((vI n) = (vI n)) ∧
 True))))))) ∧
 (True ∧
 (k [(D.agg [(D.val (vI (IntKind.wrap .i64 (Int.tdiv n a)))), (D.val (vI (IntKind.wrap .i64 (Int.tdiv d a))))])])))
 False)
 False))) := by kernel_rfl
end Go.Proofs.G5b

/- Numbers: greatest divisors, quotients rounded down, fractions in lowest terms. -/
namespace Go.Abs
theorem natAbs_tmod (a b : Int) : (a.tmod b).natAbs = a.natAbs % b.natAbs := Int.natAbs_tmod a b
/-- one step of the division of both -/
theorem gcd_step (a b : Int) : (Int.gcd b (a.tmod b) : Int) = Int.gcd a b := by
  have : Int.gcd b (a.tmod b) = Int.gcd a b := by
    show Nat.gcd b.natAbs (a.tmod b).natAbs = Nat.gcd a.natAbs b.natAbs
    rw [natAbs_tmod, Nat.gcd_comm b.natAbs, ← Nat.gcd_rec, Nat.gcd_comm]
  rw [this]
theorem gcd_step_lt {a b : Int} (h : b ≠ 0) : (a.tmod b).natAbs < b.natAbs := by
  rw [natAbs_tmod]; exact Nat.mod_lt _ (by omega)
theorem gcd_end (a : Int) : (Int.gcd a 0 : Int) = if a < 0 then -a else a := by
  have : Int.gcd a 0 = a.natAbs := Nat.gcd_zero_right _
  rw [this]; split <;> omega
theorem gcd_pos {a b : Int} (h : a ≠ 0 ∨ b ≠ 0) : 0 < (Int.gcd a b : Int) := by
  have : Int.gcd a b ≠ 0 := fun e => by
    have := Int.gcd_eq_zero_iff.1 e
    omega
  omega
end Go.Abs

/- Fractions in lowest terms: their parts, and how they compare. -/
namespace Go.Abs
/-- a fraction in lowest terms -/
def low (n d : Int) : Int × Int := if d < 0 then ((0 - n).tdiv (Int.gcd n d), (0 - d).tdiv (Int.gcd n d)) else (n.tdiv (Int.gcd n d), d.tdiv (Int.gcd n d))
theorem tdiv_small {n g : Int} (hn : -4611686018427387904 ≤ n ∧ n ≤ 4611686018427387904) (_ : 0 < g) : -4611686018427387904 ≤ n.tdiv g ∧ n.tdiv g ≤ 4611686018427387904 := by
  have h := Int.natAbs_tdiv_le_natAbs n g
  omega
theorem tdiv_neg' (n g : Int) : n.tdiv (0 - g) = (0 - n).tdiv g := by
  rw [show (0 : Int) - g = -g by omega, show (0 : Int) - n = -n by omega, Int.tdiv_neg, Int.neg_tdiv]
end Go.Abs

/- Chapter 5: fractions in lowest terms, products of ranges, in data. -/
namespace Go.Proofs.G5b
open Go Go.Abs Go.Proofs Go.Proofs.G5
set_option maxRecDepth 100000
theorem hokZ : HandlerOK Try.prog hZ := handlerX_ok mixed (fun g h he => by cases he) (by decide) 6
/-- the least and the greatest of four products -/
def mn (x y : Int) : Int := if y < x then y else x
def mx (x y : Int) : Int := if y > x then y else x
abbrev W6 (z : Int) : Int := IntKind.wrap .i64 z
def prV (a b c d : Int) : Int × Int := (mn (mn (mn (W6 (a * c)) (W6 (a * d))) (W6 (b * c))) (W6 (b * d)), mx (mx (mx (W6 (a * c)) (W6 (a * d))) (W6 (b * c))) (W6 (b * d)))
theorem at_lit {l : List Value} {k : Nat} {v : Value} (h : k + 1 ≤ l.length) (e : (l.drop k).take 1 = [v]) : At l k 1 [v] := ⟨h, e⟩
theorem conPr (a b c d : Int) : C5 93 [.agg [dI a, dI b], .agg [dI c, dI d]] [.agg [dI (prV a b c d).1, dI (prV a b c d).2]] := by
  refine con_walk hokZ mixed (u := 12) (by decide) Try.func93 rfl (by show 0 ≤ 400; omega) (fun caps => ?_)
  show gPr a b c d _
  rw [gPr_text]
  have e0 : At [vI (W6 (a * c)), vI (W6 (a * d)), vI (W6 (b * c)), vI (W6 (b * d))] 0 1 [vI (W6 (a * c))] := at_lit (by simp) rfl
  have e1 : At [vI (W6 (a * c)), vI (W6 (a * d)), vI (W6 (b * c)), vI (W6 (b * d))] 1 1 [vI (W6 (a * d))] := at_lit (by simp) rfl
  have e2 : At [vI (W6 (a * c)), vI (W6 (a * d)), vI (W6 (b * c)), vI (W6 (b * d))] 2 1 [vI (W6 (b * c))] := at_lit (by simp) rfl
  have e3 : At [vI (W6 (a * c)), vI (W6 (a * d)), vI (W6 (b * c)), vI (W6 (b * d))] 3 1 [vI (W6 (b * d))] := at_lit (by simp) rfl
  exact ⟨_, e0, _, e1, _, e2, _, e3, _, e0, _, e1, _, e2, _, e3, rfl⟩
theorem conLT (n d : Int) (hn : -4611686018427387904 ≤ n ∧ n ≤ 4611686018427387904) (hd : -4611686018427387904 ≤ d ∧ d ≤ 4611686018427387904) (h0 : d ≠ 0) : C5 73 [dI n, dI d] [.agg [dI (low n d).1, dI (low n d).2]] := by
  let inv : Int × Int → Prop := fun x => (-4611686018427387904 ≤ x.1 ∧ x.1 ≤ 4611686018427387904) ∧ (-4611686018427387904 ≤ x.2 ∧ x.2 ≤ 4611686018427387904) ∧ Int.gcd x.1 x.2 = Int.gcd n d
  let st : Int × Int → Slots × Blocks := fun x => (sLT n d x.1 x.2, bLT)
  refine con_of (L := fun _ s b => ∃ x, inv x ∧ st x = (s, b)) hokZ mixed Try.func73 rfl (by show 0 ≤ 400; omega) rfl (ids := [0]) (by kernel_rfl) rfl (fun caps => ?_) (fun id hid => ?_)
  · show gLT (fun _ _ _ => True) _ n d _
    rw [gLT_text]
    exact ⟨(n, d), ⟨hn, hd, rfl⟩, rfl⟩
  · obtain rfl := List.mem_singleton.1 hid
    refine ⟨Int × Int, st, inv, fun x => x.2.natAbs, ⟨fun s b h => h, by kernel_rfl, ?_⟩⟩
    rintro ⟨a, b⟩ ⟨ha, hb, hg⟩
    simp only at ha hb hg
    show rLT (fun _ _ _ => True) _ n d a b _ _ _
    rw [rLT_text]
    refine bc_bne (fun h => ?_) (fun h => ?_)
    · simp only [bc_n h, true_and, and_true]
      have hlt := gcd_step_lt (a := a) h
      have hst := gcd_step a b
      refine ⟨(b, a.tmod b), ⟨hb, ?_, by show Int.gcd b (a.tmod b) = _; omega⟩, hlt, rfl⟩
      show -4611686018427387904 ≤ a.tmod b ∧ a.tmod b ≤ 4611686018427387904
      have : (a.tmod b).natAbs < b.natAbs := hlt
      omega
    · show (if 0 = 0 then _ else _)
      rw [if_pos rfl]
      show nLT (fun _ _ _ => True) _ n d a _
      rw [nLT_text]
      subst h
      have hend := gcd_end a
      rw [hg] at hend
      have hgp := gcd_pos (a := n) (b := d) (.inr h0)
      have b1 := tdiv_small (n := n) (g := Int.gcd n d) hn hgp
      have b2 := tdiv_small (n := d) (g := Int.gcd n d) hd hgp
      have b3 := tdiv_small (n := 0 - n) (g := Int.gcd n d) (by omega) hgp
      have b4 := tdiv_small (n := 0 - d) (g := Int.gcd n d) (by omega) hgp
      have ha0 : a ≠ 0 := by intro h; rw [h] at hend; simp at hend; omega
      rw [w64 (z := 0 - a) (by omega) (by omega)]
      have hna : 0 - a ≠ 0 := by omega
      simp only [bc_n ha0, bc_n hna, true_and, and_true]
      refine bc_dec (fun h1 => bc_dec (fun h2 => ?_) (fun h2 => ?_)) (fun h1 => bc_dec (fun h2 => ?_) (fun h2 => ?_))
      · rw [if_pos h1] at hend
        have ea : a = 0 - ((Int.gcd n d : Nat) : Int) := by omega
        rw [ea, tdiv_neg', tdiv_neg', w64 (by omega) (by omega), w64 (by omega) (by omega)]
        show _ = _
        rw [low, if_pos h2]
      · rw [if_pos h1] at hend
        have ea : 0 - a = ((Int.gcd n d : Nat) : Int) := by omega
        rw [ea, w64 (by omega) (by omega), w64 (by omega) (by omega)]
        show _ = _
        rw [low, if_neg h2]
      · rw [if_neg h1] at hend
        have ea : 0 - a = 0 - ((Int.gcd n d : Nat) : Int) := by omega
        rw [ea, tdiv_neg', tdiv_neg', w64 (by omega) (by omega), w64 (by omega) (by omega)]
        show _ = _
        rw [low, if_pos h2]
      · rw [if_neg h1] at hend
        rw [← hend, w64 (by omega) (by omega), w64 (by omega) (by omega)]
        show _ = _
        rw [low, if_neg h2]
end Go.Proofs.G5b

/- Chapter 5: outputs of monitors, in data. -/
namespace Go.Proofs.G5b
open Go Go.Abs Go.Proofs Go.Proofs.G5
set_option maxRecDepth 100000
def dN : List Int → D
  | [] => .nil
  | x :: r => .sl (x :: r).length 1 (vi (x :: r))
theorem dN_ne {r : List Int} (h : r ≠ []) : dN r = .sl r.length 1 (vi r) := by cases r with | nil => exact absurd rfl h | cons x r => rfl
abbrev Bd (l : List Int) : Prop := ∀ z ∈ l, -100000 ≤ z ∧ z ≤ 100000
theorem getD_at (r : List Int) (j : Nat) (h : j < r.length) : r.getD j 0 = r[j] := by
  rw [List.getD_eq_getElem?_getD, List.getElem?_eq_getElem h]; rfl
theorem outs_step (D : Nat) (f : Int → Int) (r : List Int) (c : Int) (l : List Int) (i : Nat) (hi : i < l.length) (hr : r.length = i) :
    outs D f r c (l.drop i) = if -100000 ≤ l[i] + c ∧ l[i] + c ≤ 100000 then outs D f (r ++ [l[i] + c]) (c - if D ≤ i then f ((r ++ [l[i] + c]).getD (i - D) 0) else 0) (l.drop (i + 1)) else none := by
  rw [List.drop_eq_getElem_cons hi, outs, hr]
/-- what is said of outputs -/
def ouD : Option (List Int) → List D
  | none => [.nil, dI 22]
  | some r => [dN r, dI 0]
theorem vi_at' (r : List Int) (y : Int) (j : Nat) (h : j < r.length + 1) : At (vi (r ++ [y])) (0 + j * 1) 1 [vI ((r ++ [y]).getD j 0)] := by
  have := vi_at (r ++ [y]) j (by simp; omega)
  rwa [getD_at (r ++ [y]) j (by simp; omega)]
theorem getD_last (r : List Int) (y : Int) : (r ++ [y]).getD r.length 0 = y := by simp [List.getD_eq_getElem?_getD]
theorem bd_snoc {r : List Int} {y : Int} (h : Bd r) (hy : -100000 ≤ y ∧ y ≤ 100000) : Bd (r ++ [y]) := by
  intro z hz
  rcases List.mem_append.1 hz with hz | hz
  · exact h z hz
  · rw [List.mem_singleton.1 hz]; exact hy
theorem bd_getD {r : List Int} (h : Bd r) (j : Nat) : -100000 ≤ r.getD j 0 ∧ r.getD j 0 ≤ 100000 := by
  by_cases hj : j < r.length
  · rw [getD_at r j hj]; exact h _ (List.getElem_mem hj)
  · rw [List.getD_eq_getElem?_getD, List.getElem?_eq_none (by omega)]
    show -100000 ≤ (0 : Int) ∧ (0 : Int) ≤ 100000; omega
abbrev ouS (D nu de ba : Int) (n cap : Nat) (l : List Int) : List Int × Int → Slots × Blocks
  | ([], x) => (sOu (.slice none 0 0) x n cap 0, [oM D nu de ba, oL, Q500 (vi l)])
  | (z :: r, x) => (sOu (.slice (some ⟨1002, 0, none⟩) (r.length + 1) (r.length + 1)) x n cap ((r.length + 1 : Nat) : Int), [oM D nu de ba, oL, (1002, .sym (vi (z :: r)) true 1), Q500 (vi l)])
theorem ouS_ne {D nu de ba : Int} {n cap : Nat} {l r : List Int} {x : Int} (h : r ≠ []) : ouS D nu de ba n cap l (r, x) = (sOu (.slice (some ⟨1002, 0, none⟩) r.length r.length) x n cap (r.length : Int), [oM D nu de ba, oL, (1002, .sym (vi r) true 1), Q500 (vi l)]) := by
  cases r with | nil => exact absurd rfl h | cons z r => rfl
theorem conOu (D : Nat) {nu de ba : Int} (hm : VM D nu de ba) (l : List Int) (hlen : l.length < 1000000) (hl : ∀ z ∈ l, -10000 ≤ z ∧ z ≤ 10000) :
    C5 62 [.agg [dI D, dI nu, dI de, dI ba], .sl l.length 1 (vi l)] (ouD (outs D (tk nu de ba) [] 0 l)) := by
  have hD := hm.dl
  let inv : (List Int × Int) × Nat → Prop := fun x => x.1.1.length ≤ l.length ∧ Bd x.1.1 ∧ (-20000000 ≤ x.1.2 ∧ x.1.2 ≤ 20000000) ∧ outs D (tk nu de ba) [] 0 l = outs D (tk nu de ba) x.1.1 x.1.2 (l.drop x.1.1.length)
  let st : (List Int × Int) × Nat → Slots × Blocks := fun x => ouS D nu de ba l.length x.2 l x.1
  refine con_of (L := fun _ s b => ∃ x, inv x ∧ st x = (s, b)) hok mixed Try.func62 rfl (by show 1 ≤ 400; omega) rfl (ids := [0]) (by kernel_rfl) rfl (fun caps => ?_) (fun id hid => ?_)
  · show gOu _ _ D nu de ba l.length (caps 500) (vi l) _
    rw [gOu_text]
    exact ⟨(([], 0), caps 500), ⟨by simp, (by intro z hz; cases hz), by show -20000000 ≤ (0 : Int) ∧ (0 : Int) ≤ 20000000; omega, rfl⟩, rfl⟩
  · obtain rfl := List.mem_singleton.1 hid
    refine ⟨(List Int × Int) × Nat, st, inv, fun x => l.length - x.1.1.length, ⟨fun s b h => h, by kernel_rfl, ?_⟩⟩
    rintro ⟨⟨r, x⟩, cap⟩ ⟨hi, hb, hx, hr⟩
    simp only at hi hb hx hr
    by_cases h : r.length < l.length
    · have hli := hl _ (List.getElem_mem h)
      rw [outs_step D _ r x l r.length h rfl] at hr
      have hy : IntKind.wrap .i64 (l[r.length] + x) = l[r.length] + x := w64 (by omega) (by omega)
      have hlt : ((r.length : Nat) : Int) < (l.length : Int) := by omega
      have h0 : (0 : Int) ≤ (r.length : Int) := by omega
      have hl1 : (r.length : Int) < ((r.length + 1 : Nat) : Int) := by omega
      have hll : (r ++ [l[r.length] + x]).length = r.length + 1 := by simp
      -- the parts that both shapes share
      have kB : ∀ (B : Bx), ((-100000 : Int) ≤ l[r.length] + x ∧ l[r.length] + x ≤ 100000) → (∀ s b, (∃ y, inv y ∧ l.length - y.1.1.length < l.length - r.length ∧ st y = (s, b)) → B s b) → ∀ c', (c' = x - if D ≤ r.length then tk nu de ba ((r ++ [l[r.length] + x]).getD (r.length - D) 0) else 0) → B (sOu (.slice (some ⟨1002, 0, none⟩) (r.length + 1) (r.length + 1)) c' l.length cap ((r.length + 1 : Nat) : Int)) [oM D nu de ba, oL, (1002, .sym (vi (r ++ [l[r.length] + x])) true 1), Q500 (vi l)] := by
        intro B hin hB c' hc'
        have hne : r ++ [l[r.length] + x] ≠ [] := by simp
        refine hB _ _ ⟨((r ++ [l[r.length] + x], c'), cap), ⟨by rw [hll]; omega, bd_snoc hb hin, ?_, ?_⟩, by simp only [hll]; omega, ?_⟩
        · show -20000000 ≤ c' ∧ c' ≤ 20000000
          rw [hc']
          split
          · have := tk_bd hm (bd_getD (bd_snoc hb hin) (r.length - D)); omega
          · omega
        · simp only
          rw [hr, if_pos hin, hll, hc']
        · show ouS D nu de ba l.length cap l (r ++ [l[r.length] + x], c') = _
          rw [ouS_ne hne, hll]
      have hwi : IntKind.wrap .i64 ((r.length : Int) + 1) = ((r.length + 1 : Nat) : Int) := by rw [w64 (by omega) (by omega)]; omega
      have hat := vi_at' r (l[r.length] + x) r.length (by omega)
      rw [getD_last] at hat
      have hwd : D ≤ r.length → IntKind.wrap .i64 ((r.length : Int) - (D : Int)) = ((r.length - D : Nat) : Int) := fun _ => by rw [w64 (by omega) (by omega)]; omega
      have hbad : ¬ ((-100000 : Int) ≤ l[r.length] + x ∧ l[r.length] + x ≤ 100000) → ouD (outs D (tk nu de ba) [] 0 l) = [.nil, dI 22] := fun hn => by rw [hr, if_neg hn]; rfl
      cases r with
      | nil =>
        show rOu0 _ _ D nu de ba x l.length cap (vi l) (0 : Int) _ _ _
        rw [rOu0_text]
        simp only [List.length_nil, Nat.zero_add, List.nil_append] at h hli hr hy hlt h0 hl1 hll kB hwi hat hwd hbad
        have e0 : [vI (l[0] + x)] = vi [l[0] + x] := rfl
        have h1' : (0 : Int) < ((1 : Nat) : Int) := by omega
        have a0 : At (vi l) (0 + Int.toNat 0 * 1) 1 [vI l[0]] := vi_at l 0 h
        have a1 : At [vI (l[0] + x)] (0 + Int.toNat 0 * 1) 1 [vI (l[0] + x)] := hat
        simp only [bc_t (show (0 : Int) < (l.length : Int) by omega), bc_t (show (0 : Int) ≤ 0 by omega), at1 a0, hy, bc_t (show (0 : Int) < 1 by omega), at1 a1, eq_self, true_and, and_true]
        refine ⟨_, wit_rng, ?_⟩
        refine bc_bne (fun hc => ?_) (fun hc => ?_)
        · have hn : ¬ ((-100000 : Int) ≤ l[0] + x ∧ l[0] + x ≤ 100000) := fun hin => hc ((rngE0 (by decide)).2 hin)
          show [Abs.D.nil, dI (rngE (-100000) 100000 22 _)] = _
          rw [hbad hn, rngE_no hn]
        · have hin := (rngE0 (by decide)).1 hc
          refine bc_dec (fun hge => ?_) (fun hge => ?_)
          · have hD0 : D = 0 := by omega
            subst hD0
            have hw0 : IntKind.wrap .i64 ((0 : Int) - ((0 : Nat) : Int)) = 0 := by rw [w64 (by omega) (by omega)]; omega
            simp only [hw0, bc_t (show (0 : Int) ≤ 0 by omega), bc_t (show (0 : Int) < 1 by omega), at1 a1, eq_self, true_and, and_true]
            refine ⟨_, ⟨conTk hm hin⟩, ?_⟩
            have ht := tk_bd hm hin
            have hww : IntKind.wrap .i64 (x - tk nu de ba (l[0] + x)) = x - tk nu de ba (l[0] + x) := w64 (by omega) (by omega)
            rw [hww]
            exact kB _ hin (fun s b hh => hh) (x - tk nu de ba (l[0] + x)) (by rw [if_pos (Nat.le_refl 0)]; rfl)
          · exact kB _ hin (fun s b hh => hh) x (by rw [if_neg (by omega)]; omega)
      | cons z r =>
        generalize hrr : z :: r = R at *
        have hR : R ≠ [] := by rw [← hrr]; simp
        have hst : st ((R, x), cap) = (sOu (.slice (some ⟨1002, 0, none⟩) R.length R.length) x l.length cap (R.length : Int), [oM D nu de ba, oL, (1002, .sym (vi R) true 1), Q500 (vi l)]) := ouS_ne hR
        rw [hst]
        show rOu _ _ D nu de ba x l.length cap (vi l) R.length R.length (vi R) (R.length : Int) _ _ _
        rw [rOu_text]
        simp only [bc_t hlt, bc_t h0, Int.toNat_natCast, at1 (vi_at l R.length h), hy, vi_whole, vi_snoc, bc_t (show R.length < R.length + 1 by omega), bc_t (show (2 * (R.length + 1) + 768) * 8 ≤ 281474976710656 by omega), bc_t (show R.length + 1 ≤ 1099511627776 by omega), bc_t (show 0 + R.length * 1 ≤ (vi R).length by simp), bc_t (show 0 + R.length * 1 = (vi R).length by simp), bc_t hl1, at1 hat, eq_self, true_and, and_true]
        refine ⟨_, wit_rng, ?_⟩
        refine bc_bne (fun hc => ?_) (fun hc => ?_)
        · have hn : ¬ ((-100000 : Int) ≤ l[R.length] + x ∧ l[R.length] + x ≤ 100000) := fun hin => hc ((rngE0 (by decide)).2 hin)
          show [Abs.D.nil, dI (rngE (-100000) 100000 22 _)] = _
          rw [hbad hn, rngE_no hn]
        · have hin := (rngE0 (by decide)).1 hc
          refine bc_dec (fun hge => ?_) (fun hge => ?_)
          · have hDl : D ≤ R.length := by omega
            have hat2 := vi_at' R (l[R.length] + x) (R.length - D) (by omega)
            simp only [hwd hDl, Int.toNat_natCast, bc_t (show (0 : Int) ≤ ((R.length - D : Nat) : Int) by omega), bc_t (show ((R.length - D : Nat) : Int) < ((R.length + 1 : Nat) : Int) by omega), at1 hat2, eq_self, true_and, and_true]
            have hbb := bd_getD (bd_snoc hb hin) (R.length - D)
            refine ⟨_, ⟨conTk hm hbb⟩, ?_⟩
            have ht := tk_bd hm hbb
            rw [w64 (z := x - _) (by omega) (by omega), hwi]
            exact kB _ hin (fun s b hh => hh) _ (by rw [if_pos hDl])
          · rw [hwi]
            exact kB _ hin (fun s b hh => hh) x (by rw [if_neg (by omega)]; omega)
    · have he : r.length = l.length := by omega
      rw [he, List.drop_length, outs] at hr
      cases r with
      | nil =>
        show rOu0 _ _ D nu de ba x l.length cap (vi l) (0 : Int) _ _ _
        rw [rOu0_text]
        rw [bc_f (show ¬ (0 : Int) < (l.length : Int) by simp at he; omega)]
        show (if 0 = 0 then _ else _)
        rw [if_pos rfl]
        show nOu0 _ _ _
        rw [nOu0_text]
        show [Abs.D.nil, dI 0] = ouD _
        rw [hr]; rfl
      | cons z r =>
        generalize hrr : z :: r = R at *
        have hR : R ≠ [] := by rw [← hrr]; simp
        have hst : st ((R, x), cap) = (sOu (.slice (some ⟨1002, 0, none⟩) R.length R.length) x l.length cap (R.length : Int), [oM D nu de ba, oL, (1002, .sym (vi R) true 1), Q500 (vi l)]) := ouS_ne hR
        rw [hst]
        show rOu _ _ D nu de ba x l.length cap (vi l) R.length R.length (vi R) (R.length : Int) _ _ _
        rw [rOu_text, bc_f (show ¬ (R.length : Int) < (l.length : Int) by omega)]
        show (if 0 = 0 then _ else _)
        rw [if_pos rfl]
        show nOu _ _ R.length R.length (vi R) _
        rw [nOu_text]
        refine ⟨⟨rfl, by simp⟩, ?_⟩
        show [Abs.D.sl _ _ _, dI 0] = ouD _
        rw [hr, ouD, dN_ne hR]
end Go.Proofs.G5b

/- Chapter 5: a number repeated, numbers in a range, in data. -/
namespace Go.Proofs.G5b
open Go Go.Abs Go.Proofs Go.Proofs.G5
set_option maxRecDepth 100000
theorem conRe (x : Int) : C5 63 [.sl 1 1 [vI x], dI 501] [.sl 501 1 (vi (List.replicate 501 x))] := by
  refine con_walk hokE mixed (u := 12) (by decide) Try.func63 rfl (by show 1 ≤ 400; omega) (fun caps => ?_)
  show fRe _ (caps 500) x _
  rw [fRe_text]
  simp only [eq_self, true_and, and_true]
  rfl
end Go.Proofs.G5b
