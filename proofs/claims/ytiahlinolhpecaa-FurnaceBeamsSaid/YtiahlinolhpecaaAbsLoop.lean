/- Loops of a function: by their bodies and what follows them. -/
import Derived.Test.YtiahlinolhpecaaAbsCon4
namespace Go.Abs
open Go.RowKit
variable {P : Program} {ρ : Ren} {w0 w : World} {H : Heap} {h : Handler} {L : AtLoop} {sz : Nat}

theorem findLoop_ids : ∀ (c : Code) (l : Lv) (id : Nat) {r : Code × Lv}, findLoop c l id = some r → id ∈ loopIds c := by
  intro c
  induction c with
  | seq x y ihx ihy =>
    intro l id r hr
    simp only [findLoop] at hr
    simp only [loopIds, List.mem_append]
    rcases Option.or_eq_some_iff.1 hr with h | ⟨_, h⟩
    · exact .inl (ihx _ _ h)
    · exact .inr (ihy _ _ h)
  | cond c x y ihx ihy =>
    intro l id r hr
    simp only [findLoop] at hr
    simp only [loopIds, List.mem_append]
    rcases Option.or_eq_some_iff.1 hr with h | ⟨_, h⟩
    · exact .inl (ihx _ _ h)
    · exact .inr (ihy _ _ h)
  | block i b ih =>
    intro l id r hr
    simp only [findLoop] at hr
    simp only [loopIds]
    split at hr
    · rename_i hlp
      split at hr
      · rename_i e; simp [hlp, e]
      · cases hr
    · rename_i hlp
      rw [if_neg hlp]
      exact ih _ _ hr
  | _ => intro l id r hr; simp [findLoop] at hr
theorem findLoop_some : ∀ (c : Code) (l : Lv) (id : Nat), id ∈ loopIds c → (findLoop c l id).isSome = true := by
  intro c
  induction c with
  | seq x y ihx ihy =>
    intro l id hi
    simp only [loopIds, List.mem_append] at hi
    simp only [findLoop, Option.isSome_or, Bool.or_eq_true]
    exact hi.imp (ihx _ _) (ihy _ _)
  | cond c x y ihx ihy =>
    intro l id hi
    simp only [loopIds, List.mem_append] at hi
    simp only [findLoop, Option.isSome_or, Bool.or_eq_true]
    exact hi.imp (ihx _ _) (ihy _ _)
  | block i b ih =>
    intro l id hi
    simp only [loopIds] at hi
    simp only [findLoop]
    split
    · rename_i hlp
      simp only [hlp, if_true, List.mem_singleton] at hi
      subst hi
      cases b <;> simp [isLoop] at hlp ⊢
    · rename_i hlp
      simp only [hlp] at hi
      exact ih _ _ (by simpa using hi)
  | _ => intro l id hi; simp [loopIds] at hi

/-- It is enough to look at each loop by its number. -/
theorem loopsOK_of : ∀ (c : Code) {l : Lv} {K : Cont}, nodupB (loopIds c) = true → (∀ id body l', findLoop c l id = some (body, l') → ∀ s bl, L id s bl → Holds P false sz (.block id (.loop body)) (actOf sz s) (heapOf bl) (fun e A H => wpAfter P h L c l id e A H K)) → loopsOK P h L sz c l K := by
  intro c
  induction c with
  | seq x y ihx ihy =>
    intro l K hn hl
    have hn' := nodupB_spec hn
    simp only [loopIds] at hn'
    obtain ⟨n1, n2, n3⟩ := List.nodup_append.1 hn'
    have toB : ∀ {l : List Nat}, l.Nodup → nodupB l = true := by
      intro l hl
      induction l with
      | nil => rfl
      | cons a l ih => simp only [List.nodup_cons] at hl; simp only [nodupB, Bool.and_eq_true, Bool.not_eq_true']; exact ⟨by simpa using hl.1, ih hl.2⟩
    refine ⟨ihx (toB n1) (fun id body l' hf s bl hs => ?_), ihy (toB n2) (fun id body l' hf s bl hs => ?_)⟩
    · have := hl id body l' (by simp only [findLoop]; rw [hf]; rfl) s bl hs
      simpa only [wpAfter, hf, Option.isSome_some, if_true] using this
    · have hx : findLoop x { l with normal := liveIn y l } id = none := by
        cases hx : findLoop x { l with normal := liveIn y l } id with
        | none => rfl
        | some r => exact absurd rfl (n3 id (findLoop_ids x _ id hx) id (findLoop_ids y _ id hf))
      have := hl id body l' (by simp only [findLoop]; rw [hx]; exact hf) s bl hs
      simpa only [wpAfter, hx, Option.isSome_none, Bool.false_eq_true, if_false] using this
  | cond c x y ihx ihy =>
    intro l K hn hl
    have hn' := nodupB_spec hn
    simp only [loopIds] at hn'
    obtain ⟨n1, n2, n3⟩ := List.nodup_append.1 hn'
    have toB : ∀ {l : List Nat}, l.Nodup → nodupB l = true := by
      intro l hl
      induction l with
      | nil => rfl
      | cons a l ih => simp only [List.nodup_cons] at hl; simp only [nodupB, Bool.and_eq_true, Bool.not_eq_true']; exact ⟨by simpa using hl.1, ih hl.2⟩
    refine ⟨ihx (toB n1) (fun id body l' hf s bl hs => ?_), ihy (toB n2) (fun id body l' hf s bl hs => ?_)⟩
    · have := hl id body l' (by simp only [findLoop]; rw [hf]; rfl) s bl hs
      simpa only [wpAfter, hf, Option.isSome_some, if_true] using this
    · have hx : findLoop x l id = none := by
        cases hx : findLoop x l id with
        | none => rfl
        | some r => exact absurd rfl (n3 id (findLoop_ids x _ id hx) id (findLoop_ids y _ id hf))
      have := hl id body l' (by simp only [findLoop]; rw [hx]; exact hf) s bl hs
      simpa only [wpAfter, hx, Option.isSome_none, Bool.false_eq_true, if_false] using this
  | block i b ih =>
    intro l K hn hl
    simp only [loopsOK]
    split
    · rename_i hlp
      intro s bl hs
      cases b with
      | loop body =>
        have := hl i body _ (by simp [findLoop, isLoop]; rfl) s bl hs
        simpa only [wpAfter, isLoop, if_true] using this
      | _ => simp [isLoop] at hlp
    · rename_i hlp
      refine ih (by simpa [loopIds, hlp] using hn) (fun id body l' hf s bl hs => ?_)
      have := hl id body l' (by simp only [findLoop]; rw [if_neg hlp]; exact hf) s bl hs
      simpa only [wpAfter, hlp, Bool.false_eq_true, if_false] using this
  | _ => intro l K _ _; trivial

/-- What returns from within goes on as a return. -/
theorem wpAfter_ret : ∀ (c : Code) {l : Lv} {id : Nat} {A : AAct} {H : Heap} {K : Cont}, (findLoop c l id).isSome = true → K .ret A H → wpAfter P h L c l id .ret A H K := by
  intro c
  induction c with
  | seq x y ihx ihy =>
    intro l id A H K hf hk
    simp only [wpAfter]
    split
    · rename_i hx; exact ihx hx hk
    · rename_i hx
      refine ihy ?_ hk
      simp only [findLoop, Option.isSome_or, Bool.or_eq_true] at hf
      exact hf.resolve_left hx
  | cond c x y ihx ihy =>
    intro l id A H K hf hk
    simp only [wpAfter]
    split
    · rename_i hx; exact ihx hx hk
    · rename_i hx
      refine ihy ?_ hk
      simp only [findLoop, Option.isSome_or, Bool.or_eq_true] at hf
      exact hf.resolve_left hx
  | block i b ih =>
    intro l id A H K hf hk
    simp only [wpAfter]
    simp only [findLoop] at hf
    split
    · rename_i hlp
      simp only [hlp, if_true] at hf
      split
      · exact hk
      · rename_i hi; simp [hi] at hf
    · rename_i hlp
      simp only [hlp] at hf
      exact ih (by simpa using hf) hk
  | _ => intro l id A H K hf; simp [findLoop] at hf

/-- THE RULE OF A LOOP. st: its states, inv: what is known of them, m: what becomes less. -/
theorem loop_rule (hh : HandlerOK P h) (hmix : P.follows .mixedOrders = true) {X : Type} (st : X → Slots × Blocks) (inv : X → Prop) (m : X → Nat) {id : Nat} {body : Code} {l' : Lv} {k : Cont} {R : Cont}
    (hin : loopIds body = [])
    (hb : ∀ x, inv x → wpT P h L 0 body l' (actOf sz (st x).1) (heapOf (st x).2) (roundK body l' (fun s b => ∃ y, inv y ∧ m y < m x ∧ st y = (s, b)) (fun i s b => if i = id then k .normal (actOf sz s) (heapOf b) else k (.exit i) (actOf sz s) (heapOf b)) R))
    (hR : ∀ e A H, (e = .ret) → R e A H → k e A H) (hR2 : ∀ e A H, e ≠ .ret → e ≠ .normal → ¬ R e A H) :
    ∀ x, inv x → Holds P false sz (.block id (.loop body)) (actOf sz (st x).1) (heapOf (st x).2) k := by
  have lo : ∀ {K : Cont}, loopsOK P h L sz body l' K := fun {K} => loopsOK_of body (by rw [hin]; rfl) (fun i b l2 hf => by have := findLoop_ids _ _ _ hf; rw [hin] at this; cases this)
  have key : ∀ (N : Nat) (x : X), m x < N → inv x → ∀ (w0 : World) (ρ : Ren) (w : World) (a : Act) (n : Nat), Gam w0 ρ (heapOf (st x).2) w → ActR ρ (actOf sz (st x).1) a →
      body.wpIn (Fr none) n P (Exit.then (LoopIn body (Fr none) n P (fun e a w => ∀ (ρ0 : Ren) (H0 : Heap), Post w0 ρ0 H0 false sz (fun e A H => match e with | .exit i => if i = id then k .normal A H else k (.exit i) A H | e => k e A H) e a w)) (fun e a w => ∀ (ρ0 : Ren) (H0 : Heap), Post w0 ρ0 H0 false sz (fun e A H => match e with | .exit i => if i = id then k .normal A H else k (.exit i) A H | e => k e A H) e a w)) a w := by
    intro N
    induction N with
    | zero => intro x hx; omega
    | succ N ih =>
      intro x hx hinv w0 ρ w a n g ra
      refine wpIn_mono (wpT_sound hh hmix (b := false) (fun _ => rfl) body (hb x hinv) (fun _ => lo) w0 ρ w a n g ra rfl) ?_
      rintro e a1 w1 ⟨A1, H1, ρ1, k1, s1, ra1, g1, _⟩
      cases e with
      | normal =>
        simp only [roundK] at k1
        split at k1
        · rename_i hd
          obtain ⟨hgood, y, hy, hlt, he⟩ := bcase_out k1
          obtain ⟨g2, ra2⟩ := gc_sub g1 ra1 hd (keep := _) hgood
          have e1 : (st y).1 = _ := congrArg Prod.fst he
          have e2 : (st y).2 = _ := congrArg Prod.snd he
          exact loopIn_once (ih y (by omega) hy w0 _ w1 a1 n (by rw [e2]; exact g2) (by rw [e1, ← s1]; exact ra2))
        · cases k1
      | exit i =>
        simp only [roundK] at k1
        split at k1
        · rename_i hd
          obtain ⟨hgood, k1⟩ := bcase_out k1
          obtain ⟨g2, ra2⟩ := gc_sub g1 ra1 hd (keep := _) hgood
          intro ρ0 H0
          refine ⟨_, _, _, k1, ?_, by rw [← s1]; exact ra2, g2, fun h => by cases h⟩
          rfl
        · cases k1
      | ret =>
        intro ρ0 H0
        exact ⟨A1, H1, ρ1, hR _ _ _ rfl k1, s1, ra1, g1, fun h => by cases h⟩
      | goto t => exact absurd k1 (hR2 _ _ _ (by simp) (by simp))
      | panic ch => exact absurd k1 (hR2 _ _ _ (by simp) (by simp))
      | outgrown => exact absurd k1 (hR2 _ _ _ (by simp) (by simp))
  intro x hinv w0 ρ w a n g ra hs
  refine wpIn_block (wpIn_mono (wpIn_loop_once (key _ x (Nat.lt_succ_self _) hinv w0 ρ w a n g ra)) ?_)
  intro e a1 w1 hp
  obtain ⟨A1, H1, ρ1, k1, s1, ra1, g1, _⟩ := hp ρ (heapOf (st x).2)
  cases e with
  | exit i =>
    simp only at k1
    by_cases hi : i = id
    · simp only [hi, if_true] at k1
      simp only [Exit.inBlock, hi, if_true]
      exact ⟨A1, H1, ρ1, k1, s1, ra1, g1, fun h => by cases h⟩
    · simp only [hi, if_false] at k1
      simp only [Exit.inBlock, hi, if_false]
      exact ⟨A1, H1, ρ1, k1, s1, ra1, g1, fun h => by cases h⟩
  | _ => exact ⟨A1, H1, ρ1, k1, s1, ra1, g1, fun h => by cases h⟩

/-- A loop of a function, with its states, what is known of them, and what becomes less. -/
structure LoopGood (P : Program) (h : Handler) (L : AtLoop) (f : FuncId) (c : Code) (lv : Lv) (id : Nat) (k : List D → Prop) (X : Type) (st : X → Slots × Blocks) (inv : X → Prop) (m : X → Nat) : Prop where
  head : ∀ s b, L id s b → ∃ x, inv x ∧ st x = (s, b)
  flat : ((findLoop c lv id).map fun r => loopIds r.1) = some []
  round : ∀ x, inv x → wpRound P h L f id (st x).1 (st x).2 (fun s b => ∃ y, inv y ∧ m y < m x ∧ st y = (s, b))
    (fun i s b => if i = id then wpNext P h L f id .normal s b (dataK k) else wpNext P h L f id (.exit i) s b (dataK k)) (dataK k)

/-- A FUNCTION IS PROVED: by what is left to show of its entry and of its loops. -/
theorem con_of (hh : HandlerOK P h) (hmix : P.follows .mixedOrders = true) {L : AtLoop} {f : FuncId} {fn : Func} {c : Code} (hf : P.funcs[f]? = some fn) (hc : fn.body = some c) {ds rs : List D} (hcount : countV ds ≤ 500) (hsz : ds.length = fn.params.size) {ids : List Nat} (hids : loopIds c = ids) (hn : nodupB ids = true)
    (hk : ∀ caps, wpFn P h L 0 f (layVals caps 500 ds).1.toArray (heapOf (layVals caps 500 ds).2) (dataK (· = rs)))
    (hl : ∀ id ∈ ids, ∃ X st inv m, LoopGood P h L f c (fnLv fn) id (· = rs) X st inv m) : Con P f ds rs := by
  subst hids
  refine con_intro hh hmix hf hc hcount hsz hk (loopsOK_of c hn ?_)
  intro id body l' hfl s bl hs
  obtain ⟨X, st, inv, m, hg⟩ := hl id (findLoop_ids c _ id hfl)
  obtain ⟨x, hx, he⟩ := hg.head s bl hs
  have e1 : (st x).1 = s := congrArg Prod.fst he
  have e2 : (st x).2 = bl := congrArg Prod.snd he
  have hin : loopIds body = [] := by have := hg.flat; rw [hfl] at this; simpa using this
  have := loop_rule (P := P) (h := h) (L := L) (sz := fnSize fn) hh hmix st inv m (id := id) (body := body) (l' := l') (k := fun e A H => wpAfter P h L c (fnLv fn) id e A H (fnK P fn (dataK (· = rs)))) (R := fnK P fn (dataK (· = rs))) hin
    (fun x hx => by
      have := hg.round x hx
      unfold wpRound at this
      simp only [hf, hc, hfl] at this
      have e : ∀ i s b, (if i = id then wpNext P h L f id .normal s b (dataK (· = rs)) else wpNext P h L f id (.exit i) s b (dataK (· = rs))) = (if i = id then wpAfter P h L c (fnLv fn) id .normal (actOf (fnSize fn) s) (heapOf b) (fnK P fn (dataK (· = rs))) else wpAfter P h L c (fnLv fn) id (.exit i) (actOf (fnSize fn) s) (heapOf b) (fnK P fn (dataK (· = rs)))) := by
        intro i s b
        simp only [wpNext, hf, hc]
      simpa only [e] using this)
    (fun e A H he hR => by subst he; exact wpAfter_ret c (by rw [hfl]; rfl) hR)
    (fun e A H h1 h2 hR => by cases e <;> first | exact h1 rfl | exact h2 rfl | exact hR)
    x hx
  rw [e1, e2] at this
  exact this
/-- A function without loops. -/
theorem con_flat (hh : HandlerOK P h) (hmix : P.follows .mixedOrders = true) {f : FuncId} {fn : Func} {c : Code} (hf : P.funcs[f]? = some fn) (hc : fn.body = some c) {ds rs : List D} (hcount : countV ds ≤ 500) (hsz : ds.length = fn.params.size) (hn : loopIds c = [])
    (hk : ∀ caps, wpFn P h (fun _ _ _ => False) 0 f (layVals caps 500 ds).1.toArray (heapOf (layVals caps 500 ds).2) (dataK (· = rs))) : Con P f ds rs :=
  con_of hh hmix hf hc hcount hsz hn rfl hk (fun id hid => by cases hid)
end Go.Abs
