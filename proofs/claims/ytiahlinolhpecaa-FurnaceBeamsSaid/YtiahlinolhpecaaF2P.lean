/- Tables: points as cells; contracts of the small functions. -/
import Derived.Test.YtiahlinolhpecaaF2H
import Derived.Test.YtiahlinolhpecaaF2C2
namespace Go.Abs
theorem bc_t {p : Prop} [Decidable p] {x y : Prop} (h : p) : bcase (decide p) x y = x := by rw [decide_eq_true h]; rfl
theorem bc_f {p : Prop} [Decidable p] {x y : Prop} (h : ¬ p) : bcase (decide p) x y = y := by rw [decide_eq_false h]; rfl
/-- pairs of whole numbers as cells -/
def vp : List (Int × Int) → List Value
  | [] => []
  | p :: r => .int .i64 p.1 :: .int .i64 p.2 :: vp r
@[simp] theorem vp_length : ∀ l : List (Int × Int), (vp l).length = l.length * 2
  | [] => rfl
  | p :: r => by simp only [vp, List.length_cons, vp_length r]; omega
theorem vp_drop : ∀ (l : List (Int × Int)) (i : Nat), (vp l).drop (i * 2) = vp (l.drop i)
  | l, 0 => by simp
  | [], i + 1 => by simp [vp]
  | p :: r, i + 1 => by
    rw [Nat.add_mul]
    simp only [vp, Nat.one_mul, List.drop_succ_cons]
    exact vp_drop r i
theorem vp_two (l : List (Int × Int)) (i : Nat) (h : i < l.length) : At (vp l) (0 + i * 2) 2 [.int .i64 l[i].1, .int .i64 l[i].2] := by
  refine ⟨by rw [vp_length]; omega, ?_⟩
  rw [Nat.zero_add, vp_drop, List.drop_eq_getElem_cons h]
  rfl
theorem vp_one (l : List (Int × Int)) (i : Nat) (h : i < l.length) : At (vp l) (0 + i * 2) 1 [.int .i64 l[i].1] := by
  refine ⟨by rw [vp_length]; omega, ?_⟩
  rw [Nat.zero_add, vp_drop, List.drop_eq_getElem_cons h]
  rfl
theorem vp_snd (l : List (Int × Int)) (i : Nat) (h : i < l.length) : At (vp l) (0 + i * 2 + 1) 1 [.int .i64 l[i].2] := by
  refine ⟨by rw [vp_length]; omega, ?_⟩
  rw [Nat.zero_add, ← List.drop_drop, vp_drop, List.drop_eq_getElem_cons h]
  rfl
theorem vp_whole (l : List (Int × Int)) : List.take (l.length * 2) (List.drop 0 (vp l)) = vp l := by simp [List.take_of_length_le]
theorem load2 {ps : List Value} {k : Nat} {a b : Int} (h : At ps k 2 [.int .i64 a, .int .i64 b]) : (∃ n5 : Int, ∃ n6 : Int, At ps k 2 [.int .i64 n5, .int .i64 n6] ∧ (Value.agg [.int .i64 n5, .int .i64 n6].toArray = Value.agg [.int .i64 a, .int .i64 b].toArray)) = True :=
  eq_true ⟨a, b, h, rfl⟩
end Go.Abs
namespace Go.Proofs
open Go Go.Abs
set_option maxRecDepth 100000
theorem hokT : HandlerOK Try.prog (hT (Con Try.prog)) := handlerN_ok mixed (fun _ _ _ h => h) (by decide) 5
theorem hokTS : HandlerOK Try.prog (hTS (Con Try.prog)) := handlerS_ok (fun _ _ _ h => h) hokT

/-- the first number that is not naught -/
def fst0 : List Int → Int
  | [] => 0
  | p :: r => if p = 0 then fst0 r else p
theorem con88 (l : List Int) (hlen : l.length < 1000000000) : Con Try.prog 88 [.sl l.length 1 (vi l)] [dI (fst0 l)] := by
  let inv : Nat × Nat → Prop := fun x => x.1 ≤ l.length ∧ fst0 l = fst0 (l.drop x.1)
  let st : Nat × Nat → Slots × Blocks := fun x => (s88 l.length x.2 x.1, [(500, .sym (vi l) false 1)])
  refine con_of (L := fun _ s b => ∃ x, inv x ∧ st x = (s, b)) hokT mixed Try.func88 rfl (by show 1 ≤ 500; omega) rfl (ids := [0]) (by kernel_rfl) rfl (fun caps => ?_) (fun id hid => ?_)
  · show g88 _ _ l.length (caps 500) (vi l) _
    rw [g88_text]
    exact ⟨(0, caps 500), ⟨by simp, rfl⟩, rfl⟩
  · obtain rfl := List.mem_singleton.1 hid
    refine ⟨Nat × Nat, st, inv, fun x => l.length - x.1, ⟨fun s b h => h, by kernel_rfl, ?_⟩⟩
    rintro ⟨i, cap⟩ ⟨hi, hr⟩
    simp only at hi hr
    show r88 _ _ l.length cap (vi l) i _ _ _
    rw [r88_text]
    refine bc_dec (fun h => ?_) (fun h => ?_)
    · have hi' : i < l.length := by omega
      rw [List.drop_eq_getElem_cons hi', fst0] at hr
      refine bc_yes (by omega) (bc_yes h ⟨l[i], vi_at l i hi', bc_bne (fun hc => ?_) (fun hc => ?_)⟩)
      · rw [if_neg hc] at hr
        show [dI l[i]] = [dI (fst0 l)]
        rw [hr]
      · rw [if_pos hc] at hr
        refine ⟨(i + 1, cap), ⟨by show i + 1 ≤ l.length; omega, hr⟩, by show l.length - (i + 1) < l.length - i; omega, ?_⟩
        rw [w64 (by omega) (by omega)]; rfl
    · show (if 0 = 0 then _ else _)
      rw [if_pos rfl]
      show n88 _ _ _
      rw [n88_text]
      have : i = l.length := by omega
      rw [this, List.drop_length] at hr
      show [dI 0] = [dI (fst0 l)]
      rw [hr]; rfl
/-- the error of a temperature -/
def tErr (a : Int) : Int := if 0 ≤ a ∧ a ≤ 20000 then 0 else 2
theorem con89 (a : Int) : Con Try.prog 89 [.sl 1 1 [.int .i64 a]] [dI (tErr a)] := by
  refine con_flat hokT mixed Try.func89 rfl (by show 1 ≤ 500; omega) rfl (by kernel_rfl) (fun caps => ?_)
  show g89 _ _ (caps 500) a _
  rw [g89_text]
  refine ⟨a, ⟨by simp, rfl⟩, bc_dec (fun h => ?_) (fun h1 => bc_dec (fun h => ?_) (fun h2 => ?_))⟩
  · show [dI 2] = _; rw [tErr, if_neg (by omega)]
  · show [dI 2] = _; rw [tErr, if_neg (by omega)]
  · show [dI 0] = _; rw [tErr, if_pos (by omega)]
/-- the error of a point after another one -/
def rise (q p : Int × Int) : Int := if p.1 ≤ q.1 ∨ p.2 < q.2 then 9 else if IntKind.wrap .i64 (p.2 - q.2) > IntKind.wrap .i64 (p.1 - q.1) then 22 else 0
theorem con91 (q p : Int × Int) : Con Try.prog 91 [.agg [dI q.1, dI q.2], .agg [dI p.1, dI p.2]] [dI (rise q p)] := by
  refine con_flat hokT mixed Try.func91 rfl (by show 0 ≤ 500; omega) rfl (by kernel_rfl) (fun caps => ?_)
  show g91 _ _ q.1 q.2 p.1 p.2 _
  rw [g91_text]
  refine bc_dec (fun h => ?_) (fun h1 => bc_dec (fun h => ?_) (fun h2 => bc_dec (fun h => ?_) (fun h3 => ?_)))
  · show [dI 9] = _; rw [rise, if_pos (by omega)]
  · show [dI 9] = _; rw [rise, if_pos (by omega)]
  · show [dI 22] = _; rw [rise, if_neg (by omega), if_pos h]
  · show [dI 0] = _; rw [rise, if_neg (by omega), if_neg h3]
/-- a table's check: what is left of it, the point before, the index -/
def tchk : List (Int × Int) → Option (Int × Int) → Int → List D
  | [], _, _ => [dI 0, dI 0]
  | p :: r, q, i => if tErr p.1 = 0 ∧ tErr p.2 = 0 then (match q with
    | none => tchk r (some p) (i + 1)
    | some q => if rise q p = 0 then tchk r (some p) (i + 1) else [dI i, dI (rise q p)]) else [dI i, dI 2]
theorem tchk_cons (p : Int × Int) (r : List (Int × Int)) (q : Option (Int × Int)) (i : Int) : tchk (p :: r) q i = if tErr p.1 = 0 ∧ tErr p.2 = 0 then (match q with
    | none => tchk r (some p) (i + 1)
    | some q => if rise q p = 0 then tchk r (some p) (i + 1) else [dI i, dI (rise q p)]) else [dI i, dI 2] := by cases q <;> rfl
def prev (ps : List (Int × Int)) : Nat → Option (Int × Int)
  | 0 => none
  | j + 1 => ps[j]?
def tabRes (ps : List (Int × Int)) : List D := if ps.length = 0 then [dI 0, dI 10] else if 10 < ps.length then [dI 0, dI 8] else tchk ps none 0
abbrev dTab (ps : List (Int × Int)) : D := .agg [.sl ps.length 2 (vp ps)]
theorem tErr0 {a : Int} : tErr a = 0 ↔ 0 ≤ a ∧ a ≤ 20000 := by unfold tErr; split <;> simp_all
theorem con19 (ps : List (Int × Int)) (hlen : ps.length < 1000000000) : Con Try.prog 19 [dTab ps] (tabRes ps) := by
  let inv : Nat × Nat → Prop := fun x => x.1 ≤ ps.length ∧ tabRes ps = tchk (ps.drop x.1) (prev ps x.1) x.1
  let st : Nat × Nat → Slots × Blocks := fun x => (s19 x.1, tb ps.length x.2 (vp ps))
  refine con_of (L := fun _ s b => ∃ x, inv x ∧ st x = (s, b)) hokT mixed Try.func19 rfl (by show 1 ≤ 500; omega) rfl (ids := [0]) (by kernel_rfl) rfl (fun caps => ?_) (fun id hid => ?_)
  · show g19 _ _ ps.length (caps 500) (vp ps) _
    rw [g19_text]
    refine bc_beq (fun h => ?_) (fun h0 => bc_dec (fun h => ?_) (fun h5 => ?_))
    · show _ = _; rw [tabRes, if_pos (by omega)]
    · show _ = _; rw [tabRes, if_neg (by omega), if_pos (by omega)]
    · exact ⟨(0, caps 500), ⟨by simp, by rw [tabRes, if_neg (by omega), if_neg (by omega)]; rfl⟩, rfl⟩
  · obtain rfl := List.mem_singleton.1 hid
    refine ⟨Nat × Nat, st, inv, fun x => ps.length - x.1, ⟨fun s b h => h, by kernel_rfl, ?_⟩⟩
    rintro ⟨i, cap⟩ ⟨hi, hr⟩
    simp only at hi hr
    show r19 _ _ ps.length cap (vp ps) i _ _ _
    rw [r19_text]
    refine bc_dec (fun h => ?_) (fun h => ?_)
    · have hi' : i < ps.length := by omega
      rw [List.drop_eq_getElem_cons hi', tchk_cons] at hr
      have bad : ¬ (tErr ps[i].1 = 0 ∧ tErr ps[i].2 = 0) → [dI i, dI 2] = tabRes ps := fun hb => by rw [hr, if_neg hb]
      refine bc_yes (by omega) (bc_yes h ⟨_, _, vp_two ps i hi', bc_dec (fun h1 => bc_dec (fun h2 => bc_dec (fun h3 => bc_dec (fun h4 => ?_) (fun h4 => bad ?_)) (fun h3 => bad ?_)) (fun h2 => bad ?_)) (fun h1 => bad ?_)⟩)
      · rw [if_pos ⟨tErr0.2 ⟨h1, h2⟩, tErr0.2 ⟨h3, h4⟩⟩] at hr
        cases i with
        | zero =>
          refine bc_true (by simp) ⟨(1, cap), ⟨by show 1 ≤ ps.length; omega, ?_⟩, by show ps.length - 1 < ps.length - 0; omega, ?_⟩
          · rw [hr]; simp only [prev, List.getElem?_eq_getElem hi']; rfl
          · rw [w64 (by omega) (by omega)]; rfl
        | succ j =>
          have hj : j < ps.length := by omega
          have hw : IntKind.wrap .i64 (((j + 1 : Nat) : Int) - 1) = (j : Int) := by rw [w64 (by omega) (by omega)]; omega
          have hp : prev ps (j + 1) = some ps[j] := List.getElem?_eq_getElem hj
          simp only [hp] at hr
          simp only [hw]
          refine bc_false (by simp; omega) (bc_yes (by omega) (bc_yes (by omega) ⟨_, _, vp_two ps j hj, bc_dec (fun h5 => ?_) (fun h5 => bc_dec (fun h6 => ?_) (fun h6 => bc_dec (fun h7 => ?_) (fun h7 => ?_)))⟩))
          · have e : rise ps[j] ps[j + 1] = 9 := by rw [rise, if_pos (.inl h5)]
            rw [e, if_neg (by omega)] at hr; exact hr.symm
          · have e : rise ps[j] ps[j + 1] = 9 := by rw [rise, if_pos (.inr h6)]
            rw [e, if_neg (by omega)] at hr; exact hr.symm
          · have e : rise ps[j] ps[j + 1] = 22 := by rw [rise, if_neg (by omega), if_pos h7]
            rw [e, if_neg (by omega)] at hr; exact hr.symm
          · have e : rise ps[j] ps[j + 1] = 0 := by rw [rise, if_neg (by omega), if_neg h7]
            rw [if_pos e] at hr
            refine ⟨(j + 1 + 1, cap), ⟨by show j + 1 + 1 ≤ ps.length; omega, ?_⟩, by show ps.length - (j + 1 + 1) < ps.length - (j + 1); omega, ?_⟩
            · rw [hr]; simp only [prev, List.getElem?_eq_getElem hi']; rfl
            · rw [w64 (by omega) (by omega)]; rfl
      all_goals (rw [tErr0, tErr0]; omega)
    · show (if 0 = 0 then _ else _)
      rw [if_pos rfl]
      show n19 _ _ _
      rw [n19_text]
      have : i = ps.length := by omega
      rw [this, List.drop_length] at hr
      exact hr.symm
end Go.Proofs
