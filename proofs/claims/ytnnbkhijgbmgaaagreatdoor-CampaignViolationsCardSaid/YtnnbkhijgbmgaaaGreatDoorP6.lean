/- Texts of the proof, put together: C1W, C1W2, C1W3, C1W4, C1W5, C1W6, C1U2, C1W7, AbsSameD, AbsXD, AbsSame, AbsX, C1U3, C1W8, C1W9. -/
import Derived.Test.YtnnbkhijgbmgaaaGreatDoorP5
import Derived.Test.YtnnbkhijgbmgaaaGreatDoorC1Awake
import Derived.Test.YtnnbkhijgbmgaaaGreatDoorP2
import Derived.Test.YtnnbkhijgbmgaaaGreatDoorP3
import Derived.KernelRfl
/- Contracts of chapter 1: rules, items, sequences. -/
namespace Go.Proofs.C1R
open Go Go.Abs Go.Proofs Go.Proofs.C1
set_option maxRecDepth 100000
theorem mixed : Tryz.prog.follows .mixedOrders = true := awake_mixed
theorem hok : HandlerOK Tryz.prog (hV (Con Tryz.prog)) := handlerN_ok mixed (fun _ _ _ h => h) (by decide) 6
abbrev dI (n : Int) : D := .val (.int .i64 n)
abbrev dB (b : Bool) : D := .val (.bool b)
abbrev dRu (r : Ru) : D := .agg [dI r.op, dI r.wu, dI r.wd, dI r.tj, dI r.hj, dI r.me, dI r.wp, dI r.tp, dI r.hp]
abbrev dIts (l : List It) : D := .sl l.length 4 (vq l)
abbrev dInts (l : List Int) : D := .sl l.length 1 (vi l)

theorem con20 (r : Ru) : Con Tryz.prog 20 [dRu r] [dI (ruE r)] := by
  refine con_flat hok mixed Tryz.func20 rfl (by show 0 ≤ 400; omega) rfl (by kernel_rfl) (fun caps => ?_)
  show g20 _ _ r.op r.wu r.wd r.tj r.hj r.me r.wp r.tp r.hp _
  rw [g20_text]
  unfold ruE
  repeat' first
    | refine bc_dec (fun _ => ?_) (fun _ => ?_)
    | (rw [if_pos (by unfold ruOk; omega)]; done)
    | (rw [if_neg (by unfold ruOk; omega)]; done)
theorem con21 (r : Ru) : Con Tryz.prog 21 [dRu r] [dI (ruE r)] := by
  refine con_flat hok mixed Tryz.func21 rfl (by show 0 ≤ 400; omega) rfl (by kernel_rfl) (fun caps => ?_)
  show g21 _ _ r.op r.wu r.wd r.tj r.hj r.me r.wp r.tp r.hp _
  rw [g21_text]
  unfold ruE
  repeat' first
    | refine bc_dec (fun _ => ?_) (fun _ => ?_)
    | (rw [if_pos (by unfold ruOk; omega)]; done)
    | (rw [if_neg (by unfold ruOk; omega)]; done)

theorem itsE_bad {l : List It} (h1 : l.length ≠ 0) (h2 : l.length ≤ 7) {x : It} (hx : x ∈ l) (hn : ¬ itOk x) : itsE l = 2 := by
  unfold itsE
  rw [if_neg h1, if_neg (by omega), if_neg (fun h => hn (h x hx))]
theorem itsE_good {l : List It} (h1 : l.length ≠ 0) (h2 : l.length ≤ 7) (h : ∀ j (hj : j < l.length), itOk l[j]) : itsE l = 0 := by
  unfold itsE
  rw [if_neg h1, if_neg (by omega), if_pos (fun x hx => by obtain ⟨j, hj, rfl⟩ := List.mem_iff_getElem.1 hx; exact h j hj)]

theorem con46 (l : List It) (hl : l.length ≤ 1000000) : Con Tryz.prog 46 [dIts l] [dI (itsE l)] := by
  let inv : Nat × Nat → Prop := fun x => x.1 ≤ l.length ∧ l.length ≠ 0 ∧ l.length ≤ 7 ∧ ∀ j (hj : j < l.length), j < x.1 → itOk l[j]
  let st : Nat × Nat → Slots × Blocks := fun x => (s46 l.length x.2 x.1, [I500 (vq l)])
  refine con_of (L := fun _ s b => ∃ x, inv x ∧ st x = (s, b)) hok mixed Tryz.func46 rfl (by show 1 ≤ 400; omega) rfl (ids := [0]) (by kernel_rfl) rfl (fun caps => ?_) (fun id hid => ?_)
  · show g46 _ _ l.length (caps 500) (vq l) _
    rw [g46_text]
    refine bc_beq (fun h => ?_) (fun h1 => bc_dec (fun h => ?_) (fun h2 => ?_))
    · unfold itsE; rw [if_pos (by omega)]
    · unfold itsE; rw [if_neg (by omega), if_pos (by omega)]
    · exact ⟨(0, caps 500), ⟨Nat.zero_le _, by omega, by omega, fun j _ hj => by omega⟩, rfl⟩
  · obtain rfl := List.mem_singleton.1 hid
    refine ⟨_, st, inv, fun x => l.length - x.1, ⟨fun s b h => h, by kernel_rfl, ?_⟩⟩
    rintro ⟨i, cap⟩ ⟨hi, h1, h2, hall⟩
    show r46 _ _ l.length cap (vq l) i _ _ _
    rw [r46_text]
    refine bc_dec (fun h => ?_) (fun h => ?_)
    · have hi' : i < l.length := by omega
      have hB : itOk l[i] → ∃ y, inv y ∧ l.length - y.1 < l.length - i ∧ st y = (s46 l.length cap (IntKind.wrap .i64 ((i : Int) + 1)), [I500 (vq l)]) := by
        intro hn
        refine ⟨(i + 1, cap), ⟨hi', h1, h2, fun j hj hc => ?_⟩, by show l.length - (i + 1) < l.length - i; omega, ?_⟩
        · by_cases e : j = i
          · subst e; exact hn
          · exact hall j hj (by simp only at hc; omega)
        · rw [w64 (by omega) (by omega)]; rfl
      have hF : ¬ itOk l[i] → [dI 2] = [dI (itsE l)] := fun hn => by rw [itsE_bad h1 h2 (List.getElem_mem hi') hn]
      unfold itOk at hB hF
      refine bc_yes (by omega) (bc_yes h ⟨_, vq_one l i hi', ?_⟩)
      refine bc_dec (fun _ => bc_dec (fun _ => ?_) (fun _ => hF (by omega))) (fun _ => hF (by omega))
      refine bc_yes (by omega) (bc_yes h ⟨_, vq_two l i hi', ?_⟩)
      refine bc_dec (fun _ => bc_dec (fun _ => ?_) (fun _ => hF (by omega))) (fun _ => hF (by omega))
      refine bc_yes (by omega) (bc_yes h ⟨_, vq_thr l i hi', ?_⟩)
      refine bc_dec (fun _ => bc_dec (fun _ => ?_) (fun _ => hF (by omega))) (fun _ => hF (by omega))
      refine bc_yes (by omega) (bc_yes h ⟨_, vq_last l i hi', ?_⟩)
      exact bc_dec (fun _ => bc_dec (fun _ => hB (by omega)) (fun _ => hF (by omega))) (fun _ => hF (by omega))
    · show (if 0 = 0 then _ else _)
      rw [if_pos rfl]
      show n46 _ _ _
      rw [n46_text, itsE_good h1 h2 (fun j hj => hall j hj (by show j < i; omega))]
theorem con85 (l : List It) (hl : l.length ≤ 1000000) : Con Tryz.prog 85 [dIts l] [dI (itsE l)] := by
  let inv : Nat × Nat → Prop := fun x => x.1 ≤ l.length ∧ l.length ≠ 0 ∧ l.length ≤ 7 ∧ ∀ j (hj : j < l.length), j < x.1 → itOk l[j]
  let st : Nat × Nat → Slots × Blocks := fun x => (s85 l.length x.2 x.1, [I500 (vq l)])
  refine con_of (L := fun _ s b => ∃ x, inv x ∧ st x = (s, b)) hok mixed Tryz.func85 rfl (by show 1 ≤ 400; omega) rfl (ids := [1]) (by kernel_rfl) rfl (fun caps => ?_) (fun id hid => ?_)
  · show g85 _ _ l.length (caps 500) (vq l) _
    rw [g85_text]
    refine bc_beq (fun h => ?_) (fun h1 => bc_dec (fun h => ?_) (fun h2 => ?_))
    · unfold itsE; rw [if_pos (by omega)]
    · unfold itsE; rw [if_neg (by omega), if_pos (by omega)]
    · exact ⟨(0, caps 500), ⟨Nat.zero_le _, by omega, by omega, fun j _ hj => by omega⟩, rfl⟩
  · obtain rfl := List.mem_singleton.1 hid
    refine ⟨_, st, inv, fun x => l.length - x.1, ⟨fun s b h => h, by kernel_rfl, ?_⟩⟩
    rintro ⟨i, cap⟩ ⟨hi, h1, h2, hall⟩
    show r85 _ _ l.length cap (vq l) i _ _ _
    rw [r85_text]
    refine bc_dec (fun h => ?_) (fun h => ?_)
    · have hi' : i < l.length := by omega
      have hB : itOk l[i] → ∃ y, inv y ∧ l.length - y.1 < l.length - i ∧ st y = (s85 l.length cap (IntKind.wrap .i64 ((i : Int) + 1)), [I500 (vq l)]) := by
        intro hn
        refine ⟨(i + 1, cap), ⟨hi', h1, h2, fun j hj hc => ?_⟩, by show l.length - (i + 1) < l.length - i; omega, ?_⟩
        · by_cases e : j = i
          · subst e; exact hn
          · exact hall j hj (by simp only at hc; omega)
        · rw [w64 (by omega) (by omega)]; rfl
      have hF : ¬ itOk l[i] → [dI 2] = [dI (itsE l)] := fun hn => by rw [itsE_bad h1 h2 (List.getElem_mem hi') hn]
      unfold itOk at hB hF
      refine bc_yes (by omega) (bc_yes h ⟨_, _, _, _, vq_four l i hi', ?_⟩)
      repeat' first
        | refine bc_dec (fun _ => ?_) (fun _ => ?_)
        | exact hB (by omega)
        | exact hF (by omega)
    · show (if 1 = 1 then _ else _)
      rw [if_pos rfl]
      show n85 _ _ _
      rw [n85_text, itsE_good h1 h2 (fun j hj => hall j hj (by show j < i; omega))]

/-- where a number lies in a list, counted from k -/
def ixOf (x : Int) : List Int → Nat → Int
  | [], _ => -1
  | y :: r, k => if x = y then k else ixOf x r (k + 1)
theorem ixOf_mem (x : Int) : ∀ (q : List Int) (k : Nat), 0 ≤ ixOf x q k ↔ x ∈ q
  | [], k => by simp [ixOf]
  | y :: r, k => by
    unfold ixOf
    split
    · rename_i e; simp [e]
    · rename_i e; rw [ixOf_mem x r (k + 1)]; simp [e]
theorem con92 (q : List Int) (x : Int) (hl : q.length ≤ 1000000) : Con Tryz.prog 92 [dInts q, dI x] [dI (ixOf x q 0)] := by
  let inv : Nat × Nat → Prop := fun y => y.1 ≤ q.length ∧ ixOf x q 0 = ixOf x (q.drop y.1) y.1
  let st : Nat × Nat → Slots × Blocks := fun y => (s92 q.length y.2 x y.1, [Q500 (vi q)])
  refine con_of (L := fun _ s b => ∃ x, inv x ∧ st x = (s, b)) hok mixed Tryz.func92 rfl (by show 1 ≤ 400; omega) rfl (ids := [0]) (by kernel_rfl) rfl (fun caps => ?_) (fun id hid => ?_)
  · show g92 _ _ q.length (caps 500) (vi q) x _
    rw [g92_text]
    exact ⟨(0, caps 500), ⟨Nat.zero_le _, rfl⟩, rfl⟩
  · obtain rfl := List.mem_singleton.1 hid
    refine ⟨_, st, inv, fun y => q.length - y.1, ⟨fun s b h => h, by kernel_rfl, ?_⟩⟩
    rintro ⟨i, cap⟩ ⟨hi, hr⟩
    show r92 _ _ q.length cap (vi q) x i _ _ _
    rw [r92_text]
    refine bc_dec (fun h => ?_) (fun h => ?_)
    · have hi' : i < q.length := by omega
      have hd : q.drop i = q[i] :: q.drop (i + 1) := List.drop_eq_getElem_cons hi'
      simp only at hr
      rw [hd, ixOf] at hr
      refine bc_yes (by omega) (bc_yes h ⟨q[i], vi_at q i hi', bc_beq (fun hc => ?_) (fun hc => ?_)⟩)
      · rw [if_pos hc] at hr; show [_] = [_]; rw [hr]
      · rw [if_neg hc] at hr
        refine ⟨(i + 1, cap), ⟨by show i + 1 ≤ q.length; omega, hr⟩, by show q.length - (i + 1) < q.length - i; omega, ?_⟩
        rw [w64 (by omega) (by omega)]; rfl
    · show (if 0 = 0 then _ else _)
      rw [if_pos rfl]
      show n92 _ _ _
      rw [n92_text]
      have : i = q.length := by simp only at hi; omega
      simp only at hr
      rw [this, List.drop_length] at hr
      show [_] = [_]; rw [hr]; rfl
theorem con69 (q : List Int) (x : Int) (hl : q.length ≤ 1000000) : Con Tryz.prog 69 [dInts q, dI x] [dB (decide (x ∈ q))] := by
  refine con_flat hok mixed Tryz.func69 rfl (by show 1 ≤ 400; omega) rfl (by kernel_rfl) (fun caps => ?_)
  show g69 _ _ q.length (caps 500) (vi q) x _
  rw [g69_text]
  refine bc_yes (by simp) ⟨_, ⟨by rw [vi_whole]; exact con92 q x hl⟩, bc_dec (fun h => ?_) (fun h => ?_)⟩
  · show [_] = [_]; rw [decide_eq_true ((ixOf_mem x q 0).1 h)]
  · show [_] = [_]; rw [decide_eq_false (fun hm => h ((ixOf_mem x q 0).2 hm))]
theorem con47 (q : List Int) (x : Int) (hl : q.length ≤ 1000000) : Con Tryz.prog 47 [dInts q, dI x] [dB (decide (x ∈ q))] := by
  let inv : Nat × Nat → Prop := fun y => y.1 ≤ q.length ∧ ((x ∈ q) ↔ x ∈ q.drop y.1)
  let st : Nat × Nat → Slots × Blocks := fun y => (s47 q.length y.2 x y.1, [Q500 (vi q)])
  refine con_of (L := fun _ s b => ∃ x, inv x ∧ st x = (s, b)) hok mixed Tryz.func47 rfl (by show 1 ≤ 400; omega) rfl (ids := [0]) (by kernel_rfl) rfl (fun caps => ?_) (fun id hid => ?_)
  · show g47 _ _ q.length (caps 500) (vi q) x _
    rw [g47_text]
    exact ⟨(0, caps 500), ⟨Nat.zero_le _, Iff.rfl⟩, rfl⟩
  · obtain rfl := List.mem_singleton.1 hid
    refine ⟨_, st, inv, fun y => q.length - y.1, ⟨fun s b h => h, by kernel_rfl, ?_⟩⟩
    rintro ⟨i, cap⟩ ⟨hi, hr⟩
    show r47 _ _ q.length cap (vi q) x i _ _ _
    rw [r47_text]
    refine bc_dec (fun h => ?_) (fun h => ?_)
    · have hi' : i < q.length := by omega
      have hd : q.drop i = q[i] :: q.drop (i + 1) := List.drop_eq_getElem_cons hi'
      simp only at hr
      rw [hd, List.mem_cons] at hr
      refine bc_yes (by omega) (bc_yes h ⟨q[i], vi_at q i hi', bc_beq (fun hc => ?_) (fun hc => ?_)⟩)
      · show [_] = [_]; rw [decide_eq_true (hr.2 (.inl hc.symm))]
      · refine ⟨(i + 1, cap), ⟨by show i + 1 ≤ q.length; omega, ?_⟩, by show q.length - (i + 1) < q.length - i; omega, ?_⟩
        · rw [hr]; exact ⟨fun h => h.resolve_left (fun e => hc e.symm), .inr⟩
        · rw [w64 (by omega) (by omega)]; rfl
    · show (if 0 = 0 then _ else _)
      rw [if_pos rfl]
      show n47 _ _ _
      rw [n47_text]
      have : i = q.length := by simp only at hi; omega
      simp only at hr
      rw [this, List.drop_length] at hr
      show [_] = [_]; rw [decide_eq_false (fun hm => by have := hr.1 hm; cases this)]
end Go.Proofs.C1R

/- Contracts of chapter 1: copies, sequences. -/
namespace Go.Proofs.C1R
open Go Go.Abs Go.Proofs Go.Proofs.C1
set_option maxRecDepth 100000
theorem con17 (l : List It) (hl : l.length ≤ 1000000) : Con Tryz.prog 17 [dIts l] [dIts l] := by
  refine con_flat hok mixed Tryz.func17 rfl (by show 1 ≤ 400; omega) rfl (by kernel_rfl) (fun caps => ?_)
  show g17 _ _ l.length (caps 500) (vq l) _
  rw [g17_text]
  refine bc_yes (by simp) (bc_beq (fun h => ⟨⟨rfl, rfl⟩, ?_⟩) (fun h => bc_yes (by omega) (bc_yes (by omega) (bc_yes (by omega) ⟨⟨rfl, ?_⟩, ?_⟩))))
  · have : l = [] := List.length_eq_zero_iff.1 h
    subst this; rfl
  · rw [vq_whole, Nat.zero_add]; simp
  · rw [vq_whole, Nat.zero_add]; rfl
theorem con18 (q : List Int) (hl : q.length ≤ 1000000) : Con Tryz.prog 18 [dInts q] [dInts q] := by
  refine con_flat hok mixed Tryz.func18 rfl (by show 1 ≤ 400; omega) rfl (by kernel_rfl) (fun caps => ?_)
  show g18 _ _ q.length (caps 500) (vi q) _
  rw [g18_text]
  refine bc_yes (by simp) (bc_beq (fun h => ⟨⟨rfl, rfl⟩, ?_⟩) (fun h => bc_yes (by omega) (bc_yes (by omega) (bc_yes (by omega) ⟨⟨rfl, ?_⟩, ?_⟩))))
  · have : q = [] := List.length_eq_zero_iff.1 h
    subst this; rfl
  · rw [vi_whole, Nat.zero_add]; simp
  · rw [vi_whole, Nat.zero_add]; rfl

theorem vi_pre (q : List Int) (i : Nat) : List.take ((i - 0) * 1) (List.drop 0 (vi q)) = vi (q.take i) := by
  simp [vi, List.map_take]
/-- what is wrong with the rest of a sequence -/
theorem con23 (l : List It) (q : List Int) (hl : l.length ≤ 1000000) (hq : q.length ≤ 1000000) : Con Tryz.prog 23 [dIts l, dInts q] [dI (seqE l.length [] q)] := by
  let inv : (Nat × Nat) × Nat → Prop := fun y => y.1.1 ≤ q.length ∧ q.length ≤ y.1.2 ∧ seqE l.length [] q = seqE l.length (q.take y.1.1) (q.drop y.1.1)
  let st : (Nat × Nat) × Nat → Slots × Blocks := fun y => (s23 l.length y.2 q.length y.1.2 y.1.1, [I500 (vq l), Q501 (vi q)])
  refine con_ofC (L := fun _ s b => ∃ x, inv x ∧ st x = (s, b)) hok mixed Tryz.func23 rfl (by show 2 ≤ 400; omega) rfl (ids := [0]) (by kernel_rfl) rfl (fun caps hcap => ?_) (fun id hid => ?_)
  · have hc2 : q.length ≤ caps 501 := hcap.2.1
    show g23 _ _ l.length (caps 500) (vq l) q.length (caps 501) (vi q) _
    rw [g23_text]
    exact ⟨((0, caps 501), caps 500), ⟨Nat.zero_le _, hc2, rfl⟩, rfl⟩
  · obtain rfl := List.mem_singleton.1 hid
    refine ⟨_, st, inv, fun y => q.length - y.1.1, ⟨fun s b h => h, by kernel_rfl, ?_⟩⟩
    rintro ⟨⟨i, cap2⟩, cap⟩ ⟨hi, hc2, hr⟩
    show r23 _ _ l.length cap (vq l) q.length cap2 (vi q) i _ _ _
    rw [r23_text]
    refine bc_dec (fun h => ?_) (fun h => ?_)
    · have hi' : i < q.length := by omega
      have hd : q.drop i = q[i] :: q.drop (i + 1) := List.drop_eq_getElem_cons hi'
      simp only at hr hc2 hi
      have hw : IntKind.wrap .i64 ((l.length : Int) - 1) = (l.length : Int) - 1 := w64 (by omega) (by omega)
      rw [hd, seqE] at hr
      rw [hw]
      refine bc_yes (by omega) (bc_yes h ⟨q[i], vi_at q i hi', bc_dec (fun h1 => bc_dec (fun h2 => ?_) (fun h2 => ?_)) (fun h1 => ?_)⟩)
      · rw [if_pos ⟨h1, h2⟩] at hr
        have same : ∀ (v : Value), bcase (decide (0 ≤ (i : Int))) (bcase (decide ((i : Int) < (q.length : Int))) (v = v) False) False := fun v => bc_yes (by omega) (bc_yes h rfl)
        have samec : ∀ (v : Value), bcase (decide (0 ≤ (i : Int))) (bcase (decide ((i : Int) ≤ (cap2 : Int))) (v = v) False) False := fun v => bc_yes (by omega) (bc_yes (by omega) rfl)
        refine bc_yes (by omega) (bc_yes (by omega) (bc_yes (by omega) (bc_yes h ⟨q[i], vi_at q i hi', ⟨⟨q[i], vi_at q i hi', rfl⟩, same _, rfl, rfl, samec _, rfl, rfl, trivial⟩, bc_yes (by simp; omega) ?_⟩)))
        have hcon : Con Tryz.prog 47 [.sl (i - 0) 1 (List.take ((i - 0) * 1) (List.drop 0 (vi q))), dI q[i]] [dB (decide (q[i] ∈ q.take i))] := by
          rw [vi_pre q i]
          have : Con Tryz.prog 47 [.sl (q.take i).length 1 (vi (q.take i)), dI q[i]] [dB (decide (q[i] ∈ q.take i))] := con47 (q.take i) q[i] (by simp; omega)
          rw [show (q.take i).length = i - 0 by simp; omega] at this
          exact this
        by_cases hm : q[i] ∈ q.take i
        · rw [if_pos hm] at hr
          rw [decide_eq_true hm] at hcon
          exact .inl ⟨⟨hcon⟩, ⟨same _, rfl, rfl, rfl, rfl, trivial⟩, by show [_] = [_]; rw [hr]⟩
        · rw [if_neg hm] at hr
          rw [decide_eq_false hm] at hcon
          refine .inr ⟨⟨hcon⟩, ⟨same _, rfl, rfl, rfl, rfl, trivial⟩, ⟨((i + 1, cap2), cap), ⟨by show i + 1 ≤ q.length; omega, hc2, ?_⟩, by show q.length - (i + 1) < q.length - i; omega, ?_⟩⟩
          · rw [hr, show q.take i ++ [q[i]] = q.take (i + 1) by simp]
          · rw [w64 (by omega) (by omega)]; rfl
      · rw [if_neg (fun n => h2 n.2)] at hr; show [_] = [_]; rw [hr]
      · rw [if_neg (fun n => h1 n.1)] at hr; show [_] = [_]; rw [hr]
    · show (if 0 = 0 then _ else _)
      rw [if_pos rfl]
      show n23 _ _ _
      rw [n23_text]
      have : i = q.length := by simp only at hi; omega
      simp only at hr
      rw [this, List.drop_length] at hr
      show [_] = [_]; rw [hr]; rfl
end Go.Proofs.C1R

/- Contracts of chapter 1: errors of rules and items together, the cost of a pair (the reference). -/
namespace Go.Proofs.C1R
open Go Go.Abs Go.Proofs Go.Proofs.C1
set_option maxRecDepth 100000
/-- the error of rules, or else of items -/
def bothE (r : Ru) (l : List It) : Int := if ruE r ≠ 0 then ruE r else itsE l
theorem con22 (r : Ru) (l : List It) (hl : l.length ≤ 1000000) : Con Tryz.prog 22 [dRu r, dIts l] [dI (bothE r l)] := by
  refine con_flat hok mixed Tryz.func22 rfl (by show 1 ≤ 400; omega) rfl (by kernel_rfl) (fun caps => ?_)
  show g22 _ _ r.op r.wu r.wd r.tj r.hj r.me r.wp r.tp r.hp l.length (caps 500) (vq l) _
  rw [g22_text]
  refine ⟨_, ⟨con20 r⟩, bc_bne (fun h => ?_) (fun h => bc_yes (by simp) ⟨_, ⟨by rw [vq_whole]; exact con46 l hl⟩, ?_⟩)⟩
  · show [_] = [_]; unfold bothE; rw [if_pos h]
  · show [_] = [_]; unfold bothE; rw [if_neg (by simpa using h)]
/-- the size of a number -/
def sz (a : Int) : Int := if a < 0 then -a else a
theorem sz_text {a : Int} (h1 : -9223372036854775807 ≤ a) (h2 : a ≤ 9223372036854775807) : (if IntKind.wrap .i64 (0 - a) > a then IntKind.wrap .i64 (0 - a) else a) = sz a := by
  rw [w64 (by omega) (by omega)]
  unfold sz
  by_cases h : a < 0
  · rw [if_pos (by omega), if_pos h]; omega
  · rw [if_neg h]; split <;> omega
theorem con91 (a : Int) (h1 : -9223372036854775807 ≤ a) (h2 : a ≤ 9223372036854775807) : Con Tryz.prog 91 [dI a] [dI (sz a)] := by
  refine con_flat hok mixed Tryz.func91 rfl (by show 0 ≤ 400; omega) rfl (by kernel_rfl) (fun caps => ?_)
  show g91 _ _ a _
  rw [g91_text, sz_text h1 h2]
theorem con48 (a : Int) (h1 : -9223372036854775807 ≤ a) (h2 : a ≤ 9223372036854775807) : Con Tryz.prog 48 [dI a] [dI (sz a)] := by
  refine con_flat hok mixed Tryz.func48 rfl (by show 0 ≤ 400; omega) rfl (by kernel_rfl) (fun caps => ?_)
  show g48 _ _ a _
  rw [g48_text, sz_text h1 h2]
abbrev dIt (x : It) : D := .agg [dI x.w, dI x.t, dI x.h, dI x.m]
/-- the cost of a pair -/
def pairE (r : Ru) (x y : It) : Int := r.wp * sz (x.w - y.w) + r.tp * sz (x.t - y.t) + r.hp * sz (x.h - y.h)
theorem price {a b n : Int} (h0 : 0 ≤ a) (h1 : a ≤ 10000) (h2 : -n ≤ b) (h3 : b ≤ n) : 0 ≤ a * sz b ∧ a * sz b ≤ 10000 * n := by
  have s0 : 0 ≤ sz b := by unfold sz; split <;> omega
  have s1 : sz b ≤ n := by unfold sz; split <;> omega
  exact ⟨Int.mul_nonneg h0 s0, Int.mul_le_mul h1 s1 s0 (by omega)⟩
theorem con49 {r : Ru} {x y : It} (hr : ruOk r) (hx : itOk x) (hy : itOk y) : Con Tryz.prog 49 [dRu r, dIt x, dIt y] [dI (pairE r x y)] := by
  refine con_flat hok mixed Tryz.func49 rfl (by show 0 ≤ 400; omega) rfl (by kernel_rfl) (fun caps => ?_)
  show g49 _ _ r.op r.wu r.wd r.tj r.hj r.me r.wp r.tp r.hp x.w x.t x.h x.m y.w y.t y.h y.m _
  rw [g49_text]
  have p1 := price (a := r.wp) (b := x.w - y.w) (n := 2000) (by omega) (by omega) (by omega) (by omega)
  have p2 := price (a := r.tp) (b := x.t - y.t) (n := 300000) (by omega) (by omega) (by omega) (by omega)
  have p3 := price (a := r.hp) (b := x.h - y.h) (n := 98) (by omega) (by omega) (by omega) (by omega)
  rw [w64 (z := x.w - y.w) (by omega) (by omega), w64 (z := x.t - y.t) (by omega) (by omega), w64 (z := x.h - y.h) (by omega) (by omega)]
  rw [sz_text (a := x.w - y.w) (by omega) (by omega), sz_text (a := x.t - y.t) (by omega) (by omega), sz_text (a := x.h - y.h) (by omega) (by omega)]
  repeat' apply And.intro
  all_goals first | rfl | trivial | skip
  show [_] = [_]
  rw [w64 (z := r.wp * sz (x.w - y.w)) (by omega) (by omega), w64 (z := r.tp * sz (x.t - y.t)) (by omega) (by omega), w64 (z := r.hp * sz (x.h - y.h)) (by omega) (by omega)]
  rw [w64 (z := r.wp * sz (x.w - y.w) + r.tp * sz (x.t - y.t)) (by omega) (by omega), w64 (by omega) (by omega)]
  rfl
end Go.Proofs.C1R

/- Contracts of chapter 1: the cost of a sequence (the reference). -/
namespace Go.Proofs.C1R
open Go Go.Abs Go.Proofs Go.Proofs.C1
set_option maxRecDepth 100000
abbrev itD : It := ⟨0, 0, 0, 0⟩
/-- the cost of a sequence -/
def costE (r : Ru) (l : List It) : List Int → Int
  | a :: b :: t => pairE r (l.getD a.toNat itD) (l.getD b.toNat itD) + costE r l (b :: t)
  | _ => 0
theorem pairE_le {r : Ru} {x y : It} (hr : ruOk r) (hx : itOk x) (hy : itOk y) : 0 ≤ pairE r x y ∧ pairE r x y ≤ 4000000000 := by
  have p1 := price (a := r.wp) (b := x.w - y.w) (n := 2000) (by omega) (by omega) (by omega) (by omega)
  have p2 := price (a := r.tp) (b := x.t - y.t) (n := 300000) (by omega) (by omega) (by omega) (by omega)
  have p3 := price (a := r.hp) (b := x.h - y.h) (n := 98) (by omega) (by omega) (by omega) (by omega)
  unfold pairE
  omega
structure SeqOk (l : List It) (q : List Int) : Prop where
  few : l.length ≤ 7
  fit : q.length ≤ 7
  its : ∀ j (hj : j < l.length), itOk l[j]
  ins : ∀ j (hj : j < q.length), 0 ≤ q[j] ∧ q[j] < (l.length : Int)
theorem con25 {r : Ru} {l : List It} {q : List Int} (hr : ruOk r) (hs : SeqOk l q) : Con Tryz.prog 25 [dRu r, dIts l, dInts q] [dI (costE r l q)] := by
  have hfew := hs.few
  have hfit := hs.fit
  let inv : (Nat × Int) × (Nat × Nat) → Prop := fun y => y.1.1 ≤ q.length ∧ 0 ≤ y.1.2 ∧ y.1.2 ≤ (y.1.1 : Int) * 4000000000 ∧ costE r l q = y.1.2 + costE r l (q.drop y.1.1)
  let st : (Nat × Int) × (Nat × Nat) → Slots × Blocks := fun y => (s25 l.length y.2.1 q.length y.2.2 y.1.2 ((y.1.1 + 1 : Nat) : Int), [I500 (vq l), Q501 (vi q), R1000 r.op r.wu r.wd r.tj r.hj r.me r.wp r.tp r.hp])
  refine con_of (L := fun _ s b => ∃ x, inv x ∧ st x = (s, b)) hok mixed Tryz.func25 rfl (by show 2 ≤ 400; omega) rfl (ids := [0]) (by kernel_rfl) rfl (fun caps => ?_) (fun id hid => ?_)
  · show g25 _ _ r.op r.wu r.wd r.tj r.hj r.me r.wp r.tp r.hp l.length (caps 500) (vq l) q.length (caps 501) (vi q) _
    rw [g25_text]
    exact ⟨((0, 0), (caps 500, caps 501)), ⟨Nat.zero_le _, Int.le_refl _, by simp, by simp⟩, rfl⟩
  · obtain rfl := List.mem_singleton.1 hid
    refine ⟨_, st, inv, fun y => q.length - y.1.1, ⟨fun s b h => h, by kernel_rfl, ?_⟩⟩
    rintro ⟨⟨p, x⟩, ⟨cap, cap2⟩⟩ ⟨hp, hx0, hx1, hc⟩
    show r25 _ _ r.op r.wu r.wd r.tj r.hj r.me r.wp r.tp r.hp l.length cap (vq l) q.length cap2 (vi q) x ((p + 1 : Nat) : Int) _ _ _
    rw [r25_text]
    simp only at hp hx0 hx1 hc
    have hw : IntKind.wrap .i64 (((p + 1 : Nat) : Int) - 1) = (p : Int) := by rw [w64 (by omega) (by omega)]; omega
    rw [hw]
    refine bc_dec (fun h => ?_) (fun h => ?_)
    · have h2 : p + 1 < q.length := by omega
      have h1 : p < q.length := by omega
      obtain ⟨a0, a1⟩ := hs.ins p h1
      obtain ⟨b0, b1⟩ := hs.ins (p + 1) h2
      have ha : q[p].toNat < l.length := by omega
      have hb : q[p + 1].toNat < l.length := by omega
      have hd1 : q.drop p = q[p] :: q.drop (p + 1) := List.drop_eq_getElem_cons h1
      have hd2 : q.drop (p + 1) = q[p + 1] :: q.drop (p + 2) := List.drop_eq_getElem_cons h2
      rw [hd1, hd2, costE, ← hd2] at hc
      have e1 : l.getD q[p].toNat itD = l[q[p].toNat] := by simp [List.getD_eq_getElem?_getD, ha]
      have e2 : l.getD q[p + 1].toNat itD = l[q[p + 1].toNat] := by simp [List.getD_eq_getElem?_getD, hb]
      rw [e1, e2] at hc
      have hpe := pairE_le hr (hs.its _ ha) (hs.its _ hb)
      refine bc_yes (by omega) (bc_yes (by omega) ⟨_, vi_at q p h1, bc_yes a0 (bc_yes a1 ⟨_, _, _, _, vq_four l _ ha, bc_yes (by omega) (bc_yes (by omega) ⟨_, vi_at q (p + 1) h2, bc_yes b0 (bc_yes b1 ⟨_, _, _, _, vq_four l _ hb, ?_, _, ⟨con49 (x := l[q[p].toNat]) (y := l[q[p + 1].toNat]) hr (hs.its _ ha) (hs.its _ hb)⟩, ?_, trivial, ?_⟩)⟩)⟩)⟩)
      · repeat' first
          | exact trivial
          | exact rfl
          | exact ⟨_, vi_at q p h1, rfl⟩
          | exact ⟨_, vi_at q (p + 1) h2, rfl⟩
          | exact ⟨_, _, _, _, vq_four l _ ha, rfl⟩
          | exact ⟨_, _, _, _, vq_four l _ hb, rfl⟩
          | exact bc_yes (by omega) (bc_yes (by omega) rfl)
          | apply And.intro
      · repeat' first
          | exact trivial
          | exact rfl
          | exact ⟨_, vi_at q p h1, rfl⟩
          | exact ⟨_, vi_at q (p + 1) h2, rfl⟩
          | exact bc_yes (by omega) (bc_yes (by omega) rfl)
          | apply And.intro
      · refine ⟨((p + 1, x + pairE r l[q[p].toNat] l[q[p + 1].toNat]), (cap, cap2)), ⟨by show p + 1 ≤ q.length; omega, by show 0 ≤ x + _; omega, by show x + _ ≤ ((p + 1 : Nat) : Int) * 4000000000; omega, ?_⟩, by show q.length - (p + 1) < q.length - p; omega, ?_⟩
        · show _ = x + _ + costE r l (q.drop (p + 1))
          omega
        · rw [w64 (z := x + pairE r l[q[p].toNat] l[q[p + 1].toNat]) (by omega) (by omega), w64 (by omega) (by omega)]; rfl
    · show (if 0 = 0 then _ else _)
      rw [if_pos rfl]
      show n25 _ _ x _
      rw [n25_text]
      have e : costE r l (q.drop p) = 0 := by
        have hlen : (q.drop p).length ≤ 1 := by simp; omega
        match hd : q.drop p with
        | [] => rfl
        | [_] => rfl
        | _ :: _ :: _ => rw [hd] at hlen; simp at hlen
      show [_] = [_]
      rw [hc, e, Int.add_zero]
end Go.Proofs.C1R

/- Contracts of chapter 1: the cost of two items. -/
namespace Go.Proofs.C1R
open Go Go.Abs Go.Proofs Go.Proofs.C1
set_option maxRecDepth 100000
abbrev dMix (r : Ru) (l : List It) : D := .agg [dI r.op, dI r.wu, dI r.wd, dI r.tj, dI r.hj, dI r.me, dI r.wp, dI r.tp, dI r.hp, dIts l]
theorem con68 {r : Ru} {l : List It} {x y : Int} (hr : ruOk r) (hi : ∀ j (hj : j < l.length), itOk l[j]) (x0 : 0 ≤ x) (x1 : x < (l.length : Int)) (y0 : 0 ≤ y) (y1 : y < (l.length : Int)) :
    Con Tryz.prog 68 [dMix r l, dI x, dI y] [dI (pairE r (l.getD x.toNat itD) (l.getD y.toNat itD))] := by
  refine con_flat hok mixed Tryz.func68 rfl (by show 1 ≤ 400; omega) rfl (by kernel_rfl) (fun caps => ?_)
  show g68 _ _ r.op r.wu r.wd r.tj r.hj r.me r.wp r.tp r.hp l.length (caps 500) (vq l) x y _
  rw [g68_text]
  have ha : x.toNat < l.length := by omega
  have hb : y.toNat < l.length := by omega
  have e1 : l.getD x.toNat itD = l[x.toNat] := by simp [List.getD_eq_getElem?_getD, ha]
  have e2 : l.getD y.toNat itD = l[y.toNat] := by simp [List.getD_eq_getElem?_getD, hb]
  rw [e1, e2]
  have hx := hi _ ha
  have hy := hi _ hb
  have f1 := vq_four l _ ha
  have f2 := vq_four l _ hb
  generalize l[x.toNat] = A at *
  generalize l[y.toNat] = B at *
  have p1 := price (a := r.wp) (b := A.w - B.w) (n := 2000) (by omega) (by omega) (by omega) (by omega)
  have p2 := price (a := r.tp) (b := A.t - B.t) (n := 300000) (by omega) (by omega) (by omega) (by omega)
  have p3 := price (a := r.hp) (b := A.h - B.h) (n := 98) (by omega) (by omega) (by omega) (by omega)
  have q1 := con91 (A.w - B.w) (by omega) (by omega)
  have q2 := con91 (A.t - B.t) (by omega) (by omega)
  have q3 := con91 (A.h - B.h) (by omega) (by omega)
  refine bc_yes x0 (bc_yes x1 ⟨_, _, _, _, f1, bc_yes y0 (bc_yes y1 ⟨_, _, _, _, f2, ?_⟩)⟩)
  rw [w64 (z := A.w - B.w) (by omega) (by omega), w64 (z := A.t - B.t) (by omega) (by omega), w64 (z := A.h - B.h) (by omega) (by omega)]
  repeat' first
    | exact trivial
    | exact rfl
    | exact ⟨_, _, _, _, f1, rfl⟩
    | exact ⟨_, _, _, _, f2, rfl⟩
    | exact bc_yes (by omega) (bc_yes (by omega) rfl)
    | refine ⟨_, ⟨q1⟩, ?_⟩
    | refine ⟨_, ⟨q2⟩, ?_⟩
    | refine ⟨_, ⟨q3⟩, ?_⟩
    | apply And.intro
  show [_] = [_]
  rw [w64 (z := r.wp * sz (A.w - B.w)) (by omega) (by omega), w64 (z := r.tp * sz (A.t - B.t)) (by omega) (by omega), w64 (z := r.hp * sz (A.h - B.h)) (by omega) (by omega)]
  rw [w64 (z := r.wp * sz (A.w - B.w) + r.tp * sz (A.t - B.t)) (by omega) (by omega), w64 (by omega) (by omega)]
  rfl
end Go.Proofs.C1R

/- Contracts of chapter 1: the cost of a sequence. -/
namespace Go.Proofs.C1R
open Go Go.Abs Go.Proofs Go.Proofs.C1
set_option maxRecDepth 100000
theorem con45 {r : Ru} {l : List It} {q : List Int} (hr : ruOk r) (hs : SeqOk l q) : Con Tryz.prog 45 [dMix r l, dInts q] [dI (costE r l q)] := by
  have hfew := hs.few
  have hfit := hs.fit
  let inv : (Nat × Int) × (Nat × Nat) → Prop := fun y => y.1.1 ≤ q.length ∧ 0 ≤ y.1.2 ∧ y.1.2 ≤ (y.1.1 : Int) * 4000000000 ∧ costE r l q = y.1.2 + costE r l (q.drop y.1.1)
  let st : (Nat × Int) × (Nat × Nat) → Slots × Blocks := fun y => (s45 q.length y.2.2 y.1.2 ((y.1.1 + 1 : Nat) : Int), [Q501 (vi q), M1000 r.op r.wu r.wd r.tj r.hj r.me r.wp r.tp r.hp (S500 l.length y.2.1), I500 (vq l)])
  refine con_of (L := fun _ s b => ∃ x, inv x ∧ st x = (s, b)) hok mixed Tryz.func45 rfl (by show 2 ≤ 400; omega) rfl (ids := [0]) (by kernel_rfl) rfl (fun caps => ?_) (fun id hid => ?_)
  · show g45 _ _ r.op r.wu r.wd r.tj r.hj r.me r.wp r.tp r.hp l.length (caps 500) (vq l) q.length (caps 501) (vi q) _
    rw [g45_text]
    exact ⟨((0, 0), (caps 500, caps 501)), ⟨Nat.zero_le _, Int.le_refl _, by simp, by simp⟩, rfl⟩
  · obtain rfl := List.mem_singleton.1 hid
    refine ⟨_, st, inv, fun y => q.length - y.1.1, ⟨fun s b h => h, by kernel_rfl, ?_⟩⟩
    rintro ⟨⟨p, x⟩, ⟨cap, cap2⟩⟩ ⟨hp, hx0, hx1, hc⟩
    show r45 _ _ r.op r.wu r.wd r.tj r.hj r.me r.wp r.tp r.hp l.length cap (vq l) q.length cap2 (vi q) x ((p + 1 : Nat) : Int) _ _ _
    rw [r45_text]
    simp only at hp hx0 hx1 hc
    have hw : IntKind.wrap .i64 (((p + 1 : Nat) : Int) - 1) = (p : Int) := by rw [w64 (by omega) (by omega)]; omega
    rw [hw]
    refine bc_dec (fun h => ?_) (fun h => ?_)
    · have h2 : p + 1 < q.length := by omega
      have h1 : p < q.length := by omega
      obtain ⟨a0, a1⟩ := hs.ins p h1
      obtain ⟨b0, b1⟩ := hs.ins (p + 1) h2
      have ha : q[p].toNat < l.length := by omega
      have hb : q[p + 1].toNat < l.length := by omega
      have hd1 : q.drop p = q[p] :: q.drop (p + 1) := List.drop_eq_getElem_cons h1
      have hd2 : q.drop (p + 1) = q[p + 1] :: q.drop (p + 2) := List.drop_eq_getElem_cons h2
      rw [hd1, hd2, costE, ← hd2] at hc
      have e1 : l.getD q[p].toNat itD = l[q[p].toNat] := by simp [List.getD_eq_getElem?_getD, ha]
      have e2 : l.getD q[p + 1].toNat itD = l[q[p + 1].toNat] := by simp [List.getD_eq_getElem?_getD, hb]
      have hpe : 0 ≤ pairE r (l.getD q[p].toNat itD) (l.getD q[p + 1].toNat itD) ∧ pairE r (l.getD q[p].toNat itD) (l.getD q[p + 1].toNat itD) ≤ 4000000000 := by rw [e1, e2]; exact pairE_le hr (hs.its _ ha) (hs.its _ hb)
      have hcon := con68 (x := q[p]) (y := q[p + 1]) hr hs.its a0 a1 b0 b1
      generalize pairE r (l.getD q[p].toNat itD) (l.getD q[p + 1].toNat itD) = z at hc hpe hcon
      refine bc_yes (by omega) (bc_yes (by omega) ⟨_, vi_at q p h1, bc_yes (by omega) (bc_yes (by omega) ⟨_, vi_at q (p + 1) h2, ?_, bc_yes (by simp) ⟨z, ⟨by rw [vq_whole]; exact hcon⟩, ?_, trivial, ?_⟩⟩)⟩)
      · repeat' first
          | exact trivial
          | exact rfl
          | exact ⟨_, vi_at q p h1, rfl⟩
          | exact ⟨_, vi_at q (p + 1) h2, rfl⟩
          | exact bc_yes (by omega) (bc_yes (by omega) rfl)
          | apply And.intro
      · repeat' first
          | exact trivial
          | exact rfl
          | exact bc_yes (by omega) (bc_yes (by omega) rfl)
          | apply And.intro
      · refine ⟨((p + 1, x + z), (cap, cap2)), ⟨by show p + 1 ≤ q.length; omega, by show 0 ≤ x + z; omega, by show x + z ≤ ((p + 1 : Nat) : Int) * 4000000000; omega, ?_⟩, by show q.length - (p + 1) < q.length - p; omega, ?_⟩
        · show _ = x + z + costE r l (q.drop (p + 1))
          omega
        · rw [w64 (z := x + z) (by omega) (by omega), w64 (by omega) (by omega)]; rfl
    · show (if 0 = 0 then _ else _)
      rw [if_pos rfl]
      show n45 _ _ x _
      rw [n45_text]
      have e : costE r l (q.drop p) = 0 := by
        have hlen : (q.drop p).length ≤ 1 := by simp; omega
        match hd : q.drop p with
        | [] => rfl
        | [_] => rfl
        | _ :: _ :: _ => rw [hd] at hlen; simp at hlen
      show [_] = [_]
      rw [hc, e, Int.add_zero]
end Go.Proofs.C1R

/- What is left to show of each function, written out; the kernel reckons it. -/
namespace Go.Proofs.C1R
open Go Go.Abs Go.Proofs Go.Proofs.C1
set_option maxRecDepth 100000
set_option linter.unusedVariables false
abbrev J70 : List Nat := [30008, 30011, 30013, 30014, 30015, 30016]
def n70J (C : Ct) (L : AtLoop) (a b c d e f g h i : Int) (n cap : Nat) (l : List Value) (m cap2 : Nat) (q : List Value) (p mt : Int) (k : List D → Prop) : Prop := jNext Tryz.prog (hV C) L J70 70 0 .normal [(1, S501 m cap2), (2, .int .i64 p), (3, .pointer (some (Addr.mk 1000 0 none))), (6, .pointer (some (Addr.mk 1001 0 none))), (7, .pointer (some (Addr.mk 1002 0 none))), (8, .int .i64 mt)] [Q501 q, M1000 a b c d e f g h i (S500 n cap), B5 1001 false false false false false, B5 1002 false false false false false, I500 l] (dataK k)
theorem n70J_text (C : Ct) (L : AtLoop) (a : Int) (b : Int) (c : Int) (d : Int) (e : Int) (f : Int) (g : Int) (h : Int) (i : Int) (n : Nat) (cap : Nat) (l : List Go.Value) (m : Nat) (cap2 : Nat) (q : List Go.Value) (p : Int) (mt : Int) (k : List D → Prop) : n70J C L a b c d e f g h i n cap l m cap2 q p mt k =
 (bcase (decide (mt > f))
 (L 30008 [(Prod.mk 1 (Go.Value.slice (Option.some (Go.Addr.mk 501 0 Option.none)) (m) (cap2))), (Prod.mk 2 (Go.Value.int Go.IntKind.i64 (p))), (Prod.mk 3 (Go.Value.pointer (Option.some (Go.Addr.mk 1000 0 Option.none)))), (Prod.mk 6 (Go.Value.pointer (Option.some (Go.Addr.mk 1001 0 Option.none)))), (Prod.mk 7 (Go.Value.pointer (Option.some (Go.Addr.mk 1002 0 Option.none))))] [(Prod.mk 501 (AObj.sym (q) false 1)), (Prod.mk 1000 (AObj.cells [(Go.Value.int Go.IntKind.i64 (a)), (Go.Value.int Go.IntKind.i64 (b)), (Go.Value.int Go.IntKind.i64 (c)), (Go.Value.int Go.IntKind.i64 (d)), (Go.Value.int Go.IntKind.i64 (e)), (Go.Value.int Go.IntKind.i64 (f)), (Go.Value.int Go.IntKind.i64 (g)), (Go.Value.int Go.IntKind.i64 (h)), (Go.Value.int Go.IntKind.i64 (i)), (Go.Value.slice (Option.some (Go.Addr.mk 500 0 Option.none)) (n) (cap))] 82 false 1)), (Prod.mk 1001 (AObj.cells [(Go.Value.bool false), (Go.Value.bool false), (Go.Value.bool false), (Go.Value.bool false), (Go.Value.bool false)] 116 false 1)), (Prod.mk 1002 (AObj.cells [(Go.Value.bool true), (Go.Value.bool false), (Go.Value.bool false), (Go.Value.bool false), (Go.Value.bool false)] 116 false 1)), (Prod.mk 500 (AObj.sym (l) false 4))])
 (L 30008 [(Prod.mk 1 (Go.Value.slice (Option.some (Go.Addr.mk 501 0 Option.none)) (m) (cap2))), (Prod.mk 2 (Go.Value.int Go.IntKind.i64 (p))), (Prod.mk 3 (Go.Value.pointer (Option.some (Go.Addr.mk 1000 0 Option.none)))), (Prod.mk 6 (Go.Value.pointer (Option.some (Go.Addr.mk 1001 0 Option.none)))), (Prod.mk 7 (Go.Value.pointer (Option.some (Go.Addr.mk 1002 0 Option.none))))] [(Prod.mk 501 (AObj.sym (q) false 1)), (Prod.mk 1000 (AObj.cells [(Go.Value.int Go.IntKind.i64 (a)), (Go.Value.int Go.IntKind.i64 (b)), (Go.Value.int Go.IntKind.i64 (c)), (Go.Value.int Go.IntKind.i64 (d)), (Go.Value.int Go.IntKind.i64 (e)), (Go.Value.int Go.IntKind.i64 (f)), (Go.Value.int Go.IntKind.i64 (g)), (Go.Value.int Go.IntKind.i64 (h)), (Go.Value.int Go.IntKind.i64 (i)), (Go.Value.slice (Option.some (Go.Addr.mk 500 0 Option.none)) (n) (cap))] 82 false 1)), (Prod.mk 1001 (AObj.cells [(Go.Value.bool false), (Go.Value.bool false), (Go.Value.bool false), (Go.Value.bool false), (Go.Value.bool false)] 116 false 1)), (Prod.mk 1002 (AObj.cells [(Go.Value.bool false), (Go.Value.bool false), (Go.Value.bool false), (Go.Value.bool false), (Go.Value.bool false)] 116 false 1)), (Prod.mk 500 (AObj.sym (l) false 4))])) := by kernel_rfl
abbrev P0 (b : Nat) : Value := .pointer (some (Addr.mk b 0 none))
def c70a (C : Ct) (L : AtLoop) (a b c d e f g h i : Int) (n cap : Nat) (l : List Value) (m cap2 : Nat) (q : List Value) (p : Int) (b0 : Bool) (k : List D → Prop) : Prop := jNext Tryz.prog (hV C) L J70 70 30008 .normal [(1, S501 m cap2), (2, .int .i64 p), (3, P0 1000), (6, P0 1001), (7, P0 1002)] [Q501 q, M1000 a b c d e f g h i (S500 n cap), B5 1001 false false false false false, B5 1002 b0 false false false false, I500 l] (dataK k)
theorem c70a_text (C : Ct) (L : AtLoop) (a : Int) (b : Int) (c : Int) (d : Int) (e : Int) (f : Int) (g : Int) (h : Int) (i : Int) (n : Nat) (cap : Nat) (l : List Go.Value) (m : Nat) (cap2 : Nat) (q : List Go.Value) (p : Int) (b0 : Bool) (k : List D → Prop) : c70a C L a b c d e f g h i n cap l m cap2 q p b0 k =
 (bcase (p == 0)
 (k [(D.agg [(D.val (Go.Value.bool (b0))), (D.val (Go.Value.bool false)), (D.val (Go.Value.bool false)), (D.val (Go.Value.bool false)), (D.val (Go.Value.bool false))])])
 (bcase (decide (0 ≤ Go.IntKind.wrap Go.IntKind.i64 (p - 1)))
 (bcase (decide (Go.IntKind.wrap Go.IntKind.i64 (p - 1) < (↑m : Int)))
 (∃ n1 : Int,
 ((At (q) (0 + Int.toNat (Go.IntKind.wrap Go.IntKind.i64 (p - 1)) * 1) 1 [(Go.Value.int Go.IntKind.i64 (n1))]) ∧
 (bcase (decide (0 ≤ n1))
 (bcase (decide (n1 < (↑n : Int)))
 (∃ n2 : Int,
 (∃ n3 : Int,
 (∃ n4 : Int,
 (∃ n5 : Int,
 ((At (l) (0 + Int.toNat n1 * 4) 4 [(Go.Value.int Go.IntKind.i64 (n2)), (Go.Value.int Go.IntKind.i64 (n3)), (Go.Value.int Go.IntKind.i64 (n4)), (Go.Value.int Go.IntKind.i64 (n5))]) ∧
 (bcase (decide (0 ≤ p))
 (bcase (decide (p < (↑m : Int)))
 (∃ n6 : Int,
 ((At (q) (0 + Int.toNat p * 1) 1 [(Go.Value.int Go.IntKind.i64 (n6))]) ∧
 (bcase (decide (0 ≤ n6))
 (bcase (decide (n6 < (↑n : Int)))
 (∃ n7 : Int,
 (∃ n8 : Int,
 (∃ n9 : Int,
 (∃ n10 : Int,
 ((At (l) (0 + Int.toNat n6 * 4) 4 [(Go.Value.int Go.IntKind.i64 (n7)), (Go.Value.int Go.IntKind.i64 (n8)), (Go.Value.int Go.IntKind.i64 (n9)), (Go.Value.int Go.IntKind.i64 (n10))]) ∧
 (((((Go.Value.pointer (Option.some (Go.Addr.mk 1004 0 Option.none))) = (Go.Value.pointer (Option.some (Go.Addr.mk 1004 0 Option.none)))) ∧
 ((Option.some (AObj.cells [(Go.Value.int Go.IntKind.i64 (0 : Int)), (Go.Value.int Go.IntKind.i64 (0 : Int)), (Go.Value.int Go.IntKind.i64 (0 : Int)), (Go.Value.int Go.IntKind.i64 (0 : Int))] 90 false 4)) = (Option.some (AObj.cells [(Go.Value.int Go.IntKind.i64 (0 : Int)), (Go.Value.int Go.IntKind.i64 (0 : Int)), (Go.Value.int Go.IntKind.i64 (0 : Int)), (Go.Value.int Go.IntKind.i64 (0 : Int))] 90 false 4)))) ∧
 ((((Go.Value.pointer (Option.some (Go.Addr.mk 1003 0 Option.none))) = (Go.Value.pointer (Option.some (Go.Addr.mk 1003 0 Option.none)))) ∧
 ((Option.some (AObj.cells [(Go.Value.int Go.IntKind.i64 (0 : Int)), (Go.Value.int Go.IntKind.i64 (0 : Int)), (Go.Value.int Go.IntKind.i64 (0 : Int)), (Go.Value.int Go.IntKind.i64 (0 : Int))] 90 false 4)) = (Option.some (AObj.cells [(Go.Value.int Go.IntKind.i64 (0 : Int)), (Go.Value.int Go.IntKind.i64 (0 : Int)), (Go.Value.int Go.IntKind.i64 (0 : Int)), (Go.Value.int Go.IntKind.i64 (0 : Int))] 90 false 4)))) ∧
 ((∃ n11 : Int,
 (∃ n12 : Int,
 (∃ n13 : Int,
 (∃ n14 : Int,
 ((At (l) (0 + Int.toNat n6 * 4) 4 [(Go.Value.int Go.IntKind.i64 (n11)), (Go.Value.int Go.IntKind.i64 (n12)), (Go.Value.int Go.IntKind.i64 (n13)), (Go.Value.int Go.IntKind.i64 (n14))]) ∧
 ((Go.Value.agg [(Go.Value.int Go.IntKind.i64 (n11)), (Go.Value.int Go.IntKind.i64 (n12)), (Go.Value.int Go.IntKind.i64 (n13)), (Go.Value.int Go.IntKind.i64 (n14))].toArray) = (Go.Value.agg [(Go.Value.int Go.IntKind.i64 (n7)), (Go.Value.int Go.IntKind.i64 (n8)), (Go.Value.int Go.IntKind.i64 (n9)), (Go.Value.int Go.IntKind.i64 (n10))].toArray))))))) ∧
 ((bcase (decide (0 ≤ n6))
 (bcase (decide (n6 < (↑n : Int)))
 ((Go.Value.pointer (Option.some (Go.Addr.mk 500 (0 + Int.toNat n6 * 4) Option.none))) = (Go.Value.pointer (Option.some (Go.Addr.mk 500 (0 + Int.toNat n6 * 4) Option.none))))
 False)
 False) ∧
 ((∃ n11 : Int,
 ((At (q) (0 + Int.toNat p * 1) 1 [(Go.Value.int Go.IntKind.i64 (n11))]) ∧
 ((Go.Value.int Go.IntKind.i64 (n11)) = (Go.Value.int Go.IntKind.i64 (n6))))) ∧
 ((bcase (decide (0 ≤ p))
 (bcase (decide (p < (↑m : Int)))
 ((Go.Value.pointer (Option.some (Go.Addr.mk 501 (0 + Int.toNat p * 1) Option.none))) = (Go.Value.pointer (Option.some (Go.Addr.mk 501 (0 + Int.toNat p * 1) Option.none))))
 False)
 False) ∧
 (((Go.Value.int Go.IntKind.i64 (p)) = (Go.Value.int Go.IntKind.i64 (p))) ∧
 (((Go.Value.slice (Option.some (Go.Addr.mk 501 0 Option.none)) (m) (cap2)) = (Go.Value.slice (Option.some (Go.Addr.mk 501 0 Option.none)) (m) (cap2))) ∧
 (((Go.Value.slice (Option.some (Go.Addr.mk 500 0 Option.none)) (n) (cap)) = (Go.Value.slice (Option.some (Go.Addr.mk 500 0 Option.none)) (n) (cap))) ∧
 (((Go.Value.pointer (Option.some (Go.Addr.mk 1000 9 Option.none))) = (Go.Value.pointer (Option.some (Go.Addr.mk 1000 9 Option.none)))) ∧
 ((∃ n11 : Int,
 (∃ n12 : Int,
 (∃ n13 : Int,
 (∃ n14 : Int,
 ((At (l) (0 + Int.toNat n1 * 4) 4 [(Go.Value.int Go.IntKind.i64 (n11)), (Go.Value.int Go.IntKind.i64 (n12)), (Go.Value.int Go.IntKind.i64 (n13)), (Go.Value.int Go.IntKind.i64 (n14))]) ∧
 ((Go.Value.agg [(Go.Value.int Go.IntKind.i64 (n11)), (Go.Value.int Go.IntKind.i64 (n12)), (Go.Value.int Go.IntKind.i64 (n13)), (Go.Value.int Go.IntKind.i64 (n14))].toArray) = (Go.Value.agg [(Go.Value.int Go.IntKind.i64 (n2)), (Go.Value.int Go.IntKind.i64 (n3)), (Go.Value.int Go.IntKind.i64 (n4)), (Go.Value.int Go.IntKind.i64 (n5))].toArray))))))) ∧
 ((bcase (decide (0 ≤ n1))
 (bcase (decide (n1 < (↑n : Int)))
 ((Go.Value.pointer (Option.some (Go.Addr.mk 500 (0 + Int.toNat n1 * 4) Option.none))) = (Go.Value.pointer (Option.some (Go.Addr.mk 500 (0 + Int.toNat n1 * 4) Option.none))))
 False)
 False) ∧
 ((∃ n11 : Int,
 ((At (q) (0 + Int.toNat (Go.IntKind.wrap Go.IntKind.i64 (p - 1)) * 1) 1 [(Go.Value.int Go.IntKind.i64 (n11))]) ∧
 ((Go.Value.int Go.IntKind.i64 (n11)) = (Go.Value.int Go.IntKind.i64 (n1))))) ∧
 ((bcase (decide (0 ≤ Go.IntKind.wrap Go.IntKind.i64 (p - 1)))
 (bcase (decide (Go.IntKind.wrap Go.IntKind.i64 (p - 1) < (↑m : Int)))
 ((Go.Value.pointer (Option.some (Go.Addr.mk 501 (0 + Int.toNat (Go.IntKind.wrap Go.IntKind.i64 (p - 1)) * 1) Option.none))) = (Go.Value.pointer (Option.some (Go.Addr.mk 501 (0 + Int.toNat (Go.IntKind.wrap Go.IntKind.i64 (p - 1)) * 1) Option.none))))
 False)
 False) ∧
 (((Go.Value.int Go.IntKind.i64 (Go.IntKind.wrap Go.IntKind.i64 (p - 1))) = (Go.Value.int Go.IntKind.i64 (Go.IntKind.wrap Go.IntKind.i64 (p - 1)))) ∧
 (((Go.Value.int Go.IntKind.i64 (p)) = (Go.Value.int Go.IntKind.i64 (p))) ∧
 (((Go.Value.slice (Option.some (Go.Addr.mk 501 0 Option.none)) (m) (cap2)) = (Go.Value.slice (Option.some (Go.Addr.mk 501 0 Option.none)) (m) (cap2))) ∧
 (((Go.Value.slice (Option.some (Go.Addr.mk 500 0 Option.none)) (n) (cap)) = (Go.Value.slice (Option.some (Go.Addr.mk 500 0 Option.none)) (n) (cap))) ∧
 (((Go.Value.pointer (Option.some (Go.Addr.mk 1000 9 Option.none))) = (Go.Value.pointer (Option.some (Go.Addr.mk 1000 9 Option.none)))) ∧
 True))))))))))))))))))) ∧
 (((∃ n11 : Int,
 (∃ n12 : Int,
 (∃ n13 : Int,
 (∃ n14 : Int,
 ((At (l) (0 + Int.toNat n6 * 4) 4 [(Go.Value.int Go.IntKind.i64 (n11)), (Go.Value.int Go.IntKind.i64 (n12)), (Go.Value.int Go.IntKind.i64 (n13)), (Go.Value.int Go.IntKind.i64 (n14))]) ∧
 ((Go.Value.agg [(Go.Value.int Go.IntKind.i64 (n11)), (Go.Value.int Go.IntKind.i64 (n12)), (Go.Value.int Go.IntKind.i64 (n13)), (Go.Value.int Go.IntKind.i64 (n14))].toArray) = (Go.Value.agg [(Go.Value.int Go.IntKind.i64 (n7)), (Go.Value.int Go.IntKind.i64 (n8)), (Go.Value.int Go.IntKind.i64 (n9)), (Go.Value.int Go.IntKind.i64 (n10))].toArray))))))) ∧
 ((bcase (decide (0 ≤ n6))
 (bcase (decide (n6 < (↑n : Int)))
 ((Go.Value.pointer (Option.some (Go.Addr.mk 500 (0 + Int.toNat n6 * 4) Option.none))) = (Go.Value.pointer (Option.some (Go.Addr.mk 500 (0 + Int.toNat n6 * 4) Option.none))))
 False)
 False) ∧
 ((∃ n11 : Int,
 ((At (q) (0 + Int.toNat p * 1) 1 [(Go.Value.int Go.IntKind.i64 (n11))]) ∧
 ((Go.Value.int Go.IntKind.i64 (n11)) = (Go.Value.int Go.IntKind.i64 (n6))))) ∧
 ((bcase (decide (0 ≤ p))
 (bcase (decide (p < (↑m : Int)))
 ((Go.Value.pointer (Option.some (Go.Addr.mk 501 (0 + Int.toNat p * 1) Option.none))) = (Go.Value.pointer (Option.some (Go.Addr.mk 501 (0 + Int.toNat p * 1) Option.none))))
 False)
 False) ∧
 (((Go.Value.int Go.IntKind.i64 (p)) = (Go.Value.int Go.IntKind.i64 (p))) ∧
 (((Go.Value.slice (Option.some (Go.Addr.mk 501 0 Option.none)) (m) (cap2)) = (Go.Value.slice (Option.some (Go.Addr.mk 501 0 Option.none)) (m) (cap2))) ∧
 (((Go.Value.slice (Option.some (Go.Addr.mk 500 0 Option.none)) (n) (cap)) = (Go.Value.slice (Option.some (Go.Addr.mk 500 0 Option.none)) (n) (cap))) ∧
 (((Go.Value.pointer (Option.some (Go.Addr.mk 1000 9 Option.none))) = (Go.Value.pointer (Option.some (Go.Addr.mk 1000 9 Option.none)))) ∧
 True)))))))) ∧
 (True ∧
 (L 30011 [(Prod.mk 2 (Go.Value.int Go.IntKind.i64 (p))), (Prod.mk 3 (Go.Value.pointer (Option.some (Go.Addr.mk 1000 0 Option.none)))), (Prod.mk 6 (Go.Value.pointer (Option.some (Go.Addr.mk 1001 0 Option.none)))), (Prod.mk 7 (Go.Value.pointer (Option.some (Go.Addr.mk 1002 0 Option.none)))), (Prod.mk 11 (Go.Value.pointer (Option.some (Go.Addr.mk 1003 0 Option.none)))), (Prod.mk 12 (Go.Value.pointer (Option.some (Go.Addr.mk 1004 0 Option.none))))] [(Prod.mk 1000 (AObj.cells [(Go.Value.int Go.IntKind.i64 (a)), (Go.Value.int Go.IntKind.i64 (b)), (Go.Value.int Go.IntKind.i64 (c)), (Go.Value.int Go.IntKind.i64 (d)), (Go.Value.int Go.IntKind.i64 (e)), (Go.Value.int Go.IntKind.i64 (f)), (Go.Value.int Go.IntKind.i64 (g)), (Go.Value.int Go.IntKind.i64 (h)), (Go.Value.int Go.IntKind.i64 (i)), (Go.Value.slice (Option.some (Go.Addr.mk 500 0 Option.none)) (n) (cap))] 82 false 1)), (Prod.mk 1001 (AObj.cells [(Go.Value.bool false), (Go.Value.bool false), (Go.Value.bool false), (Go.Value.bool false), (Go.Value.bool false)] 116 false 1)), (Prod.mk 1002 (AObj.cells [(Go.Value.bool (b0)), (Go.Value.bool false), (Go.Value.bool false), (Go.Value.bool false), (Go.Value.bool false)] 116 false 1)), (Prod.mk 1003 (AObj.cells [(Go.Value.int Go.IntKind.i64 (n2)), (Go.Value.int Go.IntKind.i64 (n3)), (Go.Value.int Go.IntKind.i64 (n4)), (Go.Value.int Go.IntKind.i64 (n5))] 90 false 4)), (Prod.mk 1004 (AObj.cells [(Go.Value.int Go.IntKind.i64 (n7)), (Go.Value.int Go.IntKind.i64 (n8)), (Go.Value.int Go.IntKind.i64 (n9)), (Go.Value.int Go.IntKind.i64 (n10))] 90 false 4)), (Prod.mk 500 (AObj.sym (l) false 4))])))))))))
 False)
 False)))
 False)
 False))))))
 False)
 False)))
 False)
 False)) := by kernel_rfl
abbrev It4 (b : Nat) (w t h m : Int) : Nat × AObj := (b, .cells [.int .i64 w, .int .i64 t, .int .i64 h, .int .i64 m] 90 false 4)
def c70b (C : Ct) (L : AtLoop) (a b c d e f g h i : Int) (n cap : Nat) (l : List Value) (p : Int) (b0 : Bool) (w1 t1 h1 m1 w2 t2 h2 m2 : Int) (k : List D → Prop) : Prop := jNext Tryz.prog (hV C) L J70 70 30011 .normal [(2, .int .i64 p), (3, P0 1000), (6, P0 1001), (7, P0 1002), (11, P0 1003), (12, P0 1004)] [M1000 a b c d e f g h i (S500 n cap), B5 1001 false false false false false, B5 1002 b0 false false false false, It4 1003 w1 t1 h1 m1, It4 1004 w2 t2 h2 m2, I500 l] (dataK k)
theorem c70b_text (C : Ct) (L : AtLoop) (a : Int) (b : Int) (c : Int) (d : Int) (e : Int) (f : Int) (g : Int) (h : Int) (i : Int) (n : Nat) (cap : Nat) (l : List Go.Value) (p : Int) (b0 : Bool) (w1 : Int) (t1 : Int) (h1 : Int) (m1 : Int) (w2 : Int) (t2 : Int) (h2 : Int) (m2 : Int) (k : List D → Prop) : c70b C L a b c d e f g h i n cap l p b0 w1 t1 h1 m1 w2 t2 h2 m2 k =
 (bcase (decide (p < a))
 (bcase (decide (Go.IntKind.wrap Go.IntKind.i64 (w2 - w1) < 0))
 (L 30013 [(Prod.mk 3 (Go.Value.pointer (Option.some (Go.Addr.mk 1000 0 Option.none)))), (Prod.mk 6 (Go.Value.pointer (Option.some (Go.Addr.mk 1001 0 Option.none)))), (Prod.mk 7 (Go.Value.pointer (Option.some (Go.Addr.mk 1002 0 Option.none)))), (Prod.mk 11 (Go.Value.pointer (Option.some (Go.Addr.mk 1003 0 Option.none)))), (Prod.mk 12 (Go.Value.pointer (Option.some (Go.Addr.mk 1004 0 Option.none)))), (Prod.mk 13 (Go.Value.int Go.IntKind.i64 (Go.IntKind.wrap Go.IntKind.i64 (w2 - w1))))] [(Prod.mk 1000 (AObj.cells [(Go.Value.int Go.IntKind.i64 (a)), (Go.Value.int Go.IntKind.i64 (b)), (Go.Value.int Go.IntKind.i64 (c)), (Go.Value.int Go.IntKind.i64 (d)), (Go.Value.int Go.IntKind.i64 (e)), (Go.Value.int Go.IntKind.i64 (f)), (Go.Value.int Go.IntKind.i64 (g)), (Go.Value.int Go.IntKind.i64 (h)), (Go.Value.int Go.IntKind.i64 (i)), (Go.Value.slice (Option.some (Go.Addr.mk 500 0 Option.none)) (n) (cap))] 82 false 1)), (Prod.mk 1001 (AObj.cells [(Go.Value.bool false), (Go.Value.bool false), (Go.Value.bool false), (Go.Value.bool false), (Go.Value.bool false)] 116 false 1)), (Prod.mk 1002 (AObj.cells [(Go.Value.bool (b0)), (Go.Value.bool true), (Go.Value.bool false), (Go.Value.bool false), (Go.Value.bool false)] 116 false 1)), (Prod.mk 1003 (AObj.cells [(Go.Value.int Go.IntKind.i64 (w1)), (Go.Value.int Go.IntKind.i64 (t1)), (Go.Value.int Go.IntKind.i64 (h1)), (Go.Value.int Go.IntKind.i64 (m1))] 90 false 4)), (Prod.mk 1004 (AObj.cells [(Go.Value.int Go.IntKind.i64 (w2)), (Go.Value.int Go.IntKind.i64 (t2)), (Go.Value.int Go.IntKind.i64 (h2)), (Go.Value.int Go.IntKind.i64 (m2))] 90 false 4)), (Prod.mk 500 (AObj.sym (l) false 4))])
 (bcase (decide (p ≥ a))
 (bcase (decide (Go.IntKind.wrap Go.IntKind.i64 (w2 - w1) > 0))
 (L 30013 [(Prod.mk 3 (Go.Value.pointer (Option.some (Go.Addr.mk 1000 0 Option.none)))), (Prod.mk 6 (Go.Value.pointer (Option.some (Go.Addr.mk 1001 0 Option.none)))), (Prod.mk 7 (Go.Value.pointer (Option.some (Go.Addr.mk 1002 0 Option.none)))), (Prod.mk 11 (Go.Value.pointer (Option.some (Go.Addr.mk 1003 0 Option.none)))), (Prod.mk 12 (Go.Value.pointer (Option.some (Go.Addr.mk 1004 0 Option.none)))), (Prod.mk 13 (Go.Value.int Go.IntKind.i64 (Go.IntKind.wrap Go.IntKind.i64 (w2 - w1))))] [(Prod.mk 1000 (AObj.cells [(Go.Value.int Go.IntKind.i64 (a)), (Go.Value.int Go.IntKind.i64 (b)), (Go.Value.int Go.IntKind.i64 (c)), (Go.Value.int Go.IntKind.i64 (d)), (Go.Value.int Go.IntKind.i64 (e)), (Go.Value.int Go.IntKind.i64 (f)), (Go.Value.int Go.IntKind.i64 (g)), (Go.Value.int Go.IntKind.i64 (h)), (Go.Value.int Go.IntKind.i64 (i)), (Go.Value.slice (Option.some (Go.Addr.mk 500 0 Option.none)) (n) (cap))] 82 false 1)), (Prod.mk 1001 (AObj.cells [(Go.Value.bool false), (Go.Value.bool false), (Go.Value.bool false), (Go.Value.bool false), (Go.Value.bool false)] 116 false 1)), (Prod.mk 1002 (AObj.cells [(Go.Value.bool (b0)), (Go.Value.bool true), (Go.Value.bool false), (Go.Value.bool false), (Go.Value.bool false)] 116 false 1)), (Prod.mk 1003 (AObj.cells [(Go.Value.int Go.IntKind.i64 (w1)), (Go.Value.int Go.IntKind.i64 (t1)), (Go.Value.int Go.IntKind.i64 (h1)), (Go.Value.int Go.IntKind.i64 (m1))] 90 false 4)), (Prod.mk 1004 (AObj.cells [(Go.Value.int Go.IntKind.i64 (w2)), (Go.Value.int Go.IntKind.i64 (t2)), (Go.Value.int Go.IntKind.i64 (h2)), (Go.Value.int Go.IntKind.i64 (m2))] 90 false 4)), (Prod.mk 500 (AObj.sym (l) false 4))])
 (L 30013 [(Prod.mk 3 (Go.Value.pointer (Option.some (Go.Addr.mk 1000 0 Option.none)))), (Prod.mk 6 (Go.Value.pointer (Option.some (Go.Addr.mk 1001 0 Option.none)))), (Prod.mk 7 (Go.Value.pointer (Option.some (Go.Addr.mk 1002 0 Option.none)))), (Prod.mk 11 (Go.Value.pointer (Option.some (Go.Addr.mk 1003 0 Option.none)))), (Prod.mk 12 (Go.Value.pointer (Option.some (Go.Addr.mk 1004 0 Option.none)))), (Prod.mk 13 (Go.Value.int Go.IntKind.i64 (Go.IntKind.wrap Go.IntKind.i64 (w2 - w1))))] [(Prod.mk 1000 (AObj.cells [(Go.Value.int Go.IntKind.i64 (a)), (Go.Value.int Go.IntKind.i64 (b)), (Go.Value.int Go.IntKind.i64 (c)), (Go.Value.int Go.IntKind.i64 (d)), (Go.Value.int Go.IntKind.i64 (e)), (Go.Value.int Go.IntKind.i64 (f)), (Go.Value.int Go.IntKind.i64 (g)), (Go.Value.int Go.IntKind.i64 (h)), (Go.Value.int Go.IntKind.i64 (i)), (Go.Value.slice (Option.some (Go.Addr.mk 500 0 Option.none)) (n) (cap))] 82 false 1)), (Prod.mk 1001 (AObj.cells [(Go.Value.bool false), (Go.Value.bool false), (Go.Value.bool false), (Go.Value.bool false), (Go.Value.bool false)] 116 false 1)), (Prod.mk 1002 (AObj.cells [(Go.Value.bool (b0)), (Go.Value.bool false), (Go.Value.bool false), (Go.Value.bool false), (Go.Value.bool false)] 116 false 1)), (Prod.mk 1003 (AObj.cells [(Go.Value.int Go.IntKind.i64 (w1)), (Go.Value.int Go.IntKind.i64 (t1)), (Go.Value.int Go.IntKind.i64 (h1)), (Go.Value.int Go.IntKind.i64 (m1))] 90 false 4)), (Prod.mk 1004 (AObj.cells [(Go.Value.int Go.IntKind.i64 (w2)), (Go.Value.int Go.IntKind.i64 (t2)), (Go.Value.int Go.IntKind.i64 (h2)), (Go.Value.int Go.IntKind.i64 (m2))] 90 false 4)), (Prod.mk 500 (AObj.sym (l) false 4))]))
 (L 30013 [(Prod.mk 3 (Go.Value.pointer (Option.some (Go.Addr.mk 1000 0 Option.none)))), (Prod.mk 6 (Go.Value.pointer (Option.some (Go.Addr.mk 1001 0 Option.none)))), (Prod.mk 7 (Go.Value.pointer (Option.some (Go.Addr.mk 1002 0 Option.none)))), (Prod.mk 11 (Go.Value.pointer (Option.some (Go.Addr.mk 1003 0 Option.none)))), (Prod.mk 12 (Go.Value.pointer (Option.some (Go.Addr.mk 1004 0 Option.none)))), (Prod.mk 13 (Go.Value.int Go.IntKind.i64 (Go.IntKind.wrap Go.IntKind.i64 (w2 - w1))))] [(Prod.mk 1000 (AObj.cells [(Go.Value.int Go.IntKind.i64 (a)), (Go.Value.int Go.IntKind.i64 (b)), (Go.Value.int Go.IntKind.i64 (c)), (Go.Value.int Go.IntKind.i64 (d)), (Go.Value.int Go.IntKind.i64 (e)), (Go.Value.int Go.IntKind.i64 (f)), (Go.Value.int Go.IntKind.i64 (g)), (Go.Value.int Go.IntKind.i64 (h)), (Go.Value.int Go.IntKind.i64 (i)), (Go.Value.slice (Option.some (Go.Addr.mk 500 0 Option.none)) (n) (cap))] 82 false 1)), (Prod.mk 1001 (AObj.cells [(Go.Value.bool false), (Go.Value.bool false), (Go.Value.bool false), (Go.Value.bool false), (Go.Value.bool false)] 116 false 1)), (Prod.mk 1002 (AObj.cells [(Go.Value.bool (b0)), (Go.Value.bool false), (Go.Value.bool false), (Go.Value.bool false), (Go.Value.bool false)] 116 false 1)), (Prod.mk 1003 (AObj.cells [(Go.Value.int Go.IntKind.i64 (w1)), (Go.Value.int Go.IntKind.i64 (t1)), (Go.Value.int Go.IntKind.i64 (h1)), (Go.Value.int Go.IntKind.i64 (m1))] 90 false 4)), (Prod.mk 1004 (AObj.cells [(Go.Value.int Go.IntKind.i64 (w2)), (Go.Value.int Go.IntKind.i64 (t2)), (Go.Value.int Go.IntKind.i64 (h2)), (Go.Value.int Go.IntKind.i64 (m2))] 90 false 4)), (Prod.mk 500 (AObj.sym (l) false 4))])))
 (bcase (decide (p ≥ a))
 (bcase (decide (Go.IntKind.wrap Go.IntKind.i64 (w2 - w1) > 0))
 (L 30013 [(Prod.mk 3 (Go.Value.pointer (Option.some (Go.Addr.mk 1000 0 Option.none)))), (Prod.mk 6 (Go.Value.pointer (Option.some (Go.Addr.mk 1001 0 Option.none)))), (Prod.mk 7 (Go.Value.pointer (Option.some (Go.Addr.mk 1002 0 Option.none)))), (Prod.mk 11 (Go.Value.pointer (Option.some (Go.Addr.mk 1003 0 Option.none)))), (Prod.mk 12 (Go.Value.pointer (Option.some (Go.Addr.mk 1004 0 Option.none)))), (Prod.mk 13 (Go.Value.int Go.IntKind.i64 (Go.IntKind.wrap Go.IntKind.i64 (w2 - w1))))] [(Prod.mk 1000 (AObj.cells [(Go.Value.int Go.IntKind.i64 (a)), (Go.Value.int Go.IntKind.i64 (b)), (Go.Value.int Go.IntKind.i64 (c)), (Go.Value.int Go.IntKind.i64 (d)), (Go.Value.int Go.IntKind.i64 (e)), (Go.Value.int Go.IntKind.i64 (f)), (Go.Value.int Go.IntKind.i64 (g)), (Go.Value.int Go.IntKind.i64 (h)), (Go.Value.int Go.IntKind.i64 (i)), (Go.Value.slice (Option.some (Go.Addr.mk 500 0 Option.none)) (n) (cap))] 82 false 1)), (Prod.mk 1001 (AObj.cells [(Go.Value.bool false), (Go.Value.bool false), (Go.Value.bool false), (Go.Value.bool false), (Go.Value.bool false)] 116 false 1)), (Prod.mk 1002 (AObj.cells [(Go.Value.bool (b0)), (Go.Value.bool true), (Go.Value.bool false), (Go.Value.bool false), (Go.Value.bool false)] 116 false 1)), (Prod.mk 1003 (AObj.cells [(Go.Value.int Go.IntKind.i64 (w1)), (Go.Value.int Go.IntKind.i64 (t1)), (Go.Value.int Go.IntKind.i64 (h1)), (Go.Value.int Go.IntKind.i64 (m1))] 90 false 4)), (Prod.mk 1004 (AObj.cells [(Go.Value.int Go.IntKind.i64 (w2)), (Go.Value.int Go.IntKind.i64 (t2)), (Go.Value.int Go.IntKind.i64 (h2)), (Go.Value.int Go.IntKind.i64 (m2))] 90 false 4)), (Prod.mk 500 (AObj.sym (l) false 4))])
 (L 30013 [(Prod.mk 3 (Go.Value.pointer (Option.some (Go.Addr.mk 1000 0 Option.none)))), (Prod.mk 6 (Go.Value.pointer (Option.some (Go.Addr.mk 1001 0 Option.none)))), (Prod.mk 7 (Go.Value.pointer (Option.some (Go.Addr.mk 1002 0 Option.none)))), (Prod.mk 11 (Go.Value.pointer (Option.some (Go.Addr.mk 1003 0 Option.none)))), (Prod.mk 12 (Go.Value.pointer (Option.some (Go.Addr.mk 1004 0 Option.none)))), (Prod.mk 13 (Go.Value.int Go.IntKind.i64 (Go.IntKind.wrap Go.IntKind.i64 (w2 - w1))))] [(Prod.mk 1000 (AObj.cells [(Go.Value.int Go.IntKind.i64 (a)), (Go.Value.int Go.IntKind.i64 (b)), (Go.Value.int Go.IntKind.i64 (c)), (Go.Value.int Go.IntKind.i64 (d)), (Go.Value.int Go.IntKind.i64 (e)), (Go.Value.int Go.IntKind.i64 (f)), (Go.Value.int Go.IntKind.i64 (g)), (Go.Value.int Go.IntKind.i64 (h)), (Go.Value.int Go.IntKind.i64 (i)), (Go.Value.slice (Option.some (Go.Addr.mk 500 0 Option.none)) (n) (cap))] 82 false 1)), (Prod.mk 1001 (AObj.cells [(Go.Value.bool false), (Go.Value.bool false), (Go.Value.bool false), (Go.Value.bool false), (Go.Value.bool false)] 116 false 1)), (Prod.mk 1002 (AObj.cells [(Go.Value.bool (b0)), (Go.Value.bool false), (Go.Value.bool false), (Go.Value.bool false), (Go.Value.bool false)] 116 false 1)), (Prod.mk 1003 (AObj.cells [(Go.Value.int Go.IntKind.i64 (w1)), (Go.Value.int Go.IntKind.i64 (t1)), (Go.Value.int Go.IntKind.i64 (h1)), (Go.Value.int Go.IntKind.i64 (m1))] 90 false 4)), (Prod.mk 1004 (AObj.cells [(Go.Value.int Go.IntKind.i64 (w2)), (Go.Value.int Go.IntKind.i64 (t2)), (Go.Value.int Go.IntKind.i64 (h2)), (Go.Value.int Go.IntKind.i64 (m2))] 90 false 4)), (Prod.mk 500 (AObj.sym (l) false 4))]))
 (L 30013 [(Prod.mk 3 (Go.Value.pointer (Option.some (Go.Addr.mk 1000 0 Option.none)))), (Prod.mk 6 (Go.Value.pointer (Option.some (Go.Addr.mk 1001 0 Option.none)))), (Prod.mk 7 (Go.Value.pointer (Option.some (Go.Addr.mk 1002 0 Option.none)))), (Prod.mk 11 (Go.Value.pointer (Option.some (Go.Addr.mk 1003 0 Option.none)))), (Prod.mk 12 (Go.Value.pointer (Option.some (Go.Addr.mk 1004 0 Option.none)))), (Prod.mk 13 (Go.Value.int Go.IntKind.i64 (Go.IntKind.wrap Go.IntKind.i64 (w2 - w1))))] [(Prod.mk 1000 (AObj.cells [(Go.Value.int Go.IntKind.i64 (a)), (Go.Value.int Go.IntKind.i64 (b)), (Go.Value.int Go.IntKind.i64 (c)), (Go.Value.int Go.IntKind.i64 (d)), (Go.Value.int Go.IntKind.i64 (e)), (Go.Value.int Go.IntKind.i64 (f)), (Go.Value.int Go.IntKind.i64 (g)), (Go.Value.int Go.IntKind.i64 (h)), (Go.Value.int Go.IntKind.i64 (i)), (Go.Value.slice (Option.some (Go.Addr.mk 500 0 Option.none)) (n) (cap))] 82 false 1)), (Prod.mk 1001 (AObj.cells [(Go.Value.bool false), (Go.Value.bool false), (Go.Value.bool false), (Go.Value.bool false), (Go.Value.bool false)] 116 false 1)), (Prod.mk 1002 (AObj.cells [(Go.Value.bool (b0)), (Go.Value.bool false), (Go.Value.bool false), (Go.Value.bool false), (Go.Value.bool false)] 116 false 1)), (Prod.mk 1003 (AObj.cells [(Go.Value.int Go.IntKind.i64 (w1)), (Go.Value.int Go.IntKind.i64 (t1)), (Go.Value.int Go.IntKind.i64 (h1)), (Go.Value.int Go.IntKind.i64 (m1))] 90 false 4)), (Prod.mk 1004 (AObj.cells [(Go.Value.int Go.IntKind.i64 (w2)), (Go.Value.int Go.IntKind.i64 (t2)), (Go.Value.int Go.IntKind.i64 (h2)), (Go.Value.int Go.IntKind.i64 (m2))] 90 false 4)), (Prod.mk 500 (AObj.sym (l) false 4))]))) := by kernel_rfl
def x70 (g : Int) : Slots := [(3, P0 1000), (6, P0 1001), (7, P0 1002), (11, P0 1003), (12, P0 1004), (13, .int .i64 g)]
def y70 (a b c d e f g h i : Int) (n cap : Nat) (l : List Value) (b0 b1 b2 b3 b4 : Bool) (w1 t1 h1 m1 w2 t2 h2 m2 : Int) : Blocks := [M1000 a b c d e f g h i (S500 n cap), B5 1001 false false false false false, B5 1002 b0 b1 b2 b3 b4, It4 1003 w1 t1 h1 m1, It4 1004 w2 t2 h2 m2, I500 l]
def c70c (C : Ct) (L : AtLoop) (a b c d e f g h i : Int) (n cap : Nat) (l : List Value) (b0 b1 : Bool) (w1 t1 h1 m1 w2 t2 h2 m2 gr : Int) (k : List D → Prop) : Prop := jNext Tryz.prog (hV C) L J70 70 30013 .normal (x70 gr) (y70 a b c d e f g h i n cap l b0 b1 false false false w1 t1 h1 m1 w2 t2 h2 m2) (dataK k)
theorem c70c_text (C : Ct) (L : AtLoop) (a : Int) (b : Int) (c : Int) (d : Int) (e : Int) (f : Int) (g : Int) (h : Int) (i : Int) (n : Nat) (cap : Nat) (l : List Go.Value) (b0 : Bool) (b1 : Bool) (w1 : Int) (t1 : Int) (h1 : Int) (m1 : Int) (w2 : Int) (t2 : Int) (h2 : Int) (m2 : Int) (gr : Int) (k : List D → Prop) : c70c C L a b c d e f g h i n cap l b0 b1 w1 t1 h1 m1 w2 t2 h2 m2 gr k =
 (bcase (decide (gr > b))
 (L 30014 [(Prod.mk 3 (Go.Value.pointer (Option.some (Go.Addr.mk 1000 0 Option.none)))), (Prod.mk 6 (Go.Value.pointer (Option.some (Go.Addr.mk 1001 0 Option.none)))), (Prod.mk 7 (Go.Value.pointer (Option.some (Go.Addr.mk 1002 0 Option.none)))), (Prod.mk 11 (Go.Value.pointer (Option.some (Go.Addr.mk 1003 0 Option.none)))), (Prod.mk 12 (Go.Value.pointer (Option.some (Go.Addr.mk 1004 0 Option.none))))] [(Prod.mk 1000 (AObj.cells [(Go.Value.int Go.IntKind.i64 (a)), (Go.Value.int Go.IntKind.i64 (b)), (Go.Value.int Go.IntKind.i64 (c)), (Go.Value.int Go.IntKind.i64 (d)), (Go.Value.int Go.IntKind.i64 (e)), (Go.Value.int Go.IntKind.i64 (f)), (Go.Value.int Go.IntKind.i64 (g)), (Go.Value.int Go.IntKind.i64 (h)), (Go.Value.int Go.IntKind.i64 (i)), (Go.Value.slice (Option.some (Go.Addr.mk 500 0 Option.none)) (n) (cap))] 82 false 1)), (Prod.mk 1001 (AObj.cells [(Go.Value.bool false), (Go.Value.bool false), (Go.Value.bool false), (Go.Value.bool false), (Go.Value.bool false)] 116 false 1)), (Prod.mk 1002 (AObj.cells [(Go.Value.bool (b0)), (Go.Value.bool (b1)), (Go.Value.bool true), (Go.Value.bool false), (Go.Value.bool false)] 116 false 1)), (Prod.mk 1003 (AObj.cells [(Go.Value.int Go.IntKind.i64 (w1)), (Go.Value.int Go.IntKind.i64 (t1)), (Go.Value.int Go.IntKind.i64 (h1)), (Go.Value.int Go.IntKind.i64 (m1))] 90 false 4)), (Prod.mk 1004 (AObj.cells [(Go.Value.int Go.IntKind.i64 (w2)), (Go.Value.int Go.IntKind.i64 (t2)), (Go.Value.int Go.IntKind.i64 (h2)), (Go.Value.int Go.IntKind.i64 (m2))] 90 false 4)), (Prod.mk 500 (AObj.sym (l) false 4))])
 (bcase (decide (Go.IntKind.wrap Go.IntKind.i64 (0 - gr) > c))
 (L 30014 [(Prod.mk 3 (Go.Value.pointer (Option.some (Go.Addr.mk 1000 0 Option.none)))), (Prod.mk 6 (Go.Value.pointer (Option.some (Go.Addr.mk 1001 0 Option.none)))), (Prod.mk 7 (Go.Value.pointer (Option.some (Go.Addr.mk 1002 0 Option.none)))), (Prod.mk 11 (Go.Value.pointer (Option.some (Go.Addr.mk 1003 0 Option.none)))), (Prod.mk 12 (Go.Value.pointer (Option.some (Go.Addr.mk 1004 0 Option.none))))] [(Prod.mk 1000 (AObj.cells [(Go.Value.int Go.IntKind.i64 (a)), (Go.Value.int Go.IntKind.i64 (b)), (Go.Value.int Go.IntKind.i64 (c)), (Go.Value.int Go.IntKind.i64 (d)), (Go.Value.int Go.IntKind.i64 (e)), (Go.Value.int Go.IntKind.i64 (f)), (Go.Value.int Go.IntKind.i64 (g)), (Go.Value.int Go.IntKind.i64 (h)), (Go.Value.int Go.IntKind.i64 (i)), (Go.Value.slice (Option.some (Go.Addr.mk 500 0 Option.none)) (n) (cap))] 82 false 1)), (Prod.mk 1001 (AObj.cells [(Go.Value.bool false), (Go.Value.bool false), (Go.Value.bool false), (Go.Value.bool false), (Go.Value.bool false)] 116 false 1)), (Prod.mk 1002 (AObj.cells [(Go.Value.bool (b0)), (Go.Value.bool (b1)), (Go.Value.bool true), (Go.Value.bool false), (Go.Value.bool false)] 116 false 1)), (Prod.mk 1003 (AObj.cells [(Go.Value.int Go.IntKind.i64 (w1)), (Go.Value.int Go.IntKind.i64 (t1)), (Go.Value.int Go.IntKind.i64 (h1)), (Go.Value.int Go.IntKind.i64 (m1))] 90 false 4)), (Prod.mk 1004 (AObj.cells [(Go.Value.int Go.IntKind.i64 (w2)), (Go.Value.int Go.IntKind.i64 (t2)), (Go.Value.int Go.IntKind.i64 (h2)), (Go.Value.int Go.IntKind.i64 (m2))] 90 false 4)), (Prod.mk 500 (AObj.sym (l) false 4))])
 (L 30014 [(Prod.mk 3 (Go.Value.pointer (Option.some (Go.Addr.mk 1000 0 Option.none)))), (Prod.mk 6 (Go.Value.pointer (Option.some (Go.Addr.mk 1001 0 Option.none)))), (Prod.mk 7 (Go.Value.pointer (Option.some (Go.Addr.mk 1002 0 Option.none)))), (Prod.mk 11 (Go.Value.pointer (Option.some (Go.Addr.mk 1003 0 Option.none)))), (Prod.mk 12 (Go.Value.pointer (Option.some (Go.Addr.mk 1004 0 Option.none))))] [(Prod.mk 1000 (AObj.cells [(Go.Value.int Go.IntKind.i64 (a)), (Go.Value.int Go.IntKind.i64 (b)), (Go.Value.int Go.IntKind.i64 (c)), (Go.Value.int Go.IntKind.i64 (d)), (Go.Value.int Go.IntKind.i64 (e)), (Go.Value.int Go.IntKind.i64 (f)), (Go.Value.int Go.IntKind.i64 (g)), (Go.Value.int Go.IntKind.i64 (h)), (Go.Value.int Go.IntKind.i64 (i)), (Go.Value.slice (Option.some (Go.Addr.mk 500 0 Option.none)) (n) (cap))] 82 false 1)), (Prod.mk 1001 (AObj.cells [(Go.Value.bool false), (Go.Value.bool false), (Go.Value.bool false), (Go.Value.bool false), (Go.Value.bool false)] 116 false 1)), (Prod.mk 1002 (AObj.cells [(Go.Value.bool (b0)), (Go.Value.bool (b1)), (Go.Value.bool false), (Go.Value.bool false), (Go.Value.bool false)] 116 false 1)), (Prod.mk 1003 (AObj.cells [(Go.Value.int Go.IntKind.i64 (w1)), (Go.Value.int Go.IntKind.i64 (t1)), (Go.Value.int Go.IntKind.i64 (h1)), (Go.Value.int Go.IntKind.i64 (m1))] 90 false 4)), (Prod.mk 1004 (AObj.cells [(Go.Value.int Go.IntKind.i64 (w2)), (Go.Value.int Go.IntKind.i64 (t2)), (Go.Value.int Go.IntKind.i64 (h2)), (Go.Value.int Go.IntKind.i64 (m2))] 90 false 4)), (Prod.mk 500 (AObj.sym (l) false 4))]))) := by kernel_rfl
def c70d (C : Ct) (L : AtLoop) (a b c d e f g h i : Int) (n cap : Nat) (l : List Value) (b0 b1 b2 : Bool) (w1 t1 h1 m1 w2 t2 h2 m2 : Int) (k : List D → Prop) : Prop := jNext Tryz.prog (hV C) L J70 70 30014 .normal [(3, P0 1000), (6, P0 1001), (7, P0 1002), (11, P0 1003), (12, P0 1004)] (y70 a b c d e f g h i n cap l b0 b1 b2 false false w1 t1 h1 m1 w2 t2 h2 m2) (dataK k)
theorem c70d_text (C : Ct) (L : AtLoop) (a : Int) (b : Int) (c : Int) (d : Int) (e : Int) (f : Int) (g : Int) (h : Int) (i : Int) (n : Nat) (cap : Nat) (l : List Go.Value) (b0 : Bool) (b1 : Bool) (b2 : Bool) (w1 : Int) (t1 : Int) (h1 : Int) (m1 : Int) (w2 : Int) (t2 : Int) (h2 : Int) (m2 : Int) (k : List D → Prop) : c70d C L a b c d e f g h i n cap l b0 b1 b2 w1 t1 h1 m1 w2 t2 h2 m2 k =
 ((((Go.Value.int Go.IntKind.i64 (d)) = (Go.Value.int Go.IntKind.i64 (d))) ∧
 (((Go.Value.pointer (Option.some (Go.Addr.mk 1000 3 Option.none))) = (Go.Value.pointer (Option.some (Go.Addr.mk 1000 3 Option.none)))) ∧
 (((Go.Value.pointer (Option.some (Go.Addr.mk 1000 0 Option.none))) = (Go.Value.pointer (Option.some (Go.Addr.mk 1000 0 Option.none)))) ∧
 (((Go.Value.int Go.IntKind.i64 (Go.IntKind.wrap Go.IntKind.i64 (t2 - t1))) = (Go.Value.int Go.IntKind.i64 (Go.IntKind.wrap Go.IntKind.i64 (t2 - t1)))) ∧
 (((Go.Value.int Go.IntKind.i64 (t1)) = (Go.Value.int Go.IntKind.i64 (t1))) ∧
 (((Go.Value.pointer (Option.some (Go.Addr.mk 1003 1 Option.none))) = (Go.Value.pointer (Option.some (Go.Addr.mk 1003 1 Option.none)))) ∧
 (((Go.Value.int Go.IntKind.i64 (t2)) = (Go.Value.int Go.IntKind.i64 (t2))) ∧
 (((Go.Value.pointer (Option.some (Go.Addr.mk 1004 1 Option.none))) = (Go.Value.pointer (Option.some (Go.Addr.mk 1004 1 Option.none)))) ∧
 True)))))))) ∧
 (∃ n1 : Int,
 ((Says C 91 [(D.val (Go.Value.int Go.IntKind.i64 (Go.IntKind.wrap Go.IntKind.i64 (t2 - t1))))] [(D.val (Go.Value.int Go.IntKind.i64 (n1)))]) ∧
 (bcase (decide (n1 > d))
 ((((Go.Value.pointer (Option.some (Go.Addr.mk 1002 3 Option.none))) = (Go.Value.pointer (Option.some (Go.Addr.mk 1002 3 Option.none)))) ∧
 ((bcase (decide (n1 > d))
 ((Go.Value.bool true) = (Go.Value.bool true))
 ((Go.Value.bool false) = (Go.Value.bool true))) ∧
 (((Go.Value.int Go.IntKind.i64 (d)) = (Go.Value.int Go.IntKind.i64 (d))) ∧
 (((Go.Value.pointer (Option.some (Go.Addr.mk 1000 3 Option.none))) = (Go.Value.pointer (Option.some (Go.Addr.mk 1000 3 Option.none)))) ∧
 (((Go.Value.pointer (Option.some (Go.Addr.mk 1000 0 Option.none))) = (Go.Value.pointer (Option.some (Go.Addr.mk 1000 0 Option.none)))) ∧
 (((Go.Value.int Go.IntKind.i64 (t1)) = (Go.Value.int Go.IntKind.i64 (t1))) ∧
 (((Go.Value.pointer (Option.some (Go.Addr.mk 1003 1 Option.none))) = (Go.Value.pointer (Option.some (Go.Addr.mk 1003 1 Option.none)))) ∧
 (((Go.Value.int Go.IntKind.i64 (t2)) = (Go.Value.int Go.IntKind.i64 (t2))) ∧
 (((Go.Value.pointer (Option.some (Go.Addr.mk 1004 1 Option.none))) = (Go.Value.pointer (Option.some (Go.Addr.mk 1004 1 Option.none)))) ∧
 True))))))))) ∧
 (True ∧
 (L 30015 [(Prod.mk 3 (Go.Value.pointer (Option.some (Go.Addr.mk 1000 0 Option.none)))), (Prod.mk 6 (Go.Value.pointer (Option.some (Go.Addr.mk 1001 0 Option.none)))), (Prod.mk 7 (Go.Value.pointer (Option.some (Go.Addr.mk 1002 0 Option.none)))), (Prod.mk 11 (Go.Value.pointer (Option.some (Go.Addr.mk 1003 0 Option.none)))), (Prod.mk 12 (Go.Value.pointer (Option.some (Go.Addr.mk 1004 0 Option.none))))] [(Prod.mk 1000 (AObj.cells [(Go.Value.int Go.IntKind.i64 (a)), (Go.Value.int Go.IntKind.i64 (b)), (Go.Value.int Go.IntKind.i64 (c)), (Go.Value.int Go.IntKind.i64 (d)), (Go.Value.int Go.IntKind.i64 (e)), (Go.Value.int Go.IntKind.i64 (f)), (Go.Value.int Go.IntKind.i64 (g)), (Go.Value.int Go.IntKind.i64 (h)), (Go.Value.int Go.IntKind.i64 (i)), (Go.Value.slice (Option.some (Go.Addr.mk 500 0 Option.none)) (n) (cap))] 82 false 1)), (Prod.mk 1001 (AObj.cells [(Go.Value.bool false), (Go.Value.bool false), (Go.Value.bool false), (Go.Value.bool false), (Go.Value.bool false)] 116 false 1)), (Prod.mk 1002 (AObj.cells [(Go.Value.bool (b0)), (Go.Value.bool (b1)), (Go.Value.bool (b2)), (Go.Value.bool true), (Go.Value.bool false)] 116 false 1)), (Prod.mk 1003 (AObj.cells [(Go.Value.int Go.IntKind.i64 (w1)), (Go.Value.int Go.IntKind.i64 (t1)), (Go.Value.int Go.IntKind.i64 (h1)), (Go.Value.int Go.IntKind.i64 (m1))] 90 false 4)), (Prod.mk 1004 (AObj.cells [(Go.Value.int Go.IntKind.i64 (w2)), (Go.Value.int Go.IntKind.i64 (t2)), (Go.Value.int Go.IntKind.i64 (h2)), (Go.Value.int Go.IntKind.i64 (m2))] 90 false 4)), (Prod.mk 500 (AObj.sym (l) false 4))])))
 ((((Go.Value.pointer (Option.some (Go.Addr.mk 1002 3 Option.none))) = (Go.Value.pointer (Option.some (Go.Addr.mk 1002 3 Option.none)))) ∧
 ((bcase (decide (n1 > d))
 ((Go.Value.bool true) = (Go.Value.bool false))
 ((Go.Value.bool false) = (Go.Value.bool false))) ∧
 (((Go.Value.int Go.IntKind.i64 (d)) = (Go.Value.int Go.IntKind.i64 (d))) ∧
 (((Go.Value.pointer (Option.some (Go.Addr.mk 1000 3 Option.none))) = (Go.Value.pointer (Option.some (Go.Addr.mk 1000 3 Option.none)))) ∧
 (((Go.Value.pointer (Option.some (Go.Addr.mk 1000 0 Option.none))) = (Go.Value.pointer (Option.some (Go.Addr.mk 1000 0 Option.none)))) ∧
 (((Go.Value.int Go.IntKind.i64 (t1)) = (Go.Value.int Go.IntKind.i64 (t1))) ∧
 (((Go.Value.pointer (Option.some (Go.Addr.mk 1003 1 Option.none))) = (Go.Value.pointer (Option.some (Go.Addr.mk 1003 1 Option.none)))) ∧
 (((Go.Value.int Go.IntKind.i64 (t2)) = (Go.Value.int Go.IntKind.i64 (t2))) ∧
 (((Go.Value.pointer (Option.some (Go.Addr.mk 1004 1 Option.none))) = (Go.Value.pointer (Option.some (Go.Addr.mk 1004 1 Option.none)))) ∧
 True))))))))) ∧
 (True ∧
 (L 30015 [(Prod.mk 3 (Go.Value.pointer (Option.some (Go.Addr.mk 1000 0 Option.none)))), (Prod.mk 6 (Go.Value.pointer (Option.some (Go.Addr.mk 1001 0 Option.none)))), (Prod.mk 7 (Go.Value.pointer (Option.some (Go.Addr.mk 1002 0 Option.none)))), (Prod.mk 11 (Go.Value.pointer (Option.some (Go.Addr.mk 1003 0 Option.none)))), (Prod.mk 12 (Go.Value.pointer (Option.some (Go.Addr.mk 1004 0 Option.none))))] [(Prod.mk 1000 (AObj.cells [(Go.Value.int Go.IntKind.i64 (a)), (Go.Value.int Go.IntKind.i64 (b)), (Go.Value.int Go.IntKind.i64 (c)), (Go.Value.int Go.IntKind.i64 (d)), (Go.Value.int Go.IntKind.i64 (e)), (Go.Value.int Go.IntKind.i64 (f)), (Go.Value.int Go.IntKind.i64 (g)), (Go.Value.int Go.IntKind.i64 (h)), (Go.Value.int Go.IntKind.i64 (i)), (Go.Value.slice (Option.some (Go.Addr.mk 500 0 Option.none)) (n) (cap))] 82 false 1)), (Prod.mk 1001 (AObj.cells [(Go.Value.bool false), (Go.Value.bool false), (Go.Value.bool false), (Go.Value.bool false), (Go.Value.bool false)] 116 false 1)), (Prod.mk 1002 (AObj.cells [(Go.Value.bool (b0)), (Go.Value.bool (b1)), (Go.Value.bool (b2)), (Go.Value.bool false), (Go.Value.bool false)] 116 false 1)), (Prod.mk 1003 (AObj.cells [(Go.Value.int Go.IntKind.i64 (w1)), (Go.Value.int Go.IntKind.i64 (t1)), (Go.Value.int Go.IntKind.i64 (h1)), (Go.Value.int Go.IntKind.i64 (m1))] 90 false 4)), (Prod.mk 1004 (AObj.cells [(Go.Value.int Go.IntKind.i64 (w2)), (Go.Value.int Go.IntKind.i64 (t2)), (Go.Value.int Go.IntKind.i64 (h2)), (Go.Value.int Go.IntKind.i64 (m2))] 90 false 4)), (Prod.mk 500 (AObj.sym (l) false 4))]))))))) := by kernel_rfl
def c70e (C : Ct) (L : AtLoop) (a b c d e f g h i : Int) (n cap : Nat) (l : List Value) (b0 b1 b2 b3 : Bool) (w1 t1 h1 m1 w2 t2 h2 m2 : Int) (k : List D → Prop) : Prop := jNext Tryz.prog (hV C) L J70 70 30015 .normal [(3, P0 1000), (6, P0 1001), (7, P0 1002), (11, P0 1003), (12, P0 1004)] (y70 a b c d e f g h i n cap l b0 b1 b2 b3 false w1 t1 h1 m1 w2 t2 h2 m2) (dataK k)
theorem c70e_text (C : Ct) (L : AtLoop) (a : Int) (b : Int) (c : Int) (d : Int) (e : Int) (f : Int) (g : Int) (h : Int) (i : Int) (n : Nat) (cap : Nat) (l : List Go.Value) (b0 : Bool) (b1 : Bool) (b2 : Bool) (b3 : Bool) (w1 : Int) (t1 : Int) (h1 : Int) (m1 : Int) (w2 : Int) (t2 : Int) (h2 : Int) (m2 : Int) (k : List D → Prop) : c70e C L a b c d e f g h i n cap l b0 b1 b2 b3 w1 t1 h1 m1 w2 t2 h2 m2 k =
 ((((Go.Value.int Go.IntKind.i64 (e)) = (Go.Value.int Go.IntKind.i64 (e))) ∧
 (((Go.Value.pointer (Option.some (Go.Addr.mk 1000 4 Option.none))) = (Go.Value.pointer (Option.some (Go.Addr.mk 1000 4 Option.none)))) ∧
 (((Go.Value.pointer (Option.some (Go.Addr.mk 1000 0 Option.none))) = (Go.Value.pointer (Option.some (Go.Addr.mk 1000 0 Option.none)))) ∧
 (((Go.Value.int Go.IntKind.i64 (Go.IntKind.wrap Go.IntKind.i64 (h2 - h1))) = (Go.Value.int Go.IntKind.i64 (Go.IntKind.wrap Go.IntKind.i64 (h2 - h1)))) ∧
 (((Go.Value.int Go.IntKind.i64 (h1)) = (Go.Value.int Go.IntKind.i64 (h1))) ∧
 (((Go.Value.pointer (Option.some (Go.Addr.mk 1003 2 Option.none))) = (Go.Value.pointer (Option.some (Go.Addr.mk 1003 2 Option.none)))) ∧
 (((Go.Value.int Go.IntKind.i64 (h2)) = (Go.Value.int Go.IntKind.i64 (h2))) ∧
 (((Go.Value.pointer (Option.some (Go.Addr.mk 1004 2 Option.none))) = (Go.Value.pointer (Option.some (Go.Addr.mk 1004 2 Option.none)))) ∧
 True)))))))) ∧
 (∃ n1 : Int,
 ((Says C 91 [(D.val (Go.Value.int Go.IntKind.i64 (Go.IntKind.wrap Go.IntKind.i64 (h2 - h1))))] [(D.val (Go.Value.int Go.IntKind.i64 (n1)))]) ∧
 (bcase (decide (n1 > e))
 ((((Go.Value.pointer (Option.some (Go.Addr.mk 1002 4 Option.none))) = (Go.Value.pointer (Option.some (Go.Addr.mk 1002 4 Option.none)))) ∧
 ((bcase (decide (n1 > e))
 ((Go.Value.bool true) = (Go.Value.bool true))
 ((Go.Value.bool false) = (Go.Value.bool true))) ∧
 (((Go.Value.int Go.IntKind.i64 (e)) = (Go.Value.int Go.IntKind.i64 (e))) ∧
 (((Go.Value.pointer (Option.some (Go.Addr.mk 1000 4 Option.none))) = (Go.Value.pointer (Option.some (Go.Addr.mk 1000 4 Option.none)))) ∧
 (((Go.Value.pointer (Option.some (Go.Addr.mk 1000 0 Option.none))) = (Go.Value.pointer (Option.some (Go.Addr.mk 1000 0 Option.none)))) ∧
 (((Go.Value.int Go.IntKind.i64 (h1)) = (Go.Value.int Go.IntKind.i64 (h1))) ∧
 (((Go.Value.pointer (Option.some (Go.Addr.mk 1003 2 Option.none))) = (Go.Value.pointer (Option.some (Go.Addr.mk 1003 2 Option.none)))) ∧
 (((Go.Value.int Go.IntKind.i64 (h2)) = (Go.Value.int Go.IntKind.i64 (h2))) ∧
 (((Go.Value.pointer (Option.some (Go.Addr.mk 1004 2 Option.none))) = (Go.Value.pointer (Option.some (Go.Addr.mk 1004 2 Option.none)))) ∧
 True))))))))) ∧
 (True ∧
 (L 30016 [(Prod.mk 6 (Go.Value.pointer (Option.some (Go.Addr.mk 1000 0 Option.none)))), (Prod.mk 7 (Go.Value.pointer (Option.some (Go.Addr.mk 1001 0 Option.none))))] [(Prod.mk 1000 (AObj.cells [(Go.Value.bool false), (Go.Value.bool false), (Go.Value.bool false), (Go.Value.bool false), (Go.Value.bool false)] 116 false 1)), (Prod.mk 1001 (AObj.cells [(Go.Value.bool (b0)), (Go.Value.bool (b1)), (Go.Value.bool (b2)), (Go.Value.bool (b3)), (Go.Value.bool true)] 116 false 1))])))
 ((((Go.Value.pointer (Option.some (Go.Addr.mk 1002 4 Option.none))) = (Go.Value.pointer (Option.some (Go.Addr.mk 1002 4 Option.none)))) ∧
 ((bcase (decide (n1 > e))
 ((Go.Value.bool true) = (Go.Value.bool false))
 ((Go.Value.bool false) = (Go.Value.bool false))) ∧
 (((Go.Value.int Go.IntKind.i64 (e)) = (Go.Value.int Go.IntKind.i64 (e))) ∧
 (((Go.Value.pointer (Option.some (Go.Addr.mk 1000 4 Option.none))) = (Go.Value.pointer (Option.some (Go.Addr.mk 1000 4 Option.none)))) ∧
 (((Go.Value.pointer (Option.some (Go.Addr.mk 1000 0 Option.none))) = (Go.Value.pointer (Option.some (Go.Addr.mk 1000 0 Option.none)))) ∧
 (((Go.Value.int Go.IntKind.i64 (h1)) = (Go.Value.int Go.IntKind.i64 (h1))) ∧
 (((Go.Value.pointer (Option.some (Go.Addr.mk 1003 2 Option.none))) = (Go.Value.pointer (Option.some (Go.Addr.mk 1003 2 Option.none)))) ∧
 (((Go.Value.int Go.IntKind.i64 (h2)) = (Go.Value.int Go.IntKind.i64 (h2))) ∧
 (((Go.Value.pointer (Option.some (Go.Addr.mk 1004 2 Option.none))) = (Go.Value.pointer (Option.some (Go.Addr.mk 1004 2 Option.none)))) ∧
 True))))))))) ∧
 (True ∧
 (L 30016 [(Prod.mk 6 (Go.Value.pointer (Option.some (Go.Addr.mk 1000 0 Option.none)))), (Prod.mk 7 (Go.Value.pointer (Option.some (Go.Addr.mk 1001 0 Option.none))))] [(Prod.mk 1000 (AObj.cells [(Go.Value.bool false), (Go.Value.bool false), (Go.Value.bool false), (Go.Value.bool false), (Go.Value.bool false)] 116 false 1)), (Prod.mk 1001 (AObj.cells [(Go.Value.bool (b0)), (Go.Value.bool (b1)), (Go.Value.bool (b2)), (Go.Value.bool (b3)), (Go.Value.bool false)] 116 false 1))]))))))) := by kernel_rfl
def g70J (C : Ct) (L : AtLoop) (a b c d e f g h i : Int) (n cap : Nat) (l : List Value) (m cap2 : Nat) (q : List Value) (p : Int) (k : List D → Prop) : Prop := jFn Tryz.prog (hV C) L J70 70 #[vMix a b c d e f g h i (S500 n cap), S501 m cap2, .int .i64 p] (heapOf [I500 l, Q501 q]) (dataK k)
theorem g70J_text (C : Ct) (L : AtLoop) (a : Int) (b : Int) (c : Int) (d : Int) (e : Int) (f : Int) (g : Int) (h : Int) (i : Int) (n : Nat) (cap : Nat) (l : List Go.Value) (m : Nat) (cap2 : Nat) (q : List Go.Value) (p : Int) (k : List D → Prop) : g70J C L a b c d e f g h i n cap l m cap2 q p k =
 (bcase (decide (0 ≤ Go.IntKind.wrap Go.IntKind.i64 (p + 1)))
 (bcase (decide (Go.IntKind.wrap Go.IntKind.i64 (p + 1) ≤ (↑cap2 : Int)))
 (L 0 [(Prod.mk 1 (Go.Value.slice (Option.some (Go.Addr.mk 501 0 Option.none)) (m) (cap2))), (Prod.mk 2 (Go.Value.int Go.IntKind.i64 (p))), (Prod.mk 3 (Go.Value.pointer (Option.some (Go.Addr.mk 1000 0 Option.none)))), (Prod.mk 6 (Go.Value.pointer (Option.some (Go.Addr.mk 1001 0 Option.none)))), (Prod.mk 7 (Go.Value.pointer (Option.some (Go.Addr.mk 1002 0 Option.none)))), (Prod.mk 8 (Go.Value.int Go.IntKind.i64 (0 : Int))), (Prod.mk 17 (Go.Value.slice (Option.some (Go.Addr.mk 501 0 Option.none)) (Int.toNat (Go.IntKind.wrap Go.IntKind.i64 (p + 1)) - 0) (cap2 - 0))), (Prod.mk 18 (Go.Value.int Go.IntKind.i64 ((↑(Int.toNat (Go.IntKind.wrap Go.IntKind.i64 (p + 1)) - 0) : Int)))), (Prod.mk 19 (Go.Value.int Go.IntKind.i64 (0 : Int)))] [(Prod.mk 501 (AObj.sym (q) false 1)), (Prod.mk 1000 (AObj.cells [(Go.Value.int Go.IntKind.i64 (a)), (Go.Value.int Go.IntKind.i64 (b)), (Go.Value.int Go.IntKind.i64 (c)), (Go.Value.int Go.IntKind.i64 (d)), (Go.Value.int Go.IntKind.i64 (e)), (Go.Value.int Go.IntKind.i64 (f)), (Go.Value.int Go.IntKind.i64 (g)), (Go.Value.int Go.IntKind.i64 (h)), (Go.Value.int Go.IntKind.i64 (i)), (Go.Value.slice (Option.some (Go.Addr.mk 500 0 Option.none)) (n) (cap))] 82 false 1)), (Prod.mk 1001 (AObj.cells [(Go.Value.bool false), (Go.Value.bool false), (Go.Value.bool false), (Go.Value.bool false), (Go.Value.bool false)] 116 false 1)), (Prod.mk 1002 (AObj.cells [(Go.Value.bool false), (Go.Value.bool false), (Go.Value.bool false), (Go.Value.bool false), (Go.Value.bool false)] 116 false 1)), (Prod.mk 500 (AObj.sym (l) false 4))])
 False)
 False) := by kernel_rfl
def c70f (C : Ct) (L : AtLoop) (b0 b1 b2 b3 b4 : Bool) (k : List D → Prop) : Prop := jNext Tryz.prog (hV C) L J70 70 30016 .normal [(6, P0 1000), (7, P0 1001)] [B5 1000 false false false false false, B5 1001 b0 b1 b2 b3 b4] (dataK k)
theorem c70f_text (C : Ct) (L : AtLoop) (b0 : Bool) (b1 : Bool) (b2 : Bool) (b3 : Bool) (b4 : Bool) (k : List D → Prop) : c70f C L b0 b1 b2 b3 b4 k =
 (k [(D.agg [(D.val (Go.Value.bool (b0))), (D.val (Go.Value.bool (b1))), (D.val (Go.Value.bool (b2))), (D.val (Go.Value.bool (b3))), (D.val (Go.Value.bool (b4)))])]) := by kernel_rfl
def r70J (C : Ct) (L : AtLoop) (a b c d e f g h i : Int) (n cap : Nat) (l : List Value) (m cap2 : Nat) (q : List Value) (p mt : Int) (z cap3 : Nat) (j : Int) (B : Bx) (X : Xx) (k : List D → Prop) : Prop := jRound Tryz.prog (hV C) L J70 70 0 (s70 m cap2 p mt z cap3 j) [Q501 q, M1000 a b c d e f g h i (S500 n cap), B5 1001 false false false false false, B5 1002 false false false false false, I500 l] B X (dataK k)
theorem r70J_text (C : Ct) (L : AtLoop) (a : Int) (b : Int) (c : Int) (d : Int) (e : Int) (f : Int) (g : Int) (h : Int) (i : Int) (n : Nat) (cap : Nat) (l : List Go.Value) (m : Nat) (cap2 : Nat) (q : List Go.Value) (p : Int) (mt : Int) (z : Nat) (cap3 : Nat) (j : Int) (B : Bx) (X : Xx) (k : List D → Prop) : r70J C L a b c d e f g h i n cap l m cap2 q p mt z cap3 j B X k =
 (bcase (decide (j < (↑z : Int)))
 (bcase (decide (0 ≤ j))
 (bcase (decide (j < (↑z : Int)))
 (∃ n1 : Int,
 ((At (q) (0 + Int.toNat j * 1) 1 [(Go.Value.int Go.IntKind.i64 (n1))]) ∧
 (bcase (decide (0 ≤ n1))
 (bcase (decide (n1 < (↑n : Int)))
 (∃ n2 : Int,
 ((At (l) (Go.Addr.off { block := 500, off := 0 + Int.toNat n1 * 4 } + 3) 1 [(Go.Value.int Go.IntKind.i64 (n2))]) ∧
 (B [(Prod.mk 1 (Go.Value.slice (Option.some (Go.Addr.mk 501 0 Option.none)) (m) (cap2))), (Prod.mk 2 (Go.Value.int Go.IntKind.i64 (p))), (Prod.mk 3 (Go.Value.pointer (Option.some (Go.Addr.mk 1000 0 Option.none)))), (Prod.mk 6 (Go.Value.pointer (Option.some (Go.Addr.mk 1001 0 Option.none)))), (Prod.mk 7 (Go.Value.pointer (Option.some (Go.Addr.mk 1002 0 Option.none)))), (Prod.mk 8 (Go.Value.int Go.IntKind.i64 (Go.IntKind.wrap Go.IntKind.i64 (mt + n2)))), (Prod.mk 17 (Go.Value.slice (Option.some (Go.Addr.mk 501 0 Option.none)) (z) (cap3))), (Prod.mk 18 (Go.Value.int Go.IntKind.i64 ((↑z : Int)))), (Prod.mk 19 (Go.Value.int Go.IntKind.i64 (Go.IntKind.wrap Go.IntKind.i64 (j + 1))))] [(Prod.mk 501 (AObj.sym (q) false 1)), (Prod.mk 1000 (AObj.cells [(Go.Value.int Go.IntKind.i64 (a)), (Go.Value.int Go.IntKind.i64 (b)), (Go.Value.int Go.IntKind.i64 (c)), (Go.Value.int Go.IntKind.i64 (d)), (Go.Value.int Go.IntKind.i64 (e)), (Go.Value.int Go.IntKind.i64 (f)), (Go.Value.int Go.IntKind.i64 (g)), (Go.Value.int Go.IntKind.i64 (h)), (Go.Value.int Go.IntKind.i64 (i)), (Go.Value.slice (Option.some (Go.Addr.mk 500 0 Option.none)) (n) (cap))] 82 false 1)), (Prod.mk 1001 (AObj.cells [(Go.Value.bool false), (Go.Value.bool false), (Go.Value.bool false), (Go.Value.bool false), (Go.Value.bool false)] 116 false 1)), (Prod.mk 1002 (AObj.cells [(Go.Value.bool false), (Go.Value.bool false), (Go.Value.bool false), (Go.Value.bool false), (Go.Value.bool false)] 116 false 1)), (Prod.mk 500 (AObj.sym (l) false 4))])))
 False)
 False)))
 False)
 False)
 (X 0 [(Prod.mk 1 (Go.Value.slice (Option.some (Go.Addr.mk 501 0 Option.none)) (m) (cap2))), (Prod.mk 2 (Go.Value.int Go.IntKind.i64 (p))), (Prod.mk 3 (Go.Value.pointer (Option.some (Go.Addr.mk 1000 0 Option.none)))), (Prod.mk 6 (Go.Value.pointer (Option.some (Go.Addr.mk 1001 0 Option.none)))), (Prod.mk 7 (Go.Value.pointer (Option.some (Go.Addr.mk 1002 0 Option.none)))), (Prod.mk 8 (Go.Value.int Go.IntKind.i64 (mt)))] [(Prod.mk 501 (AObj.sym (q) false 1)), (Prod.mk 1000 (AObj.cells [(Go.Value.int Go.IntKind.i64 (a)), (Go.Value.int Go.IntKind.i64 (b)), (Go.Value.int Go.IntKind.i64 (c)), (Go.Value.int Go.IntKind.i64 (d)), (Go.Value.int Go.IntKind.i64 (e)), (Go.Value.int Go.IntKind.i64 (f)), (Go.Value.int Go.IntKind.i64 (g)), (Go.Value.int Go.IntKind.i64 (h)), (Go.Value.int Go.IntKind.i64 (i)), (Go.Value.slice (Option.some (Go.Addr.mk 500 0 Option.none)) (n) (cap))] 82 false 1)), (Prod.mk 1001 (AObj.cells [(Go.Value.bool false), (Go.Value.bool false), (Go.Value.bool false), (Go.Value.bool false), (Go.Value.bool false)] 116 false 1)), (Prod.mk 1002 (AObj.cells [(Go.Value.bool false), (Go.Value.bool false), (Go.Value.bool false), (Go.Value.bool false), (Go.Value.bool false)] 116 false 1)), (Prod.mk 500 (AObj.sym (l) false 4))])) := by kernel_rfl
end Go.Proofs.C1R

/- Contracts of chapter 1: which rules a sequence violates at a position. -/
namespace Go.Proofs.C1R
open Go Go.Abs Go.Proofs Go.Proofs.C1
set_option maxRecDepth 100000
theorem at4 {l : List Value} {k : Nat} {a b c d : Int} (h : At l k 4 [.int .i64 a, .int .i64 b, .int .i64 c, .int .i64 d]) {Q : Int → Int → Int → Int → Prop} : (∃ n : Int, ∃ m : Int, ∃ o : Int, ∃ p : Int, At l k 4 [.int .i64 n, .int .i64 m, .int .i64 o, .int .i64 p] ∧ Q n m o p) = Q a b c d := by
  apply propext
  constructor
  · rintro ⟨n, m, o, p, hn, hq⟩
    have e := hn.eq.symm.trans h.eq
    simp only [List.cons.injEq, Value.int.injEq, true_and, and_true] at e
    obtain ⟨rfl, rfl, rfl, rfl⟩ := e; exact hq
  · intro hq; exact ⟨a, b, c, d, h, hq⟩
theorem at1' {l : List Value} {k : Nat} {a : Int} (h : At l k 1 [.int .i64 a]) {Q : Int → Prop} : (∃ n : Int, At l k 1 [.int .i64 n] ∧ Q n) = Q a := by
  apply propext
  constructor
  · rintro ⟨n, hn, hq⟩
    have e := hn.eq.symm.trans h.eq
    simp only [List.cons.injEq, Value.int.injEq, true_and, and_true] at e
    rw [← e]; exact hq
  · intro hq; exact ⟨a, h, hq⟩
theorem bt {p : Prop} [Decidable p] {x y : Prop} (h : p) : bcase (decide p) x y = x := by rw [decide_eq_true h]; rfl
/-- the metres of a sequence -/
def metE (l : List It) : List Int → Int
  | [] => 0
  | i :: t => (l.getD i.toNat itD).m + metE l t
theorem metE_snoc (l : List It) (i : Int) : ∀ q : List Int, metE l (q ++ [i]) = metE l q + (l.getD i.toNat itD).m
  | [] => by simp [metE]
  | j :: t => by rw [List.cons_append, metE, metE, metE_snoc l i t]; omega
def itAt (l : List It) (q : List Int) (p : Nat) : It := l.getD (q.getD p 0).toNat itD
def v0 (r : Ru) (l : List It) (q : List Int) (p : Nat) : Bool := decide (metE l (q.take (p + 1)) > r.me)
def grow (l : List It) (q : List Int) (p : Nat) : Int := (itAt l q p).w - (itAt l q (p - 1)).w
def v1 (r : Ru) (l : List It) (q : List Int) (p : Nat) : Bool := decide ((((p : Int) < r.op) ∧ grow l q p < 0) ∨ ((p : Int) ≥ r.op ∧ grow l q p > 0))
def v2 (r : Ru) (l : List It) (q : List Int) (p : Nat) : Bool := decide (grow l q p > r.wu ∨ 0 - grow l q p > r.wd)
def v3 (r : Ru) (l : List It) (q : List Int) (p : Nat) : Bool := decide (sz ((itAt l q p).t - (itAt l q (p - 1)).t) > r.tj)
def v4 (r : Ru) (l : List It) (q : List Int) (p : Nat) : Bool := decide (sz ((itAt l q p).h - (itAt l q (p - 1)).h) > r.hj)
/-- the five answers at a position -/
def vioD (r : Ru) (l : List It) (q : List Int) (p : Nat) : D :=
  if p = 0 then .agg [dB (v0 r l q p), dB false, dB false, dB false, dB false] else .agg [dB (v0 r l q p), dB (v1 r l q p), dB (v2 r l q p), dB (v3 r l q p), dB (v4 r l q p)]
theorem itAt_eq {l : List It} {q : List Int} (hs : SeqOk l q) {p : Nat} (hp : p < q.length) : ∃ h : q[p].toNat < l.length, itAt l q p = l[q[p].toNat] := by
  obtain ⟨a0, a1⟩ := hs.ins p hp
  have ha : q[p].toNat < l.length := by omega
  refine ⟨ha, ?_⟩
  simp [itAt, List.getD_eq_getElem?_getD, hp, ha]
theorem itAt_ok {l : List It} {q : List Int} (hs : SeqOk l q) {p : Nat} (hp : p < q.length) : itOk (itAt l q p) := by
  obtain ⟨h, e⟩ := itAt_eq hs hp
  rw [e]; exact hs.its _ h
theorem met_bound {l : List It} {q : List Int} (hs : SeqOk l q) : ∀ i, i ≤ q.length → 0 ≤ metE l (q.take i) ∧ metE l (q.take i) ≤ (i : Int) * 10000
  | 0, _ => by simp [metE]
  | i + 1, h => by
    have ih := met_bound hs i (by omega)
    have hi : i < q.length := by omega
    have hk := itAt_ok hs hi
    have e : (l.getD q[i].toNat itD) = itAt l q i := by simp [itAt, List.getD_eq_getElem?_getD, hi]
    rw [List.take_succ_eq_append_getElem hi, metE_snoc, e]
    omega
theorem con70 {r : Ru} {l : List It} {q : List Int} (hr : ruOk r) (hs : SeqOk l q) {p : Nat} (hp : p < q.length) : Con Tryz.prog 70 [dMix r l, dInts q, dI (p : Int)] [vioD r l q p] := by
  have hfew := hs.few
  have hfit := hs.fit
  let st0 : Nat × (Nat × Nat) → Slots × Blocks := fun y => (s70 q.length y.2.2 p (metE l (q.take y.1)) (p + 1) y.2.2 (y.1 : Int), [Q501 (vi q), M1000 r.op r.wu r.wd r.tj r.hj r.me r.wp r.tp r.hp (S500 l.length y.2.1), B5 1001 false false false false false, B5 1002 false false false false false, I500 (vq l)])
  let x := itAt l q (p - 1)
  let y := itAt l q p
  let P1 : Nat → Slots × Blocks → Prop := fun id sb =>
    (id = 0 ∧ ∃ z : Nat × (Nat × Nat), z.1 ≤ p + 1 ∧ st0 z = sb) ∨
    (id = 30008 ∧ ∃ c1 c2 : Nat, ([(1, S501 q.length c2), (2, .int .i64 (p : Int)), (3, P0 1000), (6, P0 1001), (7, P0 1002)], [Q501 (vi q), M1000 r.op r.wu r.wd r.tj r.hj r.me r.wp r.tp r.hp (S500 l.length c1), B5 1001 false false false false false, B5 1002 (v0 r l q p) false false false false, I500 (vq l)]) = sb) ∨
    (id = 30011 ∧ 0 < p ∧ ∃ c1 : Nat, ([(2, .int .i64 (p : Int)), (3, P0 1000), (6, P0 1001), (7, P0 1002), (11, P0 1003), (12, P0 1004)], [M1000 r.op r.wu r.wd r.tj r.hj r.me r.wp r.tp r.hp (S500 l.length c1), B5 1001 false false false false false, B5 1002 (v0 r l q p) false false false false, It4 1003 x.w x.t x.h x.m, It4 1004 y.w y.t y.h y.m, I500 (vq l)]) = sb) ∨
    (id = 30013 ∧ 0 < p ∧ ∃ c1 : Nat, (x70 (grow l q p), y70 r.op r.wu r.wd r.tj r.hj r.me r.wp r.tp r.hp l.length c1 (vq l) (v0 r l q p) (v1 r l q p) false false false x.w x.t x.h x.m y.w y.t y.h y.m) = sb) ∨
    (id = 30014 ∧ 0 < p ∧ ∃ c1 : Nat, ([(3, P0 1000), (6, P0 1001), (7, P0 1002), (11, P0 1003), (12, P0 1004)], y70 r.op r.wu r.wd r.tj r.hj r.me r.wp r.tp r.hp l.length c1 (vq l) (v0 r l q p) (v1 r l q p) (v2 r l q p) false false x.w x.t x.h x.m y.w y.t y.h y.m) = sb) ∨
    (id = 30015 ∧ 0 < p ∧ ∃ c1 : Nat, ([(3, P0 1000), (6, P0 1001), (7, P0 1002), (11, P0 1003), (12, P0 1004)], y70 r.op r.wu r.wd r.tj r.hj r.me r.wp r.tp r.hp l.length c1 (vq l) (v0 r l q p) (v1 r l q p) (v2 r l q p) (v3 r l q p) false x.w x.t x.h x.m y.w y.t y.h y.m) = sb) ∨
    (id = 30016 ∧ 0 < p ∧ ([(6, P0 1000), (7, P0 1001)], [B5 1000 false false false false false, B5 1001 (v0 r l q p) (v1 r l q p) (v2 r l q p) (v3 r l q p) (v4 r l q p)]) = sb)
  have hx : 0 < p → itOk x := fun h => itAt_ok hs (by omega)
  have hy : itOk y := itAt_ok hs hp
  refine con_J (L := fun id s b => P1 id (s, b)) hok mixed J70 Tryz.func70 rfl (by show 2 ≤ 400; omega) rfl (pts := [0, 30008, 30011, 30013, 30014, 30015, 30016]) (loops := [0]) (by kernel_rfl) rfl (fun caps hcaps => ?_) (fun id hid hno s b hL => ?_) (fun id hid => ?_)
  · show g70J _ _ r.op r.wu r.wd r.tj r.hj r.me r.wp r.tp r.hp l.length (caps 500) (vq l) q.length (caps 501) (vi q) (p : Int) _
    rw [g70J_text]
    have hc : q.length ≤ caps 501 := by
      have := hcaps
      simp [capsL, layVals, layCells, countC] at this
      omega
    rw [w64 (z := (p : Int) + 1) (by omega) (by omega)]
    refine bc_yes (by omega) (bc_yes (by omega) ?_)
    refine .inl ⟨rfl, (0, (caps 500, caps 501)), Nat.zero_le _, ?_⟩
    have e1 : ((p : Int) + 1).toNat - 0 = p + 1 := by omega
    rw [e1]; rfl
  · rcases hL with ⟨rfl, _⟩ | ⟨rfl, c1, c2, he⟩ | ⟨rfl, h0, c1, he⟩ | ⟨rfl, h0, c1, he⟩ | ⟨rfl, h0, c1, he⟩ | ⟨rfl, h0, c1, he⟩ | ⟨rfl, h0, he⟩
    · exact absurd (List.mem_singleton.2 rfl) hno
    · obtain ⟨rfl, rfl⟩ := Prod.mk.inj he
      show c70a _ _ r.op r.wu r.wd r.tj r.hj r.me r.wp r.tp r.hp l.length c1 (vq l) q.length c2 (vi q) (p : Int) (v0 r l q p) _
      rw [c70a_text]
      refine bc_beq (fun h => ?_) (fun h => ?_)
      · have hp0 : p = 0 := by omega
        show [_] = [_]
        rw [vioD, if_pos hp0]
      · have h1 : p - 1 < q.length := by omega
        obtain ⟨a0, a1⟩ := hs.ins (p - 1) h1
        obtain ⟨b0, b1⟩ := hs.ins p hp
        obtain ⟨ha, ea⟩ := itAt_eq hs h1
        obtain ⟨hb, eb⟩ := itAt_eq hs hp
        have hw : IntKind.wrap .i64 ((p : Int) - 1) = ((p - 1 : Nat) : Int) := by rw [w64 (by omega) (by omega)]; omega
        have z0 : (0 : Int) ≤ ((p - 1 : Nat) : Int) := by omega
        have z1 : ((p - 1 : Nat) : Int) < (q.length : Int) := by omega
        have z2 : (0 : Int) ≤ (p : Int) := by omega
        have z3 : (p : Int) < (q.length : Int) := by omega
        simp only [hw, bt z0, bt z1, bt z2, bt z3, Int.toNat_natCast, at1' (vi_at q (p - 1) h1), at1' (vi_at q p hp), bt a0, bt a1, bt b0, bt b1, at4 (vq_four l _ ha), at4 (vq_four l _ hb), eq_self, true_and, and_true]
        refine .inr (.inr (.inl ⟨rfl, by omega, c1, ?_⟩))
        have ex : x = l[q[p - 1].toNat] := ea
        have ey : y = l[q[p].toNat] := eb
        rw [ex, ey]
    · obtain ⟨rfl, rfl⟩ := Prod.mk.inj he
      show c70b _ _ r.op r.wu r.wd r.tj r.hj r.me r.wp r.tp r.hp l.length c1 (vq l) (p : Int) (v0 r l q p) x.w x.t x.h x.m y.w y.t y.h y.m _
      rw [c70b_text]
      have hx' := hx h0
      have hg : IntKind.wrap .i64 (y.w - x.w) = grow l q p := by rw [w64 (by omega) (by omega)]; rfl
      simp only [hg]
      have go : ∀ b, b = v1 r l q p → P1 30013 (x70 (grow l q p), y70 r.op r.wu r.wd r.tj r.hj r.me r.wp r.tp r.hp l.length c1 (vq l) (v0 r l q p) b false false false x.w x.t x.h x.m y.w y.t y.h y.m) := by
        rintro b rfl
        exact .inr (.inr (.inr (.inl ⟨rfl, h0, c1, rfl⟩)))
      have yes : (((p : Int) < r.op ∧ grow l q p < 0) ∨ ((p : Int) ≥ r.op ∧ grow l q p > 0)) → true = v1 r l q p := fun h => (decide_eq_true h).symm
      have no : ¬ (((p : Int) < r.op ∧ grow l q p < 0) ∨ ((p : Int) ≥ r.op ∧ grow l q p > 0)) → false = v1 r l q p := fun h => (decide_eq_false h).symm
      repeat' first
        | exact go true (yes (by omega))
        | exact go false (no (by omega))
        | refine bc_dec (fun _ => ?_) (fun _ => ?_)
    · obtain ⟨rfl, rfl⟩ := Prod.mk.inj he
      show c70c _ _ r.op r.wu r.wd r.tj r.hj r.me r.wp r.tp r.hp l.length c1 (vq l) (v0 r l q p) (v1 r l q p) x.w x.t x.h x.m y.w y.t y.h y.m (grow l q p) _
      rw [c70c_text]
      have hx' := hx h0
      have hgb : -2000 ≤ grow l q p ∧ grow l q p ≤ 2000 := by
        show -2000 ≤ y.w - x.w ∧ y.w - x.w ≤ 2000
        omega
      rw [w64 (z := 0 - grow l q p) (by omega) (by omega)]
      have go : ∀ b, b = v2 r l q p → P1 30014 ([(3, P0 1000), (6, P0 1001), (7, P0 1002), (11, P0 1003), (12, P0 1004)], y70 r.op r.wu r.wd r.tj r.hj r.me r.wp r.tp r.hp l.length c1 (vq l) (v0 r l q p) (v1 r l q p) b false false x.w x.t x.h x.m y.w y.t y.h y.m) := by
        rintro b rfl
        exact .inr (.inr (.inr (.inr (.inl ⟨rfl, h0, c1, rfl⟩))))
      have yes : (grow l q p > r.wu ∨ 0 - grow l q p > r.wd) → true = v2 r l q p := fun h => (decide_eq_true h).symm
      have no : ¬ (grow l q p > r.wu ∨ 0 - grow l q p > r.wd) → false = v2 r l q p := fun h => (decide_eq_false h).symm
      repeat' first
        | exact go true (yes (by omega))
        | exact go false (no (by omega))
        | refine bc_dec (fun _ => ?_) (fun _ => ?_)
    · obtain ⟨rfl, rfl⟩ := Prod.mk.inj he
      show c70d _ _ r.op r.wu r.wd r.tj r.hj r.me r.wp r.tp r.hp l.length c1 (vq l) (v0 r l q p) (v1 r l q p) (v2 r l q p) x.w x.t x.h x.m y.w y.t y.h y.m _
      rw [c70d_text]
      have hx' := hx h0
      rw [w64 (z := y.t - x.t) (by omega) (by omega)]
      simp only [eq_self, true_and, and_true]
      have go : ∀ b, b = v3 r l q p → P1 30015 ([(3, P0 1000), (6, P0 1001), (7, P0 1002), (11, P0 1003), (12, P0 1004)], y70 r.op r.wu r.wd r.tj r.hj r.me r.wp r.tp r.hp l.length c1 (vq l) (v0 r l q p) (v1 r l q p) (v2 r l q p) b false x.w x.t x.h x.m y.w y.t y.h y.m) := by
        rintro b rfl
        exact .inr (.inr (.inr (.inr (.inr (.inl ⟨rfl, h0, c1, rfl⟩)))))
      refine ⟨_, ⟨con91 (y.t - x.t) (by omega) (by omega)⟩, bc_dec (fun h => ?_) (fun h => ?_)⟩
      · exact ⟨bc_yes h trivial, go true (decide_eq_true h).symm⟩
      · exact ⟨bc_no h trivial, go false (decide_eq_false h).symm⟩
    · obtain ⟨rfl, rfl⟩ := Prod.mk.inj he
      show c70e _ _ r.op r.wu r.wd r.tj r.hj r.me r.wp r.tp r.hp l.length c1 (vq l) (v0 r l q p) (v1 r l q p) (v2 r l q p) (v3 r l q p) x.w x.t x.h x.m y.w y.t y.h y.m _
      rw [c70e_text]
      have hx' := hx h0
      rw [w64 (z := y.h - x.h) (by omega) (by omega)]
      simp only [eq_self, true_and, and_true]
      have go : ∀ b, b = v4 r l q p → P1 30016 ([(6, P0 1000), (7, P0 1001)], [B5 1000 false false false false false, B5 1001 (v0 r l q p) (v1 r l q p) (v2 r l q p) (v3 r l q p) b]) := by
        rintro b rfl
        exact .inr (.inr (.inr (.inr (.inr (.inr ⟨rfl, h0, rfl⟩)))))
      refine ⟨_, ⟨con91 (y.h - x.h) (by omega) (by omega)⟩, bc_dec (fun h => ?_) (fun h => ?_)⟩
      · exact ⟨bc_yes h trivial, go true (decide_eq_true h).symm⟩
      · exact ⟨bc_no h trivial, go false (decide_eq_false h).symm⟩
    · obtain ⟨rfl, rfl⟩ := Prod.mk.inj he
      show c70f _ _ (v0 r l q p) (v1 r l q p) (v2 r l q p) (v3 r l q p) (v4 r l q p) _
      rw [c70f_text]
      show [_] = [_]
      rw [vioD, if_neg (by omega)]
  · obtain rfl := List.mem_singleton.1 hid
    refine ⟨{ Y := Nat × (Nat × Nat), st := st0, inv := fun z => z.1 ≤ p + 1, m := fun z => p + 1 - z.1, head := fun s b h => ?_, pts := [], loops := [], is := by kernel_rfl, nd := rfl, round := fun z hz => ⟨fun _ _ _ => False, ?_, fun _ h => (List.not_mem_nil h).elim, fun _ h => (List.not_mem_nil h).elim⟩ }⟩
    · rcases h with ⟨_, z, hz, he⟩ | ⟨h, _⟩ | ⟨h, _⟩ | ⟨h, _⟩ | ⟨h, _⟩ | ⟨h, _⟩ | ⟨h, _⟩
      · exact ⟨z, hz, he⟩
      all_goals exact absurd h (by decide)
    · obtain ⟨i, c1, c2⟩ := z
      simp only at hz
      show r70J _ _ r.op r.wu r.wd r.tj r.hj r.me r.wp r.tp r.hp l.length c1 (vq l) q.length c2 (vi q) (p : Int) (metE l (q.take i)) (p + 1) c2 (i : Int) _ _ _
      rw [r70J_text]
      refine bc_dec (fun h => ?_) (fun h => ?_)
      · have hi : i < q.length := by omega
        obtain ⟨a0, a1⟩ := hs.ins i hi
        obtain ⟨ha, ea⟩ := itAt_eq hs hi
        have hb := met_bound hs i (by omega)
        have hk := itAt_ok hs hi
        have z0 : (0 : Int) ≤ (i : Int) := by omega
        have hm4 := vq_last l _ ha
        refine bc_yes z0 (bc_yes h ⟨_, by simpa using vi_at q i hi, bc_yes a0 (bc_yes a1 ⟨_, hm4, ?_⟩)⟩)
        refine ⟨(i + 1, (c1, c2)), by show i + 1 ≤ p + 1; omega, by show p + 1 - (i + 1) < p + 1 - i; omega, ?_⟩
        have e : (l.getD q[i].toNat itD) = itAt l q i := by simp [itAt, List.getD_eq_getElem?_getD, hi]
        have e2 : metE l (q.take (i + 1)) = metE l (q.take i) + l[q[i].toNat].m := by
          rw [List.take_succ_eq_append_getElem hi, metE_snoc, e, ea]
        rw [ea] at hk
        rw [w64 (z := metE l (q.take i) + _) (by omega) (by omega), w64 (by omega) (by omega), ← e2]
        rfl
      · show (if 0 = 0 then _ else _)
        rw [if_pos rfl]
        show n70J _ _ r.op r.wu r.wd r.tj r.hj r.me r.wp r.tp r.hp l.length c1 (vq l) q.length c2 (vi q) (p : Int) (metE l (q.take i)) _
        rw [n70J_text]
        have hi : i = p + 1 := by omega
        subst hi
        refine bc_dec (fun h => ?_) (fun h => ?_)
        · refine .inr (.inl ⟨rfl, c1, c2, ?_⟩)
          rw [show v0 r l q p = true from decide_eq_true h]
        · refine .inr (.inl ⟨rfl, c1, c2, ?_⟩)
          rw [show v0 r l q p = false from decide_eq_false h]
end Go.Proofs.C1R

/- A call that gives back what it was handed (a copy). -/
namespace Go.Abs
/-- Data are laid as they are. -/
def layC : List D → Heap → (List Value → Heap → Prop) → Prop
  | [], H, k => k [] H
  | .nil :: r, H, k => layC r H fun vs H' => k (.slice none 0 0 :: vs) H'
  | .sl n es cs :: r, H, k => layC r (H.new (.sym cs true es)) fun vs H' => k (.slice (some ⟨H.next, 0, none⟩) n n :: vs) H'
  | .val v :: r, H, k => match v with
    | .agg _ => False
    | v => layC r H fun vs H' => k (v :: vs) H'
  | .agg _ :: _, _, _ => False
def layV : List D → Heap → (List Value → Heap → Prop) → Prop
  | [], H, k => k [] H
  | .agg ds :: r, H, k => layC ds H fun vs H1 => layV r H1 fun us H2 => k (.agg vs.toArray :: us) H2
  | d :: r, H, k => layC [d] H fun vs H1 => match vs with
    | [v] => layV r H1 fun us H2 => k (v :: us) H2
    | _ => False
def wpSame (C : FuncId → List D → List D → Prop) (g : FuncId) (args : Array Value) (H : Heap) (k : Value → Heap → Prop) : Prop :=
  readVals H args.toList fun ds => Says C g ds ds ∧ layV ds H fun vs H' => k (tupleOf vs) H'
def handlerS (C : FuncId → List D → List D → Prop) (same : FuncId → Bool) (base : Handler) : Handler := fun g args ats H k =>
  if same g then wpSame C g args H k else base g args ats H k
/-- A call whose result is known by the shape of what it was handed. -/
def wpFix (C : FuncId → List D → List D → Prop) (g : FuncId) (fix : List D → Option (List D)) (args : Array Value) (H : Heap) (k : Value → Heap → Prop) : Prop :=
  readVals H args.toList fun ds => match fix ds with
    | some rs => Says C g ds rs ∧ layV rs H fun vs H' => k (tupleOf vs) H'
    | none => False
def handlerF (C : FuncId → List D → List D → Prop) (fix : FuncId → Option (List D → Option (List D))) (base : Handler) : Handler := fun g args ats H k =>
  match fix g with
  | some f => wpFix C g f args H k
  | none => base g args ats H k
/-- A copy of whole numbers is never nil. -/
def copyInts : List D → Option (List D)
  | [.nil] => some [.sl 0 1 []]
  | [.sl n es cs] => some [.sl n es cs]
  | _ => none
/-- A struct that begins with a list: the list is copied. -/
def copyFirst : List D → Option (List D)
  | [.agg (.nil :: r)] => some [.agg (.sl 0 1 [] :: r)]
  | [.agg (.sl n es cs :: r)] => some [.agg (.sl n es cs :: r)]
  | _ => none
end Go.Abs

/- Handlers by a table: each function is met in its own way, the others are entered. -/
namespace Go.Abs
def saidH (P : Program) (C : FuncId → List D → List D → Prop) : Handler := fun g args _ H k =>
  match P.funcs[g]? with | some fn => wpSaid P C g fn.resultTypes.toList args H k | none => False
def sameH (C : FuncId → List D → List D → Prop) : Handler := fun g args _ H k => wpSame C g args H k
def fixH (C : FuncId → List D → List D → Prop) (fix : List D → Option (List D)) : Handler := fun g args _ H k => wpFix C g fix args H k
def stateH (s : SpecS) : Handler := fun _ args _ H k => wpState s args H k
/-- (u: so many rounds of the loops of what is entered) -/
def handlerX (P : Program) (pre : FuncId → Option Handler) (u : Nat) : Nat → Handler
  | 0 => fun _ _ _ _ _ => False
  | n + 1 => fun g args ats H k =>
    match pre g with
    | some h => h g args ats H k
    | none => wpFn P (handlerX P pre u n) (fun _ _ _ => False) u g args H k
/-- A check that all of some numbers lie in a range: what it says. -/
def limE (lo hi : Int) : List Value → Int
  | [] => 0
  | .int _ n :: r => if n < lo ∨ n > hi then 2 else limE lo hi r
  | _ :: r => limE lo hi r
def limC : FuncId → List D → List D → Prop := fun _ ds rs =>
  match ds, rs with
  | [.val (.int _ lo), .val (.int _ hi), .sl _ _ cs], [.val (.int _ e)] => e = limE lo hi cs
  | _, _ => False
def limOut (lo hi : Int) (cs : List Value) (bs : Blocks) (K : Value → Blocks → Prop) : Prop :=
  ∃ e : Int, Says limC 0 [.val (.int .i64 lo), .val (.int .i64 hi), .sl cs.length 1 cs] [.val (.int .i64 e)] ∧ K (.int .i64 e) bs
/-- The function that limit(lo, hi) returns, handed so many numbers. -/
def limSpec (ti : TypeId) (n : Nat) : SpecS := fun args bs K =>
  match args, bs with
  | [.slice (some ⟨i, 0, none⟩) m _, .pointer (some ⟨a, 0, none⟩), .pointer (some ⟨b, 0, none⟩)], [(i', .cells cs t o es), (a', .cells [.int .i64 lo] t2 o2 es2), (b', .cells [.int .i64 hi] t3 o3 es3)] =>
    if (i == 900 && i' == 900 && a == 901 && a' == 901 && b == 902 && b' == 902 && t == ti && t2 == ti && t3 == ti && o == false && o2 == false && o3 == false && es == 1 && es2 == 1 && es3 == 1 && m == n && cs.length == n) = true then
      match n, cs with
      | 1, [.int .i64 x] => limOut lo hi [.int .i64 x] bs K
      | 2, [.int .i64 x, .int .i64 y] => limOut lo hi [.int .i64 x, .int .i64 y] bs K
      | 3, [.int .i64 x, .int .i64 y, .int .i64 z] => limOut lo hi [.int .i64 x, .int .i64 y, .int .i64 z] bs K
      | 4, [.int .i64 x, .int .i64 y, .int .i64 z, .int .i64 u] => limOut lo hi [.int .i64 x, .int .i64 y, .int .i64 z, .int .i64 u] bs K
      | _, _ => False
    else False
  | _, _ => False
/-- (by the number of numbers) -/
def limAll (ti : TypeId) : SpecS := fun args bs K =>
  match args with
  | .slice _ m _ :: _ => limSpec ti m args bs K
  | _ => False
end Go.Abs

/- A call that gives back what it was handed: it holds. -/
namespace Go.Abs
open Go.RowKit
variable {P : Program} {H : Heap}
theorem layC_out : ∀ (ds : List D) {H : Heap} {k : List Value → Heap → Prop}, layC ds H k → ∃ vs H', LaidC H ds vs H' ∧ k vs H'
  | [], H, k, h => ⟨_, _, .nil H, h⟩
  | .nil :: r, H, k, h => by
    obtain ⟨vs, H', h1, h2⟩ := layC_out r h
    exact ⟨_, _, .nilS h1, h2⟩
  | .sl n es cs :: r, H, k, h => by
    obtain ⟨vs, H', h1, h2⟩ := layC_out r h
    exact ⟨_, _, .sl n es cs h1, h2⟩
  | .val v :: r, H, k, h => by
    unfold layC at h
    split at h
    · cases h
    · rename_i hv
      obtain ⟨vs, H', h1, h2⟩ := layC_out r h
      exact ⟨_, _, .val _ (fun cs e => hv cs e) h1, h2⟩
  | .agg _ :: _, H, k, h => by cases h
theorem layV_out : ∀ (ds : List D) {H : Heap} {k : List Value → Heap → Prop}, layV ds H k → ∃ vs H', LaidV H ds vs H' ∧ k vs H'
  | [], H, k, h => ⟨_, _, .nil H, h⟩
  | d :: r, H, k, h => by
    unfold layV at h
    split at h
    · rename_i e; cases e
    · rename_i e; cases e
      obtain ⟨vs, H1, h1, h⟩ := layC_out _ h
      obtain ⟨us, H2, h2, h3⟩ := layV_out _ h
      exact ⟨_, _, .agg h1 h2, h3⟩
    · rename_i e; cases e
      obtain ⟨vs, H1, h1, h⟩ := layC_out _ h
      split at h
      · obtain ⟨us, H2, h2, h3⟩ := layV_out _ h
        exact ⟨_, _, .one h1 h2, h3⟩
      · cases h
theorem wpSame_call {C : FuncId → List D → List D → Prop} (hC : ∀ f ds rs, C f ds rs → Con P f ds rs) {f : FuncId} {args : Array Value} {k : Value → Heap → Prop} (hk : wpSame C f args H k) : CallH P f args H k := by
  intro w0 ρ w args' n g ha
  obtain ⟨ds, hr, hs, hk⟩ := readVals_out g _ ha hk
  obtain ⟨vs, H', hl, hk⟩ := layV_out ds hk
  refine callsIn_wide.2 ((hC f ds ds hs.out w args' hr).mono ?_)
  rintro e w' ⟨⟨vs', u, rfl, hg⟩, hb⟩
  obtain ⟨ρ', g', l', e', _⟩ := laidV_sound hl (g.grow hb) g.below.size (fun i m hm => .inl (g.own i m hm).1) hg
  exact ⟨_, H', ρ', _, hk, rfl, tupleOf_R l', g', e'⟩
theorem handlerS_ok {C : FuncId → List D → List D → Prop} (hC : ∀ f ds rs, C f ds rs → Con P f ds rs) {same : FuncId → Bool} {base : Handler} (hb : HandlerOK P base) : HandlerOK P (handlerS C same base) := by
  intro g args ats H k hk
  unfold handlerS at hk
  split at hk
  · exact wpSame_call hC hk
  · exact hb g args ats H k hk
theorem wpFix_call {C : FuncId → List D → List D → Prop} (hC : ∀ f ds rs, C f ds rs → Con P f ds rs) {f : FuncId} {fix : List D → Option (List D)} {args : Array Value} {k : Value → Heap → Prop} (hk : wpFix C f fix args H k) : CallH P f args H k := by
  intro w0 ρ w args' n g ha
  obtain ⟨ds, hr, hk⟩ := readVals_out g _ ha hk
  split at hk
  · rename_i rs _
    obtain ⟨hs, hk⟩ := hk
    obtain ⟨vs, H', hl, hk⟩ := layV_out rs hk
    refine callsIn_wide.2 ((hC f ds rs hs.out w args' hr).mono ?_)
    rintro e w' ⟨⟨vs', u, rfl, hg⟩, hb⟩
    obtain ⟨ρ', g', l', e', _⟩ := laidV_sound hl (g.grow hb) g.below.size (fun i m hm => .inl (g.own i m hm).1) hg
    exact ⟨_, H', ρ', _, hk, rfl, tupleOf_R l', g', e'⟩
  · exact hk.elim
theorem handlerF_ok {C : FuncId → List D → List D → Prop} (hC : ∀ f ds rs, C f ds rs → Con P f ds rs) {fix : FuncId → Option (List D → Option (List D))} {base : Handler} (hb : HandlerOK P base) : HandlerOK P (handlerF C fix base) := by
  intro g args ats H k hk
  unfold handlerF at hk
  split at hk
  · exact wpFix_call hC hk
  · exact hb g args ats H k hk
end Go.Abs

/- Handlers by a table hold if each entry does. -/
namespace Go.Abs
open Go.RowKit
variable {P : Program}
theorem saidH_ok {C : FuncId → List D → List D → Prop} (hC : ∀ f ds rs, C f ds rs → Con P f ds rs) : HandlerOK P (saidH P C) := by
  intro g args ats H k hk
  unfold saidH at hk
  split at hk
  · exact wpSaid_call hC hk
  · exact hk.elim
theorem sameH_ok {C : FuncId → List D → List D → Prop} (hC : ∀ f ds rs, C f ds rs → Con P f ds rs) : HandlerOK P (sameH C) := fun _ _ _ _ _ hk => wpSame_call hC hk
theorem fixH_ok {C : FuncId → List D → List D → Prop} (hC : ∀ f ds rs, C f ds rs → Con P f ds rs) {fix : List D → Option (List D)} : HandlerOK P (fixH C fix) := fun _ _ _ _ _ hk => wpFix_call hC hk
/-- (a state contract speaks of one function) -/
def PreOK (P : Program) (pre : FuncId → Option Handler) : Prop := ∀ g h, pre g = some h → ∀ args ats H k, h g args ats H k → CallH P g args H k
theorem handlerX_ok (hmix : P.follows .mixedOrders = true) {pre : FuncId → Option Handler} (hp : PreOK P pre) {u : Nat} (hu : u ≠ 0) : ∀ n, HandlerOK P (handlerX P pre u n)
  | 0 => fun _ _ _ _ _ h => h.elim
  | n + 1 => fun g args ats H k hk => by
    simp only [handlerX] at hk
    split at hk
    · rename_i h he
      exact hp g h he args ats H k hk
    · exact wpFn_call (handlerX_ok hmix hp hu n) hmix hu hk
theorem limC_of {g : FuncId} {lo hi e : Int} {n es : Nat} {cs : List Value} (h : e = limE lo hi cs) : limC g [.val (.int .i64 lo), .val (.int .i64 hi), .sl n es cs] [.val (.int .i64 e)] := h
theorem limC_out {g : FuncId} {lo hi e : Int} {n es : Nat} {cs : List Value} (h : Says limC g [.val (.int .i64 lo), .val (.int .i64 hi), .sl n es cs] [.val (.int .i64 e)]) : e = limE lo hi cs := h.out
theorem falseH_ok : HandlerOK P (fun _ _ _ _ _ => False) := fun _ _ _ _ _ h => h.elim
/-- A function whose loops are walked round by round. -/
theorem callS_walk {h : Handler} (hh : HandlerOK P h) (hmix : P.follows .mixedOrders = true) {u : Nat} (hu : u ≠ 0) {f : FuncId} {fn : Func} {c : Code} (hf : P.funcs[f]? = some fn) (hc : fn.body = some c) {args : List Value} {bs : Blocks} {K : Value → Blocks → Prop}
    (hk : wpFn P h (fun _ _ _ => False) u f args.toArray (heapOf bs) (stateK K)) : CallS P f args bs K := by
  intro w0 ρ w args' n g ha
  refine (wpFn_run (u := u) (b := false) hh hmix (fun h0 => absurd h0 hu) hf hc hk (fun h0 => absurd h0 hu) g n (by simpa using ha)).mono ?_
  rintro e w' ⟨v, H', ρ', v', hkv, rfl, hv, g', _⟩
  obtain ⟨v2, bs', ρ2, h1, h2, h3⟩ := stateK_out g' hv hkv
  exact ⟨v2, bs', ρ2, v', h1, rfl, h2, h3⟩
/-- The same, with data. -/
theorem con_walk {h : Handler} (hh : HandlerOK P h) (hmix : P.follows .mixedOrders = true) {u : Nat} (hu : u ≠ 0) {f : FuncId} {fn : Func} {c : Code} (hf : P.funcs[f]? = some fn) (hc : fn.body = some c) {ds rs : List D} (hcount : countV ds ≤ 400)
    (hk : ∀ caps, wpFn P h (fun _ _ _ => False) u f (layVals caps 500 ds).1.toArray (heapOf (layVals caps 500 ds).2) (dataK (· = rs))) : Con P f ds rs := by
  intro w args hr
  obtain ⟨caps, ρ, hst, g, ha⟩ := lay_gam hr hcount
  refine callsIn_wide.1 ((wpFn_run (u := u) (b := false) hh hmix (fun h0 => absurd h0 hu) hf hc (hk caps) (fun h0 => absurd h0 hu) g 0 (by simpa using ha)).mono ?_)
  rintro e w' ⟨v, H', ρ', v', hkv, rfl, hv, g', _⟩
  obtain ⟨vs, ds', u, rfl, h1, rfl⟩ := dataK_out g' hv hkv
  exact ⟨⟨vs, u, rfl, h1⟩, g'.below.below hst⟩
theorem callS_mono {f : FuncId} {args : List Value} {bs : Blocks} {K K' : Value → Blocks → Prop} (h : CallS P f args bs K) (hk : ∀ v b, K v b → K' v b) : CallS P f args bs K' := by
  intro w0 ρ w args' n g ha
  refine (h w0 ρ w args' n g ha).mono ?_
  rintro e w' ⟨v2, bs', ρ2, v', h1, h2, h3, h4⟩
  exact ⟨v2, bs', ρ2, v', hk _ _ h1, h2, h3, h4⟩
abbrev limBs (ti : TypeId) (cs : List Value) (lo hi : Int) : Blocks := [(900, .cells cs ti false 1), (901, .cells [.int .i64 lo] ti false 1), (902, .cells [.int .i64 hi] ti false 1)]
abbrev limArgs (n cap : Nat) : List Value := [.slice (some ⟨900, 0, none⟩) n cap, .pointer (some ⟨901, 0, none⟩), .pointer (some ⟨902, 0, none⟩)]
/-- What is left to show of the function that limit returns. -/
def limGoal (P : Program) (f : FuncId) (ti : TypeId) (n : Nat) (cs : List Value) (cap : Nat) (lo hi : Int) (K : Value → Blocks → Prop) : Prop :=
  wpFn P (fun _ _ _ _ _ => False) (fun _ _ _ => False) 6 f (limArgs n cap).toArray (heapOf (limBs ti cs lo hi)) (stateK K)
structure LimGood (P : Program) (f : FuncId) (ti : TypeId) : Prop where
  mix : P.follows .mixedOrders = true
  fn : ∃ fn c, P.funcs[f]? = some fn ∧ fn.body = some c
  one : ∀ cap lo hi x, limGoal P f ti 1 [.int .i64 x] cap lo hi (fun v b => v = .int .i64 (limE lo hi [.int .i64 x]) ∧ b = limBs ti [.int .i64 x] lo hi)
  two : ∀ cap lo hi x y, limGoal P f ti 2 [.int .i64 x, .int .i64 y] cap lo hi (fun v b => v = .int .i64 (limE lo hi [.int .i64 x, .int .i64 y]) ∧ b = limBs ti [.int .i64 x, .int .i64 y] lo hi)
  three : ∀ cap lo hi x y z, limGoal P f ti 3 [.int .i64 x, .int .i64 y, .int .i64 z] cap lo hi (fun v b => v = .int .i64 (limE lo hi [.int .i64 x, .int .i64 y, .int .i64 z]) ∧ b = limBs ti [.int .i64 x, .int .i64 y, .int .i64 z] lo hi)
  four : ∀ cap lo hi x y z u, limGoal P f ti 4 [.int .i64 x, .int .i64 y, .int .i64 z, .int .i64 u] cap lo hi (fun v b => v = .int .i64 (limE lo hi [.int .i64 x, .int .i64 y, .int .i64 z, .int .i64 u]) ∧ b = limBs ti [.int .i64 x, .int .i64 y, .int .i64 z, .int .i64 u] lo hi)
theorem lim_ok {f : FuncId} {ti : TypeId} (g : LimGood P f ti) {args : List Value} {bs : Blocks} {K : Value → Blocks → Prop} (hk : limAll ti args bs K) : CallS P f args bs K := by
  obtain ⟨fn, c, hf, hc⟩ := g.fn
  have run : ∀ {n : Nat} {cs : List Value} {cap : Nat} {lo hi : Int}, limGoal P f ti n cs cap lo hi (fun v b => v = .int .i64 (limE lo hi cs) ∧ b = limBs ti cs lo hi) → limOut lo hi cs (limBs ti cs lo hi) K → CallS P f (limArgs n cap) (limBs ti cs lo hi) K := by
    intro n cs cap lo hi h1 h2
    refine callS_mono (callS_walk falseH_ok g.mix (by decide) hf hc h1) ?_
    rintro v b ⟨rfl, rfl⟩
    obtain ⟨e, he, hK⟩ := h2
    rw [← limC_out he]; exact hK
  unfold limAll at hk
  split at hk
  · unfold limSpec at hk
    split at hk
    · rename_i e2
      split at hk
      · rename_i hc
        simp only [Bool.and_eq_true, beq_iff_eq] at hc
        obtain ⟨⟨⟨⟨⟨⟨⟨⟨⟨⟨⟨⟨⟨⟨⟨⟨rfl, rfl⟩, rfl⟩, rfl⟩, rfl⟩, rfl⟩, rfl⟩, rfl⟩, rfl⟩, rfl⟩, rfl⟩, rfl⟩, rfl⟩, rfl⟩, rfl⟩, hm⟩, hl⟩ := hc
        rw [e2]
        split at hk
        · subst hm; exact run (g.one _ _ _ _) hk
        · subst hm; exact run (g.two _ _ _ _ _) hk
        · subst hm; exact run (g.three _ _ _ _ _ _) hk
        · subst hm; exact run (g.four _ _ _ _ _ _ _) hk
        · exact hk.elim
      · exact hk.elim
    · exact hk.elim
  · exact hk.elim
end Go.Abs

/- What is left to show of each function, written out; the kernel reckons it. -/
namespace Go.Proofs.C1R
open Go Go.Abs Go.Proofs Go.Proofs.C1
set_option maxRecDepth 100000
set_option linter.unusedVariables false
def preV (C : Ct) : FuncId → Option Handler := fun g => if [6, 17, 18, 20, 21, 22, 23, 24, 25, 45, 46, 47, 49, 68, 69, 70, 71, 85, 91, 92, 44].contains g then some (saidH Tryz.prog C) else none
abbrev hX (C : Ct) : Handler := handlerX Tryz.prog (preV C) 8 6
abbrev hX0 (C : Ct) : Handler := handlerX Tryz.prog (fun _ => none) 8 6
abbrev vB (b : Bool) : Value := .bool b
def f71 (C : Ct) (cap : Nat) (b0 b1 b2 b3 b4 : Bool) (k : List D → Prop) : Prop := wpFn Tryz.prog (hX0 C) (fun _ _ _ => False) 8 71 #[S500 5 cap, .bool true] (heapOf [Q500 [vB b0, vB b1, vB b2, vB b3, vB b4]]) (dataK k)
theorem f71_text (C : Ct) (cap : Nat) (b0 : Bool) (b1 : Bool) (b2 : Bool) (b3 : Bool) (b4 : Bool) (k : List D → Prop) : f71 C cap b0 b1 b2 b3 b4 k =
 (((At [(Go.Value.bool (b0)), (Go.Value.bool (b1)), (Go.Value.bool (b2)), (Go.Value.bool (b3)), (Go.Value.bool (b4))] 0 1 [(Go.Value.bool true)]) ∧
 (k [(D.val (Go.Value.int Go.IntKind.i64 (0 : Int)))])) ∨
 ((At [(Go.Value.bool (b0)), (Go.Value.bool (b1)), (Go.Value.bool (b2)), (Go.Value.bool (b3)), (Go.Value.bool (b4))] 0 1 [(Go.Value.bool false)]) ∧
 (((At [(Go.Value.bool (b0)), (Go.Value.bool (b1)), (Go.Value.bool (b2)), (Go.Value.bool (b3)), (Go.Value.bool (b4))] 1 1 [(Go.Value.bool true)]) ∧
 (k [(D.val (Go.Value.int Go.IntKind.i64 (1 : Int)))])) ∨
 ((At [(Go.Value.bool (b0)), (Go.Value.bool (b1)), (Go.Value.bool (b2)), (Go.Value.bool (b3)), (Go.Value.bool (b4))] 1 1 [(Go.Value.bool false)]) ∧
 (((At [(Go.Value.bool (b0)), (Go.Value.bool (b1)), (Go.Value.bool (b2)), (Go.Value.bool (b3)), (Go.Value.bool (b4))] 2 1 [(Go.Value.bool true)]) ∧
 (k [(D.val (Go.Value.int Go.IntKind.i64 (2 : Int)))])) ∨
 ((At [(Go.Value.bool (b0)), (Go.Value.bool (b1)), (Go.Value.bool (b2)), (Go.Value.bool (b3)), (Go.Value.bool (b4))] 2 1 [(Go.Value.bool false)]) ∧
 (((At [(Go.Value.bool (b0)), (Go.Value.bool (b1)), (Go.Value.bool (b2)), (Go.Value.bool (b3)), (Go.Value.bool (b4))] 3 1 [(Go.Value.bool true)]) ∧
 (k [(D.val (Go.Value.int Go.IntKind.i64 (3 : Int)))])) ∨
 ((At [(Go.Value.bool (b0)), (Go.Value.bool (b1)), (Go.Value.bool (b2)), (Go.Value.bool (b3)), (Go.Value.bool (b4))] 3 1 [(Go.Value.bool false)]) ∧
 (((At [(Go.Value.bool (b0)), (Go.Value.bool (b1)), (Go.Value.bool (b2)), (Go.Value.bool (b3)), (Go.Value.bool (b4))] 4 1 [(Go.Value.bool true)]) ∧
 (k [(D.val (Go.Value.int Go.IntKind.i64 (4 : Int)))])) ∨
 ((At [(Go.Value.bool (b0)), (Go.Value.bool (b1)), (Go.Value.bool (b2)), (Go.Value.bool (b3)), (Go.Value.bool (b4))] 4 1 [(Go.Value.bool false)]) ∧
 (k [(D.val (Go.Value.int Go.IntKind.i64 (-(0 + 1) : Int)))]))))))))))) := by kernel_rfl
def g44 (C : Ct) (L : AtLoop) (a b c d e f g h i : Int) (n cap : Nat) (l : List Value) (m cap2 : Nat) (q : List Value) (p : Int) (k : List D → Prop) : Prop := wpFn Tryz.prog (hX C) L 0 44 #[vMix a b c d e f g h i (S500 n cap), S501 m cap2, .int .i64 p] (heapOf [I500 l, Q501 q]) (dataK k)
theorem g44_text (C : Ct) (L : AtLoop) (a : Int) (b : Int) (c : Int) (d : Int) (e : Int) (f : Int) (g : Int) (h : Int) (i : Int) (n : Nat) (cap : Nat) (l : List Go.Value) (m : Nat) (cap2 : Nat) (q : List Go.Value) (p : Int) (k : List D → Prop) : g44 C L a b c d e f g h i n cap l m cap2 q p k =
 (L 0 [(Prod.mk 1 (Go.Value.slice (Option.some (Go.Addr.mk 501 0 Option.none)) (m) (cap2))), (Prod.mk 3 (Go.Value.pointer (Option.some (Go.Addr.mk 1000 0 Option.none)))), (Prod.mk 6 (Go.Value.pointer (Option.some (Go.Addr.mk 1001 0 Option.none)))), (Prod.mk 8 (Go.Value.int Go.IntKind.i64 (p)))] [(Prod.mk 501 (AObj.sym (q) false 1)), (Prod.mk 1000 (AObj.cells [(Go.Value.int Go.IntKind.i64 (a)), (Go.Value.int Go.IntKind.i64 (b)), (Go.Value.int Go.IntKind.i64 (c)), (Go.Value.int Go.IntKind.i64 (d)), (Go.Value.int Go.IntKind.i64 (e)), (Go.Value.int Go.IntKind.i64 (f)), (Go.Value.int Go.IntKind.i64 (g)), (Go.Value.int Go.IntKind.i64 (h)), (Go.Value.int Go.IntKind.i64 (i)), (Go.Value.slice (Option.some (Go.Addr.mk 500 0 Option.none)) (n) (cap))] 82 false 1)), (Prod.mk 1001 (AObj.cells [(Go.Value.int Go.IntKind.i64 (0 : Int)), (Go.Value.int Go.IntKind.i64 (0 : Int))] 47 false 2)), (Prod.mk 500 (AObj.sym (l) false 4))]) := by kernel_rfl
abbrev Z1001 (i : Nat) (x y : Int) : Nat × AObj := (i, .cells [.int .i64 x, .int .i64 y] 47 false 2)
def s44 (m cap2 : Nat) (p : Int) : Slots := [(1, S501 m cap2), (3, P0 1000), (6, P0 1001), (8, .int .i64 p)]
def r44 (C : Ct) (L : AtLoop) (a b c d e f g h i : Int) (n cap : Nat) (l : List Value) (m cap2 : Nat) (q : List Value) (p : Int) (B : Bx) (X : Xx) (k : List D → Prop) : Prop := wpRound Tryz.prog (hX C) L 44 0 (s44 m cap2 p) [Q501 q, M1000 a b c d e f g h i (S500 n cap), Z1001 1001 0 0, I500 l] B X (dataK k)
theorem r44_text (C : Ct) (L : AtLoop) (a : Int) (b : Int) (c : Int) (d : Int) (e : Int) (f : Int) (g : Int) (h : Int) (i : Int) (n : Nat) (cap : Nat) (l : List Go.Value) (m : Nat) (cap2 : Nat) (q : List Go.Value) (p : Int) (B : Bx) (X : Xx) (k : List D → Prop) : r44 C L a b c d e f g h i n cap l m cap2 q p B X k =
 (bcase (decide (p < (↑m : Int)))
 (bcase (decide (0 + n * 4 ≤ List.length l))
 (bcase (decide (0 + m * 1 ≤ List.length q))
 (∃ b1 : Bool,
 (∃ b2 : Bool,
 (∃ b3 : Bool,
 (∃ b4 : Bool,
 (∃ b5 : Bool,
 ((Says C 70 [(D.agg [(D.val (Go.Value.int Go.IntKind.i64 (a))), (D.val (Go.Value.int Go.IntKind.i64 (b))), (D.val (Go.Value.int Go.IntKind.i64 (c))), (D.val (Go.Value.int Go.IntKind.i64 (d))), (D.val (Go.Value.int Go.IntKind.i64 (e))), (D.val (Go.Value.int Go.IntKind.i64 (f))), (D.val (Go.Value.int Go.IntKind.i64 (g))), (D.val (Go.Value.int Go.IntKind.i64 (h))), (D.val (Go.Value.int Go.IntKind.i64 (i))), (D.sl (n) 4 (List.take (n * 4) (List.drop 0 l)))]), (D.sl (m) 1 (List.take (m * 1) (List.drop 0 q))), (D.val (Go.Value.int Go.IntKind.i64 (p)))] [(D.agg [(D.val (Go.Value.bool (b1))), (D.val (Go.Value.bool (b2))), (D.val (Go.Value.bool (b3))), (D.val (Go.Value.bool (b4))), (D.val (Go.Value.bool (b5)))])]) ∧
 (∃ n1 : Int,
 ((Says C 71 [(D.sl 5 1 [(Go.Value.bool (b1)), (Go.Value.bool (b2)), (Go.Value.bool (b3)), (Go.Value.bool (b4)), (Go.Value.bool (b5))]), (D.val (Go.Value.bool true))] [(D.val (Go.Value.int Go.IntKind.i64 (n1)))]) ∧
 (bcase (decide (n1 ≥ 0))
 (k [(D.agg [(D.val (Go.Value.int Go.IntKind.i64 (p))), (D.val (Go.Value.int Go.IntKind.i64 (n1)))]), (D.val (Go.Value.bool true))])
 (B [(Prod.mk 1 (Go.Value.slice (Option.some (Go.Addr.mk 501 0 Option.none)) (m) (cap2))), (Prod.mk 3 (Go.Value.pointer (Option.some (Go.Addr.mk 1000 0 Option.none)))), (Prod.mk 6 (Go.Value.pointer (Option.some (Go.Addr.mk 1001 0 Option.none)))), (Prod.mk 8 (Go.Value.int Go.IntKind.i64 (Go.IntKind.wrap Go.IntKind.i64 (p + 1))))] [(Prod.mk 501 (AObj.sym (q) false 1)), (Prod.mk 1000 (AObj.cells [(Go.Value.int Go.IntKind.i64 (a)), (Go.Value.int Go.IntKind.i64 (b)), (Go.Value.int Go.IntKind.i64 (c)), (Go.Value.int Go.IntKind.i64 (d)), (Go.Value.int Go.IntKind.i64 (e)), (Go.Value.int Go.IntKind.i64 (f)), (Go.Value.int Go.IntKind.i64 (g)), (Go.Value.int Go.IntKind.i64 (h)), (Go.Value.int Go.IntKind.i64 (i)), (Go.Value.slice (Option.some (Go.Addr.mk 500 0 Option.none)) (n) (cap))] 82 false 1)), (Prod.mk 1001 (AObj.cells [(Go.Value.int Go.IntKind.i64 (0 : Int)), (Go.Value.int Go.IntKind.i64 (0 : Int))] 47 false 2)), (Prod.mk 500 (AObj.sym (l) false 4))]))))))))))
 False)
 False)
 (X 0 [(Prod.mk 6 (Go.Value.pointer (Option.some (Go.Addr.mk 1000 0 Option.none))))] [(Prod.mk 1000 (AObj.cells [(Go.Value.int Go.IntKind.i64 (0 : Int)), (Go.Value.int Go.IntKind.i64 (0 : Int))] 47 false 2))])) := by kernel_rfl
abbrev s24 (n cap m cap2 : Nat) (x y : Int) : Slots := [(1, S500 n cap), (2, S501 m cap2), (3, .pointer (some (Addr.mk 1000 0 none))), (6, .pointer (some (Addr.mk 1001 0 none))), (8, .int .i64 x), (9, .int .i64 y)]
def g24X (C : Ct) (L : AtLoop) (a b c d e f g h i : Int) (n cap : Nat) (l : List Value) (m cap2 : Nat) (q : List Value) (k : List D → Prop) : Prop := wpFn Tryz.prog (hX C) L 0 24 #[vRu a b c d e f g h i, S500 n cap, S501 m cap2] (heapOf [I500 l, Q501 q]) (dataK k)
theorem g24X_text (C : Ct) (L : AtLoop) (a : Int) (b : Int) (c : Int) (d : Int) (e : Int) (f : Int) (g : Int) (h : Int) (i : Int) (n : Nat) (cap : Nat) (l : List Go.Value) (m : Nat) (cap2 : Nat) (q : List Go.Value) (k : List D → Prop) : g24X C L a b c d e f g h i n cap l m cap2 q k =
 (L 0 [(Prod.mk 1 (Go.Value.slice (Option.some (Go.Addr.mk 500 0 Option.none)) (n) (cap))), (Prod.mk 2 (Go.Value.slice (Option.some (Go.Addr.mk 501 0 Option.none)) (m) (cap2))), (Prod.mk 3 (Go.Value.pointer (Option.some (Go.Addr.mk 1000 0 Option.none)))), (Prod.mk 6 (Go.Value.pointer (Option.some (Go.Addr.mk 1001 0 Option.none)))), (Prod.mk 8 (Go.Value.int Go.IntKind.i64 (0 : Int))), (Prod.mk 9 (Go.Value.int Go.IntKind.i64 (0 : Int)))] [(Prod.mk 500 (AObj.sym (l) false 4)), (Prod.mk 501 (AObj.sym (q) false 1)), (Prod.mk 1000 (AObj.cells [(Go.Value.int Go.IntKind.i64 (a)), (Go.Value.int Go.IntKind.i64 (b)), (Go.Value.int Go.IntKind.i64 (c)), (Go.Value.int Go.IntKind.i64 (d)), (Go.Value.int Go.IntKind.i64 (e)), (Go.Value.int Go.IntKind.i64 (f)), (Go.Value.int Go.IntKind.i64 (g)), (Go.Value.int Go.IntKind.i64 (h)), (Go.Value.int Go.IntKind.i64 (i))] 42 false 1)), (Prod.mk 1001 (AObj.cells [(Go.Value.int Go.IntKind.i64 (0 : Int)), (Go.Value.int Go.IntKind.i64 (0 : Int))] 47 false 2))]) := by kernel_rfl
def r24 (C : Ct) (L : AtLoop) (a b c d e f g h i : Int) (n cap : Nat) (l : List Value) (m cap2 : Nat) (q : List Value) (x y : Int) (B : Bx) (X : Xx) (k : List D → Prop) : Prop := wpRound Tryz.prog (hX C) L 24 0 (s24 n cap m cap2 x y) [I500 l, Q501 q, R1000 a b c d e f g h i, Z1001 1001 0 0] B X (dataK k)
theorem r24_text (C : Ct) (L : AtLoop) (a : Int) (b : Int) (c : Int) (d : Int) (e : Int) (f : Int) (g : Int) (h : Int) (i : Int) (n : Nat) (cap : Nat) (l : List Go.Value) (m : Nat) (cap2 : Nat) (q : List Go.Value) (x : Int) (y : Int) (B : Bx) (X : Xx) (k : List D → Prop) : r24 C L a b c d e f g h i n cap l m cap2 q x y B X k =
 (bcase (decide (y < (↑m : Int)))
 (bcase (decide (0 ≤ y))
 (bcase (decide (y < (↑m : Int)))
 (∃ n1 : Int,
 ((At (q) (0 + Int.toNat y * 1) 1 [(Go.Value.int Go.IntKind.i64 (n1))]) ∧
 (bcase (decide (0 ≤ n1))
 (bcase (decide (n1 < (↑n : Int)))
 (∃ n2 : Int,
 (∃ n3 : Int,
 (∃ n4 : Int,
 (∃ n5 : Int,
 ((At (l) (0 + Int.toNat n1 * 4) 4 [(Go.Value.int Go.IntKind.i64 (n2)), (Go.Value.int Go.IntKind.i64 (n3)), (Go.Value.int Go.IntKind.i64 (n4)), (Go.Value.int Go.IntKind.i64 (n5))]) ∧
 (bcase (decide (Go.IntKind.wrap Go.IntKind.i64 (x + n5) > f))
 (k [(D.agg [(D.val (Go.Value.int Go.IntKind.i64 (y))), (D.val (Go.Value.int Go.IntKind.i64 (0 : Int)))]), (D.val (Go.Value.bool true))])
 (bcase (y == 0)
 (B [(Prod.mk 1 (Go.Value.slice (Option.some (Go.Addr.mk 500 0 Option.none)) (n) (cap))), (Prod.mk 2 (Go.Value.slice (Option.some (Go.Addr.mk 501 0 Option.none)) (m) (cap2))), (Prod.mk 3 (Go.Value.pointer (Option.some (Go.Addr.mk 1000 0 Option.none)))), (Prod.mk 6 (Go.Value.pointer (Option.some (Go.Addr.mk 1001 0 Option.none)))), (Prod.mk 8 (Go.Value.int Go.IntKind.i64 (Go.IntKind.wrap Go.IntKind.i64 (x + n5)))), (Prod.mk 9 (Go.Value.int Go.IntKind.i64 (Go.IntKind.wrap Go.IntKind.i64 (y + 1))))] [(Prod.mk 500 (AObj.sym (l) false 4)), (Prod.mk 501 (AObj.sym (q) false 1)), (Prod.mk 1000 (AObj.cells [(Go.Value.int Go.IntKind.i64 (a)), (Go.Value.int Go.IntKind.i64 (b)), (Go.Value.int Go.IntKind.i64 (c)), (Go.Value.int Go.IntKind.i64 (d)), (Go.Value.int Go.IntKind.i64 (e)), (Go.Value.int Go.IntKind.i64 (f)), (Go.Value.int Go.IntKind.i64 (g)), (Go.Value.int Go.IntKind.i64 (h)), (Go.Value.int Go.IntKind.i64 (i))] 42 false 1)), (Prod.mk 1001 (AObj.cells [(Go.Value.int Go.IntKind.i64 (0 : Int)), (Go.Value.int Go.IntKind.i64 (0 : Int))] 47 false 2))])
 (bcase (decide (0 ≤ Go.IntKind.wrap Go.IntKind.i64 (y - 1)))
 (bcase (decide (Go.IntKind.wrap Go.IntKind.i64 (y - 1) < (↑m : Int)))
 (∃ n6 : Int,
 ((At (q) (0 + Int.toNat (Go.IntKind.wrap Go.IntKind.i64 (y - 1)) * 1) 1 [(Go.Value.int Go.IntKind.i64 (n6))]) ∧
 (bcase (decide (0 ≤ n6))
 (bcase (decide (n6 < (↑n : Int)))
 (∃ n7 : Int,
 (∃ n8 : Int,
 (∃ n9 : Int,
 (∃ n10 : Int,
 ((At (l) (0 + Int.toNat n6 * 4) 4 [(Go.Value.int Go.IntKind.i64 (n7)), (Go.Value.int Go.IntKind.i64 (n8)), (Go.Value.int Go.IntKind.i64 (n9)), (Go.Value.int Go.IntKind.i64 (n10))]) ∧
 (bcase (decide (y < a))
 (bcase (decide (n2 < n7))
 (k [(D.agg [(D.val (Go.Value.int Go.IntKind.i64 (y))), (D.val (Go.Value.int Go.IntKind.i64 (1 : Int)))]), (D.val (Go.Value.bool true))])
 (bcase (decide (y ≥ if 1 > a then 1 else a))
 (bcase (decide (n2 > n7))
 (k [(D.agg [(D.val (Go.Value.int Go.IntKind.i64 (y))), (D.val (Go.Value.int Go.IntKind.i64 (1 : Int)))]), (D.val (Go.Value.bool true))])
 (bcase (decide (Go.IntKind.wrap Go.IntKind.i64 (n2 - n7) > b))
 (k [(D.agg [(D.val (Go.Value.int Go.IntKind.i64 (y))), (D.val (Go.Value.int Go.IntKind.i64 (2 : Int)))]), (D.val (Go.Value.bool true))])
 (bcase (decide (Go.IntKind.wrap Go.IntKind.i64 (n7 - n2) > c))
 (k [(D.agg [(D.val (Go.Value.int Go.IntKind.i64 (y))), (D.val (Go.Value.int Go.IntKind.i64 (2 : Int)))]), (D.val (Go.Value.bool true))])
 ((((Go.Value.int Go.IntKind.i64 (d)) = (Go.Value.int Go.IntKind.i64 (d))) ∧
 (((Go.Value.pointer (Option.some (Go.Addr.mk 1000 3 Option.none))) = (Go.Value.pointer (Option.some (Go.Addr.mk 1000 3 Option.none)))) ∧
 (((Go.Value.int Go.IntKind.i64 (Go.IntKind.wrap Go.IntKind.i64 (n3 - n8))) = (Go.Value.int Go.IntKind.i64 (Go.IntKind.wrap Go.IntKind.i64 (n3 - n8)))) ∧
 (((Go.Value.int Go.IntKind.i64 (n8)) = (Go.Value.int Go.IntKind.i64 (n8))) ∧
 (((Go.Value.pointer (Option.some (Go.Addr.mk 1003 1 Option.none))) = (Go.Value.pointer (Option.some (Go.Addr.mk 1003 1 Option.none)))) ∧
 (((Go.Value.int Go.IntKind.i64 (n3)) = (Go.Value.int Go.IntKind.i64 (n3))) ∧
 (((Go.Value.pointer (Option.some (Go.Addr.mk 1002 1 Option.none))) = (Go.Value.pointer (Option.some (Go.Addr.mk 1002 1 Option.none)))) ∧
 True))))))) ∧
 (bcase (decide ((if Go.IntKind.wrap Go.IntKind.i64 (0 - Go.IntKind.wrap Go.IntKind.i64 (n3 - n8)) > Go.IntKind.wrap Go.IntKind.i64 (n3 - n8) then Go.IntKind.wrap Go.IntKind.i64 (0 - Go.IntKind.wrap Go.IntKind.i64 (n3 - n8)) else Go.IntKind.wrap Go.IntKind.i64 (n3 - n8)) > d))
 (((bcase (decide ((if Go.IntKind.wrap Go.IntKind.i64 (0 - Go.IntKind.wrap Go.IntKind.i64 (n3 - n8)) > Go.IntKind.wrap Go.IntKind.i64 (n3 - n8) then Go.IntKind.wrap Go.IntKind.i64 (0 - Go.IntKind.wrap Go.IntKind.i64 (n3 - n8)) else Go.IntKind.wrap Go.IntKind.i64 (n3 - n8)) > d))
 ((Go.Value.bool true) = (Go.Value.bool true))
 ((Go.Value.bool false) = (Go.Value.bool true))) ∧
 (((Go.Value.int Go.IntKind.i64 (d)) = (Go.Value.int Go.IntKind.i64 (d))) ∧
 (((Go.Value.pointer (Option.some (Go.Addr.mk 1000 3 Option.none))) = (Go.Value.pointer (Option.some (Go.Addr.mk 1000 3 Option.none)))) ∧
 (((Go.Value.int Go.IntKind.i64 (n8)) = (Go.Value.int Go.IntKind.i64 (n8))) ∧
 (((Go.Value.pointer (Option.some (Go.Addr.mk 1003 1 Option.none))) = (Go.Value.pointer (Option.some (Go.Addr.mk 1003 1 Option.none)))) ∧
 (((Go.Value.int Go.IntKind.i64 (n3)) = (Go.Value.int Go.IntKind.i64 (n3))) ∧
 (((Go.Value.pointer (Option.some (Go.Addr.mk 1002 1 Option.none))) = (Go.Value.pointer (Option.some (Go.Addr.mk 1002 1 Option.none)))) ∧
 True))))))) ∧
 (k [(D.agg [(D.val (Go.Value.int Go.IntKind.i64 (y))), (D.val (Go.Value.int Go.IntKind.i64 (3 : Int)))]), (D.val (Go.Value.bool true))]))
 (((bcase (decide ((if Go.IntKind.wrap Go.IntKind.i64 (0 - Go.IntKind.wrap Go.IntKind.i64 (n3 - n8)) > Go.IntKind.wrap Go.IntKind.i64 (n3 - n8) then Go.IntKind.wrap Go.IntKind.i64 (0 - Go.IntKind.wrap Go.IntKind.i64 (n3 - n8)) else Go.IntKind.wrap Go.IntKind.i64 (n3 - n8)) > d))
 ((Go.Value.bool true) = (Go.Value.bool false))
 ((Go.Value.bool false) = (Go.Value.bool false))) ∧
 (((Go.Value.int Go.IntKind.i64 (d)) = (Go.Value.int Go.IntKind.i64 (d))) ∧
 (((Go.Value.pointer (Option.some (Go.Addr.mk 1000 3 Option.none))) = (Go.Value.pointer (Option.some (Go.Addr.mk 1000 3 Option.none)))) ∧
 (((Go.Value.int Go.IntKind.i64 (n8)) = (Go.Value.int Go.IntKind.i64 (n8))) ∧
 (((Go.Value.pointer (Option.some (Go.Addr.mk 1003 1 Option.none))) = (Go.Value.pointer (Option.some (Go.Addr.mk 1003 1 Option.none)))) ∧
 (((Go.Value.int Go.IntKind.i64 (n3)) = (Go.Value.int Go.IntKind.i64 (n3))) ∧
 (((Go.Value.pointer (Option.some (Go.Addr.mk 1002 1 Option.none))) = (Go.Value.pointer (Option.some (Go.Addr.mk 1002 1 Option.none)))) ∧
 True))))))) ∧
 ((((Go.Value.int Go.IntKind.i64 (e)) = (Go.Value.int Go.IntKind.i64 (e))) ∧
 (((Go.Value.pointer (Option.some (Go.Addr.mk 1000 4 Option.none))) = (Go.Value.pointer (Option.some (Go.Addr.mk 1000 4 Option.none)))) ∧
 (((Go.Value.int Go.IntKind.i64 (Go.IntKind.wrap Go.IntKind.i64 (n4 - n9))) = (Go.Value.int Go.IntKind.i64 (Go.IntKind.wrap Go.IntKind.i64 (n4 - n9)))) ∧
 (((Go.Value.int Go.IntKind.i64 (n9)) = (Go.Value.int Go.IntKind.i64 (n9))) ∧
 (((Go.Value.pointer (Option.some (Go.Addr.mk 1003 2 Option.none))) = (Go.Value.pointer (Option.some (Go.Addr.mk 1003 2 Option.none)))) ∧
 (((Go.Value.int Go.IntKind.i64 (n4)) = (Go.Value.int Go.IntKind.i64 (n4))) ∧
 (((Go.Value.pointer (Option.some (Go.Addr.mk 1002 2 Option.none))) = (Go.Value.pointer (Option.some (Go.Addr.mk 1002 2 Option.none)))) ∧
 True))))))) ∧
 (bcase (decide ((if Go.IntKind.wrap Go.IntKind.i64 (0 - Go.IntKind.wrap Go.IntKind.i64 (n4 - n9)) > Go.IntKind.wrap Go.IntKind.i64 (n4 - n9) then Go.IntKind.wrap Go.IntKind.i64 (0 - Go.IntKind.wrap Go.IntKind.i64 (n4 - n9)) else Go.IntKind.wrap Go.IntKind.i64 (n4 - n9)) > e))
 (((bcase (decide ((if Go.IntKind.wrap Go.IntKind.i64 (0 - Go.IntKind.wrap Go.IntKind.i64 (n4 - n9)) > Go.IntKind.wrap Go.IntKind.i64 (n4 - n9) then Go.IntKind.wrap Go.IntKind.i64 (0 - Go.IntKind.wrap Go.IntKind.i64 (n4 - n9)) else Go.IntKind.wrap Go.IntKind.i64 (n4 - n9)) > e))
 ((Go.Value.bool true) = (Go.Value.bool true))
 ((Go.Value.bool false) = (Go.Value.bool true))) ∧
 (((Go.Value.int Go.IntKind.i64 (e)) = (Go.Value.int Go.IntKind.i64 (e))) ∧
 (((Go.Value.pointer (Option.some (Go.Addr.mk 1000 4 Option.none))) = (Go.Value.pointer (Option.some (Go.Addr.mk 1000 4 Option.none)))) ∧
 (((Go.Value.int Go.IntKind.i64 (n9)) = (Go.Value.int Go.IntKind.i64 (n9))) ∧
 (((Go.Value.pointer (Option.some (Go.Addr.mk 1003 2 Option.none))) = (Go.Value.pointer (Option.some (Go.Addr.mk 1003 2 Option.none)))) ∧
 (((Go.Value.int Go.IntKind.i64 (n4)) = (Go.Value.int Go.IntKind.i64 (n4))) ∧
 (((Go.Value.pointer (Option.some (Go.Addr.mk 1002 2 Option.none))) = (Go.Value.pointer (Option.some (Go.Addr.mk 1002 2 Option.none)))) ∧
 True))))))) ∧
 (k [(D.agg [(D.val (Go.Value.int Go.IntKind.i64 (y))), (D.val (Go.Value.int Go.IntKind.i64 (4 : Int)))]), (D.val (Go.Value.bool true))]))
 (((bcase (decide ((if Go.IntKind.wrap Go.IntKind.i64 (0 - Go.IntKind.wrap Go.IntKind.i64 (n4 - n9)) > Go.IntKind.wrap Go.IntKind.i64 (n4 - n9) then Go.IntKind.wrap Go.IntKind.i64 (0 - Go.IntKind.wrap Go.IntKind.i64 (n4 - n9)) else Go.IntKind.wrap Go.IntKind.i64 (n4 - n9)) > e))
 ((Go.Value.bool true) = (Go.Value.bool false))
 ((Go.Value.bool false) = (Go.Value.bool false))) ∧
 (((Go.Value.int Go.IntKind.i64 (e)) = (Go.Value.int Go.IntKind.i64 (e))) ∧
 (((Go.Value.pointer (Option.some (Go.Addr.mk 1000 4 Option.none))) = (Go.Value.pointer (Option.some (Go.Addr.mk 1000 4 Option.none)))) ∧
 (((Go.Value.int Go.IntKind.i64 (n9)) = (Go.Value.int Go.IntKind.i64 (n9))) ∧
 (((Go.Value.pointer (Option.some (Go.Addr.mk 1003 2 Option.none))) = (Go.Value.pointer (Option.some (Go.Addr.mk 1003 2 Option.none)))) ∧
 (((Go.Value.int Go.IntKind.i64 (n4)) = (Go.Value.int Go.IntKind.i64 (n4))) ∧
 (((Go.Value.pointer (Option.some (Go.Addr.mk 1002 2 Option.none))) = (Go.Value.pointer (Option.some (Go.Addr.mk 1002 2 Option.none)))) ∧
 True))))))) ∧
 (B [(Prod.mk 1 (Go.Value.slice (Option.some (Go.Addr.mk 500 0 Option.none)) (n) (cap))), (Prod.mk 2 (Go.Value.slice (Option.some (Go.Addr.mk 501 0 Option.none)) (m) (cap2))), (Prod.mk 3 (Go.Value.pointer (Option.some (Go.Addr.mk 1000 0 Option.none)))), (Prod.mk 6 (Go.Value.pointer (Option.some (Go.Addr.mk 1001 0 Option.none)))), (Prod.mk 8 (Go.Value.int Go.IntKind.i64 (Go.IntKind.wrap Go.IntKind.i64 (x + n5)))), (Prod.mk 9 (Go.Value.int Go.IntKind.i64 (Go.IntKind.wrap Go.IntKind.i64 (y + 1))))] [(Prod.mk 500 (AObj.sym (l) false 4)), (Prod.mk 501 (AObj.sym (q) false 1)), (Prod.mk 1000 (AObj.cells [(Go.Value.int Go.IntKind.i64 (a)), (Go.Value.int Go.IntKind.i64 (b)), (Go.Value.int Go.IntKind.i64 (c)), (Go.Value.int Go.IntKind.i64 (d)), (Go.Value.int Go.IntKind.i64 (e)), (Go.Value.int Go.IntKind.i64 (f)), (Go.Value.int Go.IntKind.i64 (g)), (Go.Value.int Go.IntKind.i64 (h)), (Go.Value.int Go.IntKind.i64 (i))] 42 false 1)), (Prod.mk 1001 (AObj.cells [(Go.Value.int Go.IntKind.i64 (0 : Int)), (Go.Value.int Go.IntKind.i64 (0 : Int))] 47 false 2))]))))))))))
 (bcase (decide (Go.IntKind.wrap Go.IntKind.i64 (n2 - n7) > b))
 (k [(D.agg [(D.val (Go.Value.int Go.IntKind.i64 (y))), (D.val (Go.Value.int Go.IntKind.i64 (2 : Int)))]), (D.val (Go.Value.bool true))])
 (bcase (decide (Go.IntKind.wrap Go.IntKind.i64 (n7 - n2) > c))
 (k [(D.agg [(D.val (Go.Value.int Go.IntKind.i64 (y))), (D.val (Go.Value.int Go.IntKind.i64 (2 : Int)))]), (D.val (Go.Value.bool true))])
 ((((Go.Value.int Go.IntKind.i64 (d)) = (Go.Value.int Go.IntKind.i64 (d))) ∧
 (((Go.Value.pointer (Option.some (Go.Addr.mk 1000 3 Option.none))) = (Go.Value.pointer (Option.some (Go.Addr.mk 1000 3 Option.none)))) ∧
 (((Go.Value.int Go.IntKind.i64 (Go.IntKind.wrap Go.IntKind.i64 (n3 - n8))) = (Go.Value.int Go.IntKind.i64 (Go.IntKind.wrap Go.IntKind.i64 (n3 - n8)))) ∧
 (((Go.Value.int Go.IntKind.i64 (n8)) = (Go.Value.int Go.IntKind.i64 (n8))) ∧
 (((Go.Value.pointer (Option.some (Go.Addr.mk 1003 1 Option.none))) = (Go.Value.pointer (Option.some (Go.Addr.mk 1003 1 Option.none)))) ∧
 (((Go.Value.int Go.IntKind.i64 (n3)) = (Go.Value.int Go.IntKind.i64 (n3))) ∧
 (((Go.Value.pointer (Option.some (Go.Addr.mk 1002 1 Option.none))) = (Go.Value.pointer (Option.some (Go.Addr.mk 1002 1 Option.none)))) ∧
 True))))))) ∧
 (bcase (decide ((if Go.IntKind.wrap Go.IntKind.i64 (0 - Go.IntKind.wrap Go.IntKind.i64 (n3 - n8)) > Go.IntKind.wrap Go.IntKind.i64 (n3 - n8) then Go.IntKind.wrap Go.IntKind.i64 (0 - Go.IntKind.wrap Go.IntKind.i64 (n3 - n8)) else Go.IntKind.wrap Go.IntKind.i64 (n3 - n8)) > d))
 (((bcase (decide ((if Go.IntKind.wrap Go.IntKind.i64 (0 - Go.IntKind.wrap Go.IntKind.i64 (n3 - n8)) > Go.IntKind.wrap Go.IntKind.i64 (n3 - n8) then Go.IntKind.wrap Go.IntKind.i64 (0 - Go.IntKind.wrap Go.IntKind.i64 (n3 - n8)) else Go.IntKind.wrap Go.IntKind.i64 (n3 - n8)) > d))
 ((Go.Value.bool true) = (Go.Value.bool true))
 ((Go.Value.bool false) = (Go.Value.bool true))) ∧
 (((Go.Value.int Go.IntKind.i64 (d)) = (Go.Value.int Go.IntKind.i64 (d))) ∧
 (((Go.Value.pointer (Option.some (Go.Addr.mk 1000 3 Option.none))) = (Go.Value.pointer (Option.some (Go.Addr.mk 1000 3 Option.none)))) ∧
 (((Go.Value.int Go.IntKind.i64 (n8)) = (Go.Value.int Go.IntKind.i64 (n8))) ∧
 (((Go.Value.pointer (Option.some (Go.Addr.mk 1003 1 Option.none))) = (Go.Value.pointer (Option.some (Go.Addr.mk 1003 1 Option.none)))) ∧
 (((Go.Value.int Go.IntKind.i64 (n3)) = (Go.Value.int Go.IntKind.i64 (n3))) ∧
 (((Go.Value.pointer (Option.some (Go.Addr.mk 1002 1 Option.none))) = (Go.Value.pointer (Option.some (Go.Addr.mk 1002 1 Option.none)))) ∧
 True))))))) ∧
 (k [(D.agg [(D.val (Go.Value.int Go.IntKind.i64 (y))), (D.val (Go.Value.int Go.IntKind.i64 (3 : Int)))]), (D.val (Go.Value.bool true))]))
 (((bcase (decide ((if Go.IntKind.wrap Go.IntKind.i64 (0 - Go.IntKind.wrap Go.IntKind.i64 (n3 - n8)) > Go.IntKind.wrap Go.IntKind.i64 (n3 - n8) then Go.IntKind.wrap Go.IntKind.i64 (0 - Go.IntKind.wrap Go.IntKind.i64 (n3 - n8)) else Go.IntKind.wrap Go.IntKind.i64 (n3 - n8)) > d))
 ((Go.Value.bool true) = (Go.Value.bool false))
 ((Go.Value.bool false) = (Go.Value.bool false))) ∧
 (((Go.Value.int Go.IntKind.i64 (d)) = (Go.Value.int Go.IntKind.i64 (d))) ∧
 (((Go.Value.pointer (Option.some (Go.Addr.mk 1000 3 Option.none))) = (Go.Value.pointer (Option.some (Go.Addr.mk 1000 3 Option.none)))) ∧
 (((Go.Value.int Go.IntKind.i64 (n8)) = (Go.Value.int Go.IntKind.i64 (n8))) ∧
 (((Go.Value.pointer (Option.some (Go.Addr.mk 1003 1 Option.none))) = (Go.Value.pointer (Option.some (Go.Addr.mk 1003 1 Option.none)))) ∧
 (((Go.Value.int Go.IntKind.i64 (n3)) = (Go.Value.int Go.IntKind.i64 (n3))) ∧
 (((Go.Value.pointer (Option.some (Go.Addr.mk 1002 1 Option.none))) = (Go.Value.pointer (Option.some (Go.Addr.mk 1002 1 Option.none)))) ∧
 True))))))) ∧
 ((((Go.Value.int Go.IntKind.i64 (e)) = (Go.Value.int Go.IntKind.i64 (e))) ∧
 (((Go.Value.pointer (Option.some (Go.Addr.mk 1000 4 Option.none))) = (Go.Value.pointer (Option.some (Go.Addr.mk 1000 4 Option.none)))) ∧
 (((Go.Value.int Go.IntKind.i64 (Go.IntKind.wrap Go.IntKind.i64 (n4 - n9))) = (Go.Value.int Go.IntKind.i64 (Go.IntKind.wrap Go.IntKind.i64 (n4 - n9)))) ∧
 (((Go.Value.int Go.IntKind.i64 (n9)) = (Go.Value.int Go.IntKind.i64 (n9))) ∧
 (((Go.Value.pointer (Option.some (Go.Addr.mk 1003 2 Option.none))) = (Go.Value.pointer (Option.some (Go.Addr.mk 1003 2 Option.none)))) ∧
 (((Go.Value.int Go.IntKind.i64 (n4)) = (Go.Value.int Go.IntKind.i64 (n4))) ∧
 (((Go.Value.pointer (Option.some (Go.Addr.mk 1002 2 Option.none))) = (Go.Value.pointer (Option.some (Go.Addr.mk 1002 2 Option.none)))) ∧
 True))))))) ∧
 (bcase (decide ((if Go.IntKind.wrap Go.IntKind.i64 (0 - Go.IntKind.wrap Go.IntKind.i64 (n4 - n9)) > Go.IntKind.wrap Go.IntKind.i64 (n4 - n9) then Go.IntKind.wrap Go.IntKind.i64 (0 - Go.IntKind.wrap Go.IntKind.i64 (n4 - n9)) else Go.IntKind.wrap Go.IntKind.i64 (n4 - n9)) > e))
 (((bcase (decide ((if Go.IntKind.wrap Go.IntKind.i64 (0 - Go.IntKind.wrap Go.IntKind.i64 (n4 - n9)) > Go.IntKind.wrap Go.IntKind.i64 (n4 - n9) then Go.IntKind.wrap Go.IntKind.i64 (0 - Go.IntKind.wrap Go.IntKind.i64 (n4 - n9)) else Go.IntKind.wrap Go.IntKind.i64 (n4 - n9)) > e))
 ((Go.Value.bool true) = (Go.Value.bool true))
 ((Go.Value.bool false) = (Go.Value.bool true))) ∧
 (((Go.Value.int Go.IntKind.i64 (e)) = (Go.Value.int Go.IntKind.i64 (e))) ∧
 (((Go.Value.pointer (Option.some (Go.Addr.mk 1000 4 Option.none))) = (Go.Value.pointer (Option.some (Go.Addr.mk 1000 4 Option.none)))) ∧
 (((Go.Value.int Go.IntKind.i64 (n9)) = (Go.Value.int Go.IntKind.i64 (n9))) ∧
 (((Go.Value.pointer (Option.some (Go.Addr.mk 1003 2 Option.none))) = (Go.Value.pointer (Option.some (Go.Addr.mk 1003 2 Option.none)))) ∧
 (((Go.Value.int Go.IntKind.i64 (n4)) = (Go.Value.int Go.IntKind.i64 (n4))) ∧
 (((Go.Value.pointer (Option.some (Go.Addr.mk 1002 2 Option.none))) = (Go.Value.pointer (Option.some (Go.Addr.mk 1002 2 Option.none)))) ∧
 True))))))) ∧
 (k [(D.agg [(D.val (Go.Value.int Go.IntKind.i64 (y))), (D.val (Go.Value.int Go.IntKind.i64 (4 : Int)))]), (D.val (Go.Value.bool true))]))
 (((bcase (decide ((if Go.IntKind.wrap Go.IntKind.i64 (0 - Go.IntKind.wrap Go.IntKind.i64 (n4 - n9)) > Go.IntKind.wrap Go.IntKind.i64 (n4 - n9) then Go.IntKind.wrap Go.IntKind.i64 (0 - Go.IntKind.wrap Go.IntKind.i64 (n4 - n9)) else Go.IntKind.wrap Go.IntKind.i64 (n4 - n9)) > e))
 ((Go.Value.bool true) = (Go.Value.bool false))
 ((Go.Value.bool false) = (Go.Value.bool false))) ∧
 (((Go.Value.int Go.IntKind.i64 (e)) = (Go.Value.int Go.IntKind.i64 (e))) ∧
 (((Go.Value.pointer (Option.some (Go.Addr.mk 1000 4 Option.none))) = (Go.Value.pointer (Option.some (Go.Addr.mk 1000 4 Option.none)))) ∧
 (((Go.Value.int Go.IntKind.i64 (n9)) = (Go.Value.int Go.IntKind.i64 (n9))) ∧
 (((Go.Value.pointer (Option.some (Go.Addr.mk 1003 2 Option.none))) = (Go.Value.pointer (Option.some (Go.Addr.mk 1003 2 Option.none)))) ∧
 (((Go.Value.int Go.IntKind.i64 (n4)) = (Go.Value.int Go.IntKind.i64 (n4))) ∧
 (((Go.Value.pointer (Option.some (Go.Addr.mk 1002 2 Option.none))) = (Go.Value.pointer (Option.some (Go.Addr.mk 1002 2 Option.none)))) ∧
 True))))))) ∧
 (B [(Prod.mk 1 (Go.Value.slice (Option.some (Go.Addr.mk 500 0 Option.none)) (n) (cap))), (Prod.mk 2 (Go.Value.slice (Option.some (Go.Addr.mk 501 0 Option.none)) (m) (cap2))), (Prod.mk 3 (Go.Value.pointer (Option.some (Go.Addr.mk 1000 0 Option.none)))), (Prod.mk 6 (Go.Value.pointer (Option.some (Go.Addr.mk 1001 0 Option.none)))), (Prod.mk 8 (Go.Value.int Go.IntKind.i64 (Go.IntKind.wrap Go.IntKind.i64 (x + n5)))), (Prod.mk 9 (Go.Value.int Go.IntKind.i64 (Go.IntKind.wrap Go.IntKind.i64 (y + 1))))] [(Prod.mk 500 (AObj.sym (l) false 4)), (Prod.mk 501 (AObj.sym (q) false 1)), (Prod.mk 1000 (AObj.cells [(Go.Value.int Go.IntKind.i64 (a)), (Go.Value.int Go.IntKind.i64 (b)), (Go.Value.int Go.IntKind.i64 (c)), (Go.Value.int Go.IntKind.i64 (d)), (Go.Value.int Go.IntKind.i64 (e)), (Go.Value.int Go.IntKind.i64 (f)), (Go.Value.int Go.IntKind.i64 (g)), (Go.Value.int Go.IntKind.i64 (h)), (Go.Value.int Go.IntKind.i64 (i))] 42 false 1)), (Prod.mk 1001 (AObj.cells [(Go.Value.int Go.IntKind.i64 (0 : Int)), (Go.Value.int Go.IntKind.i64 (0 : Int))] 47 false 2))])))))))))))
 (bcase (decide (y ≥ if 1 > a then 1 else a))
 (bcase (decide (n2 > n7))
 (k [(D.agg [(D.val (Go.Value.int Go.IntKind.i64 (y))), (D.val (Go.Value.int Go.IntKind.i64 (1 : Int)))]), (D.val (Go.Value.bool true))])
 (bcase (decide (Go.IntKind.wrap Go.IntKind.i64 (n2 - n7) > b))
 (k [(D.agg [(D.val (Go.Value.int Go.IntKind.i64 (y))), (D.val (Go.Value.int Go.IntKind.i64 (2 : Int)))]), (D.val (Go.Value.bool true))])
 (bcase (decide (Go.IntKind.wrap Go.IntKind.i64 (n7 - n2) > c))
 (k [(D.agg [(D.val (Go.Value.int Go.IntKind.i64 (y))), (D.val (Go.Value.int Go.IntKind.i64 (2 : Int)))]), (D.val (Go.Value.bool true))])
 ((((Go.Value.int Go.IntKind.i64 (d)) = (Go.Value.int Go.IntKind.i64 (d))) ∧
 (((Go.Value.pointer (Option.some (Go.Addr.mk 1000 3 Option.none))) = (Go.Value.pointer (Option.some (Go.Addr.mk 1000 3 Option.none)))) ∧
 (((Go.Value.int Go.IntKind.i64 (Go.IntKind.wrap Go.IntKind.i64 (n3 - n8))) = (Go.Value.int Go.IntKind.i64 (Go.IntKind.wrap Go.IntKind.i64 (n3 - n8)))) ∧
 (((Go.Value.int Go.IntKind.i64 (n8)) = (Go.Value.int Go.IntKind.i64 (n8))) ∧
 (((Go.Value.pointer (Option.some (Go.Addr.mk 1003 1 Option.none))) = (Go.Value.pointer (Option.some (Go.Addr.mk 1003 1 Option.none)))) ∧
 (((Go.Value.int Go.IntKind.i64 (n3)) = (Go.Value.int Go.IntKind.i64 (n3))) ∧
 (((Go.Value.pointer (Option.some (Go.Addr.mk 1002 1 Option.none))) = (Go.Value.pointer (Option.some (Go.Addr.mk 1002 1 Option.none)))) ∧
 True))))))) ∧
 (bcase (decide ((if Go.IntKind.wrap Go.IntKind.i64 (0 - Go.IntKind.wrap Go.IntKind.i64 (n3 - n8)) > Go.IntKind.wrap Go.IntKind.i64 (n3 - n8) then Go.IntKind.wrap Go.IntKind.i64 (0 - Go.IntKind.wrap Go.IntKind.i64 (n3 - n8)) else Go.IntKind.wrap Go.IntKind.i64 (n3 - n8)) > d))
 (((bcase (decide ((if Go.IntKind.wrap Go.IntKind.i64 (0 - Go.IntKind.wrap Go.IntKind.i64 (n3 - n8)) > Go.IntKind.wrap Go.IntKind.i64 (n3 - n8) then Go.IntKind.wrap Go.IntKind.i64 (0 - Go.IntKind.wrap Go.IntKind.i64 (n3 - n8)) else Go.IntKind.wrap Go.IntKind.i64 (n3 - n8)) > d))
 ((Go.Value.bool true) = (Go.Value.bool true))
 ((Go.Value.bool false) = (Go.Value.bool true))) ∧
 (((Go.Value.int Go.IntKind.i64 (d)) = (Go.Value.int Go.IntKind.i64 (d))) ∧
 (((Go.Value.pointer (Option.some (Go.Addr.mk 1000 3 Option.none))) = (Go.Value.pointer (Option.some (Go.Addr.mk 1000 3 Option.none)))) ∧
 (((Go.Value.int Go.IntKind.i64 (n8)) = (Go.Value.int Go.IntKind.i64 (n8))) ∧
 (((Go.Value.pointer (Option.some (Go.Addr.mk 1003 1 Option.none))) = (Go.Value.pointer (Option.some (Go.Addr.mk 1003 1 Option.none)))) ∧
 (((Go.Value.int Go.IntKind.i64 (n3)) = (Go.Value.int Go.IntKind.i64 (n3))) ∧
 (((Go.Value.pointer (Option.some (Go.Addr.mk 1002 1 Option.none))) = (Go.Value.pointer (Option.some (Go.Addr.mk 1002 1 Option.none)))) ∧
 True))))))) ∧
 (k [(D.agg [(D.val (Go.Value.int Go.IntKind.i64 (y))), (D.val (Go.Value.int Go.IntKind.i64 (3 : Int)))]), (D.val (Go.Value.bool true))]))
 (((bcase (decide ((if Go.IntKind.wrap Go.IntKind.i64 (0 - Go.IntKind.wrap Go.IntKind.i64 (n3 - n8)) > Go.IntKind.wrap Go.IntKind.i64 (n3 - n8) then Go.IntKind.wrap Go.IntKind.i64 (0 - Go.IntKind.wrap Go.IntKind.i64 (n3 - n8)) else Go.IntKind.wrap Go.IntKind.i64 (n3 - n8)) > d))
 ((Go.Value.bool true) = (Go.Value.bool false))
 ((Go.Value.bool false) = (Go.Value.bool false))) ∧
 (((Go.Value.int Go.IntKind.i64 (d)) = (Go.Value.int Go.IntKind.i64 (d))) ∧
 (((Go.Value.pointer (Option.some (Go.Addr.mk 1000 3 Option.none))) = (Go.Value.pointer (Option.some (Go.Addr.mk 1000 3 Option.none)))) ∧
 (((Go.Value.int Go.IntKind.i64 (n8)) = (Go.Value.int Go.IntKind.i64 (n8))) ∧
 (((Go.Value.pointer (Option.some (Go.Addr.mk 1003 1 Option.none))) = (Go.Value.pointer (Option.some (Go.Addr.mk 1003 1 Option.none)))) ∧
 (((Go.Value.int Go.IntKind.i64 (n3)) = (Go.Value.int Go.IntKind.i64 (n3))) ∧
 (((Go.Value.pointer (Option.some (Go.Addr.mk 1002 1 Option.none))) = (Go.Value.pointer (Option.some (Go.Addr.mk 1002 1 Option.none)))) ∧
 True))))))) ∧
 ((((Go.Value.int Go.IntKind.i64 (e)) = (Go.Value.int Go.IntKind.i64 (e))) ∧
 (((Go.Value.pointer (Option.some (Go.Addr.mk 1000 4 Option.none))) = (Go.Value.pointer (Option.some (Go.Addr.mk 1000 4 Option.none)))) ∧
 (((Go.Value.int Go.IntKind.i64 (Go.IntKind.wrap Go.IntKind.i64 (n4 - n9))) = (Go.Value.int Go.IntKind.i64 (Go.IntKind.wrap Go.IntKind.i64 (n4 - n9)))) ∧
 (((Go.Value.int Go.IntKind.i64 (n9)) = (Go.Value.int Go.IntKind.i64 (n9))) ∧
 (((Go.Value.pointer (Option.some (Go.Addr.mk 1003 2 Option.none))) = (Go.Value.pointer (Option.some (Go.Addr.mk 1003 2 Option.none)))) ∧
 (((Go.Value.int Go.IntKind.i64 (n4)) = (Go.Value.int Go.IntKind.i64 (n4))) ∧
 (((Go.Value.pointer (Option.some (Go.Addr.mk 1002 2 Option.none))) = (Go.Value.pointer (Option.some (Go.Addr.mk 1002 2 Option.none)))) ∧
 True))))))) ∧
 (bcase (decide ((if Go.IntKind.wrap Go.IntKind.i64 (0 - Go.IntKind.wrap Go.IntKind.i64 (n4 - n9)) > Go.IntKind.wrap Go.IntKind.i64 (n4 - n9) then Go.IntKind.wrap Go.IntKind.i64 (0 - Go.IntKind.wrap Go.IntKind.i64 (n4 - n9)) else Go.IntKind.wrap Go.IntKind.i64 (n4 - n9)) > e))
 (((bcase (decide ((if Go.IntKind.wrap Go.IntKind.i64 (0 - Go.IntKind.wrap Go.IntKind.i64 (n4 - n9)) > Go.IntKind.wrap Go.IntKind.i64 (n4 - n9) then Go.IntKind.wrap Go.IntKind.i64 (0 - Go.IntKind.wrap Go.IntKind.i64 (n4 - n9)) else Go.IntKind.wrap Go.IntKind.i64 (n4 - n9)) > e))
 ((Go.Value.bool true) = (Go.Value.bool true))
 ((Go.Value.bool false) = (Go.Value.bool true))) ∧
 (((Go.Value.int Go.IntKind.i64 (e)) = (Go.Value.int Go.IntKind.i64 (e))) ∧
 (((Go.Value.pointer (Option.some (Go.Addr.mk 1000 4 Option.none))) = (Go.Value.pointer (Option.some (Go.Addr.mk 1000 4 Option.none)))) ∧
 (((Go.Value.int Go.IntKind.i64 (n9)) = (Go.Value.int Go.IntKind.i64 (n9))) ∧
 (((Go.Value.pointer (Option.some (Go.Addr.mk 1003 2 Option.none))) = (Go.Value.pointer (Option.some (Go.Addr.mk 1003 2 Option.none)))) ∧
 (((Go.Value.int Go.IntKind.i64 (n4)) = (Go.Value.int Go.IntKind.i64 (n4))) ∧
 (((Go.Value.pointer (Option.some (Go.Addr.mk 1002 2 Option.none))) = (Go.Value.pointer (Option.some (Go.Addr.mk 1002 2 Option.none)))) ∧
 True))))))) ∧
 (k [(D.agg [(D.val (Go.Value.int Go.IntKind.i64 (y))), (D.val (Go.Value.int Go.IntKind.i64 (4 : Int)))]), (D.val (Go.Value.bool true))]))
 (((bcase (decide ((if Go.IntKind.wrap Go.IntKind.i64 (0 - Go.IntKind.wrap Go.IntKind.i64 (n4 - n9)) > Go.IntKind.wrap Go.IntKind.i64 (n4 - n9) then Go.IntKind.wrap Go.IntKind.i64 (0 - Go.IntKind.wrap Go.IntKind.i64 (n4 - n9)) else Go.IntKind.wrap Go.IntKind.i64 (n4 - n9)) > e))
 ((Go.Value.bool true) = (Go.Value.bool false))
 ((Go.Value.bool false) = (Go.Value.bool false))) ∧
 (((Go.Value.int Go.IntKind.i64 (e)) = (Go.Value.int Go.IntKind.i64 (e))) ∧
 (((Go.Value.pointer (Option.some (Go.Addr.mk 1000 4 Option.none))) = (Go.Value.pointer (Option.some (Go.Addr.mk 1000 4 Option.none)))) ∧
 (((Go.Value.int Go.IntKind.i64 (n9)) = (Go.Value.int Go.IntKind.i64 (n9))) ∧
 (((Go.Value.pointer (Option.some (Go.Addr.mk 1003 2 Option.none))) = (Go.Value.pointer (Option.some (Go.Addr.mk 1003 2 Option.none)))) ∧
 (((Go.Value.int Go.IntKind.i64 (n4)) = (Go.Value.int Go.IntKind.i64 (n4))) ∧
 (((Go.Value.pointer (Option.some (Go.Addr.mk 1002 2 Option.none))) = (Go.Value.pointer (Option.some (Go.Addr.mk 1002 2 Option.none)))) ∧
 True))))))) ∧
 (B [(Prod.mk 1 (Go.Value.slice (Option.some (Go.Addr.mk 500 0 Option.none)) (n) (cap))), (Prod.mk 2 (Go.Value.slice (Option.some (Go.Addr.mk 501 0 Option.none)) (m) (cap2))), (Prod.mk 3 (Go.Value.pointer (Option.some (Go.Addr.mk 1000 0 Option.none)))), (Prod.mk 6 (Go.Value.pointer (Option.some (Go.Addr.mk 1001 0 Option.none)))), (Prod.mk 8 (Go.Value.int Go.IntKind.i64 (Go.IntKind.wrap Go.IntKind.i64 (x + n5)))), (Prod.mk 9 (Go.Value.int Go.IntKind.i64 (Go.IntKind.wrap Go.IntKind.i64 (y + 1))))] [(Prod.mk 500 (AObj.sym (l) false 4)), (Prod.mk 501 (AObj.sym (q) false 1)), (Prod.mk 1000 (AObj.cells [(Go.Value.int Go.IntKind.i64 (a)), (Go.Value.int Go.IntKind.i64 (b)), (Go.Value.int Go.IntKind.i64 (c)), (Go.Value.int Go.IntKind.i64 (d)), (Go.Value.int Go.IntKind.i64 (e)), (Go.Value.int Go.IntKind.i64 (f)), (Go.Value.int Go.IntKind.i64 (g)), (Go.Value.int Go.IntKind.i64 (h)), (Go.Value.int Go.IntKind.i64 (i))] 42 false 1)), (Prod.mk 1001 (AObj.cells [(Go.Value.int Go.IntKind.i64 (0 : Int)), (Go.Value.int Go.IntKind.i64 (0 : Int))] 47 false 2))]))))))))))
 (bcase (decide (Go.IntKind.wrap Go.IntKind.i64 (n2 - n7) > b))
 (k [(D.agg [(D.val (Go.Value.int Go.IntKind.i64 (y))), (D.val (Go.Value.int Go.IntKind.i64 (2 : Int)))]), (D.val (Go.Value.bool true))])
 (bcase (decide (Go.IntKind.wrap Go.IntKind.i64 (n7 - n2) > c))
 (k [(D.agg [(D.val (Go.Value.int Go.IntKind.i64 (y))), (D.val (Go.Value.int Go.IntKind.i64 (2 : Int)))]), (D.val (Go.Value.bool true))])
 ((((Go.Value.int Go.IntKind.i64 (d)) = (Go.Value.int Go.IntKind.i64 (d))) ∧
 (((Go.Value.pointer (Option.some (Go.Addr.mk 1000 3 Option.none))) = (Go.Value.pointer (Option.some (Go.Addr.mk 1000 3 Option.none)))) ∧
 (((Go.Value.int Go.IntKind.i64 (Go.IntKind.wrap Go.IntKind.i64 (n3 - n8))) = (Go.Value.int Go.IntKind.i64 (Go.IntKind.wrap Go.IntKind.i64 (n3 - n8)))) ∧
 (((Go.Value.int Go.IntKind.i64 (n8)) = (Go.Value.int Go.IntKind.i64 (n8))) ∧
 (((Go.Value.pointer (Option.some (Go.Addr.mk 1003 1 Option.none))) = (Go.Value.pointer (Option.some (Go.Addr.mk 1003 1 Option.none)))) ∧
 (((Go.Value.int Go.IntKind.i64 (n3)) = (Go.Value.int Go.IntKind.i64 (n3))) ∧
 (((Go.Value.pointer (Option.some (Go.Addr.mk 1002 1 Option.none))) = (Go.Value.pointer (Option.some (Go.Addr.mk 1002 1 Option.none)))) ∧
 True))))))) ∧
 (bcase (decide ((if Go.IntKind.wrap Go.IntKind.i64 (0 - Go.IntKind.wrap Go.IntKind.i64 (n3 - n8)) > Go.IntKind.wrap Go.IntKind.i64 (n3 - n8) then Go.IntKind.wrap Go.IntKind.i64 (0 - Go.IntKind.wrap Go.IntKind.i64 (n3 - n8)) else Go.IntKind.wrap Go.IntKind.i64 (n3 - n8)) > d))
 (((bcase (decide ((if Go.IntKind.wrap Go.IntKind.i64 (0 - Go.IntKind.wrap Go.IntKind.i64 (n3 - n8)) > Go.IntKind.wrap Go.IntKind.i64 (n3 - n8) then Go.IntKind.wrap Go.IntKind.i64 (0 - Go.IntKind.wrap Go.IntKind.i64 (n3 - n8)) else Go.IntKind.wrap Go.IntKind.i64 (n3 - n8)) > d))
 ((Go.Value.bool true) = (Go.Value.bool true))
 ((Go.Value.bool false) = (Go.Value.bool true))) ∧
 (((Go.Value.int Go.IntKind.i64 (d)) = (Go.Value.int Go.IntKind.i64 (d))) ∧
 (((Go.Value.pointer (Option.some (Go.Addr.mk 1000 3 Option.none))) = (Go.Value.pointer (Option.some (Go.Addr.mk 1000 3 Option.none)))) ∧
 (((Go.Value.int Go.IntKind.i64 (n8)) = (Go.Value.int Go.IntKind.i64 (n8))) ∧
 (((Go.Value.pointer (Option.some (Go.Addr.mk 1003 1 Option.none))) = (Go.Value.pointer (Option.some (Go.Addr.mk 1003 1 Option.none)))) ∧
 (((Go.Value.int Go.IntKind.i64 (n3)) = (Go.Value.int Go.IntKind.i64 (n3))) ∧
 (((Go.Value.pointer (Option.some (Go.Addr.mk 1002 1 Option.none))) = (Go.Value.pointer (Option.some (Go.Addr.mk 1002 1 Option.none)))) ∧
 True))))))) ∧
 (k [(D.agg [(D.val (Go.Value.int Go.IntKind.i64 (y))), (D.val (Go.Value.int Go.IntKind.i64 (3 : Int)))]), (D.val (Go.Value.bool true))]))
 (((bcase (decide ((if Go.IntKind.wrap Go.IntKind.i64 (0 - Go.IntKind.wrap Go.IntKind.i64 (n3 - n8)) > Go.IntKind.wrap Go.IntKind.i64 (n3 - n8) then Go.IntKind.wrap Go.IntKind.i64 (0 - Go.IntKind.wrap Go.IntKind.i64 (n3 - n8)) else Go.IntKind.wrap Go.IntKind.i64 (n3 - n8)) > d))
 ((Go.Value.bool true) = (Go.Value.bool false))
 ((Go.Value.bool false) = (Go.Value.bool false))) ∧
 (((Go.Value.int Go.IntKind.i64 (d)) = (Go.Value.int Go.IntKind.i64 (d))) ∧
 (((Go.Value.pointer (Option.some (Go.Addr.mk 1000 3 Option.none))) = (Go.Value.pointer (Option.some (Go.Addr.mk 1000 3 Option.none)))) ∧
 (((Go.Value.int Go.IntKind.i64 (n8)) = (Go.Value.int Go.IntKind.i64 (n8))) ∧
 (((Go.Value.pointer (Option.some (Go.Addr.mk 1003 1 Option.none))) = (Go.Value.pointer (Option.some (Go.Addr.mk 1003 1 Option.none)))) ∧
 (((Go.Value.int Go.IntKind.i64 (n3)) = (Go.Value.int Go.IntKind.i64 (n3))) ∧
 (((Go.Value.pointer (Option.some (Go.Addr.mk 1002 1 Option.none))) = (Go.Value.pointer (Option.some (Go.Addr.mk 1002 1 Option.none)))) ∧
 True))))))) ∧
 ((((Go.Value.int Go.IntKind.i64 (e)) = (Go.Value.int Go.IntKind.i64 (e))) ∧
 (((Go.Value.pointer (Option.some (Go.Addr.mk 1000 4 Option.none))) = (Go.Value.pointer (Option.some (Go.Addr.mk 1000 4 Option.none)))) ∧
 (((Go.Value.int Go.IntKind.i64 (Go.IntKind.wrap Go.IntKind.i64 (n4 - n9))) = (Go.Value.int Go.IntKind.i64 (Go.IntKind.wrap Go.IntKind.i64 (n4 - n9)))) ∧
 (((Go.Value.int Go.IntKind.i64 (n9)) = (Go.Value.int Go.IntKind.i64 (n9))) ∧
 (((Go.Value.pointer (Option.some (Go.Addr.mk 1003 2 Option.none))) = (Go.Value.pointer (Option.some (Go.Addr.mk 1003 2 Option.none)))) ∧
 (((Go.Value.int Go.IntKind.i64 (n4)) = (Go.Value.int Go.IntKind.i64 (n4))) ∧
 (((Go.Value.pointer (Option.some (Go.Addr.mk 1002 2 Option.none))) = (Go.Value.pointer (Option.some (Go.Addr.mk 1002 2 Option.none)))) ∧
 True))))))) ∧
 (bcase (decide ((if Go.IntKind.wrap Go.IntKind.i64 (0 - Go.IntKind.wrap Go.IntKind.i64 (n4 - n9)) > Go.IntKind.wrap Go.IntKind.i64 (n4 - n9) then Go.IntKind.wrap Go.IntKind.i64 (0 - Go.IntKind.wrap Go.IntKind.i64 (n4 - n9)) else Go.IntKind.wrap Go.IntKind.i64 (n4 - n9)) > e))
 (((bcase (decide ((if Go.IntKind.wrap Go.IntKind.i64 (0 - Go.IntKind.wrap Go.IntKind.i64 (n4 - n9)) > Go.IntKind.wrap Go.IntKind.i64 (n4 - n9) then Go.IntKind.wrap Go.IntKind.i64 (0 - Go.IntKind.wrap Go.IntKind.i64 (n4 - n9)) else Go.IntKind.wrap Go.IntKind.i64 (n4 - n9)) > e))
 ((Go.Value.bool true) = (Go.Value.bool true))
 ((Go.Value.bool false) = (Go.Value.bool true))) ∧
 (((Go.Value.int Go.IntKind.i64 (e)) = (Go.Value.int Go.IntKind.i64 (e))) ∧
 (((Go.Value.pointer (Option.some (Go.Addr.mk 1000 4 Option.none))) = (Go.Value.pointer (Option.some (Go.Addr.mk 1000 4 Option.none)))) ∧
 (((Go.Value.int Go.IntKind.i64 (n9)) = (Go.Value.int Go.IntKind.i64 (n9))) ∧
 (((Go.Value.pointer (Option.some (Go.Addr.mk 1003 2 Option.none))) = (Go.Value.pointer (Option.some (Go.Addr.mk 1003 2 Option.none)))) ∧
 (((Go.Value.int Go.IntKind.i64 (n4)) = (Go.Value.int Go.IntKind.i64 (n4))) ∧
 (((Go.Value.pointer (Option.some (Go.Addr.mk 1002 2 Option.none))) = (Go.Value.pointer (Option.some (Go.Addr.mk 1002 2 Option.none)))) ∧
 True))))))) ∧
 (k [(D.agg [(D.val (Go.Value.int Go.IntKind.i64 (y))), (D.val (Go.Value.int Go.IntKind.i64 (4 : Int)))]), (D.val (Go.Value.bool true))]))
 (((bcase (decide ((if Go.IntKind.wrap Go.IntKind.i64 (0 - Go.IntKind.wrap Go.IntKind.i64 (n4 - n9)) > Go.IntKind.wrap Go.IntKind.i64 (n4 - n9) then Go.IntKind.wrap Go.IntKind.i64 (0 - Go.IntKind.wrap Go.IntKind.i64 (n4 - n9)) else Go.IntKind.wrap Go.IntKind.i64 (n4 - n9)) > e))
 ((Go.Value.bool true) = (Go.Value.bool false))
 ((Go.Value.bool false) = (Go.Value.bool false))) ∧
 (((Go.Value.int Go.IntKind.i64 (e)) = (Go.Value.int Go.IntKind.i64 (e))) ∧
 (((Go.Value.pointer (Option.some (Go.Addr.mk 1000 4 Option.none))) = (Go.Value.pointer (Option.some (Go.Addr.mk 1000 4 Option.none)))) ∧
 (((Go.Value.int Go.IntKind.i64 (n9)) = (Go.Value.int Go.IntKind.i64 (n9))) ∧
 (((Go.Value.pointer (Option.some (Go.Addr.mk 1003 2 Option.none))) = (Go.Value.pointer (Option.some (Go.Addr.mk 1003 2 Option.none)))) ∧
 (((Go.Value.int Go.IntKind.i64 (n4)) = (Go.Value.int Go.IntKind.i64 (n4))) ∧
 (((Go.Value.pointer (Option.some (Go.Addr.mk 1002 2 Option.none))) = (Go.Value.pointer (Option.some (Go.Addr.mk 1002 2 Option.none)))) ∧
 True))))))) ∧
 (B [(Prod.mk 1 (Go.Value.slice (Option.some (Go.Addr.mk 500 0 Option.none)) (n) (cap))), (Prod.mk 2 (Go.Value.slice (Option.some (Go.Addr.mk 501 0 Option.none)) (m) (cap2))), (Prod.mk 3 (Go.Value.pointer (Option.some (Go.Addr.mk 1000 0 Option.none)))), (Prod.mk 6 (Go.Value.pointer (Option.some (Go.Addr.mk 1001 0 Option.none)))), (Prod.mk 8 (Go.Value.int Go.IntKind.i64 (Go.IntKind.wrap Go.IntKind.i64 (x + n5)))), (Prod.mk 9 (Go.Value.int Go.IntKind.i64 (Go.IntKind.wrap Go.IntKind.i64 (y + 1))))] [(Prod.mk 500 (AObj.sym (l) false 4)), (Prod.mk 501 (AObj.sym (q) false 1)), (Prod.mk 1000 (AObj.cells [(Go.Value.int Go.IntKind.i64 (a)), (Go.Value.int Go.IntKind.i64 (b)), (Go.Value.int Go.IntKind.i64 (c)), (Go.Value.int Go.IntKind.i64 (d)), (Go.Value.int Go.IntKind.i64 (e)), (Go.Value.int Go.IntKind.i64 (f)), (Go.Value.int Go.IntKind.i64 (g)), (Go.Value.int Go.IntKind.i64 (h)), (Go.Value.int Go.IntKind.i64 (i))] 42 false 1)), (Prod.mk 1001 (AObj.cells [(Go.Value.int Go.IntKind.i64 (0 : Int)), (Go.Value.int Go.IntKind.i64 (0 : Int))] 47 false 2))]))))))))))))))))
 False)
 False)))
 False)
 False))))))))
 False)
 False)))
 False)
 False)
 (X 0 [(Prod.mk 6 (Go.Value.pointer (Option.some (Go.Addr.mk 1000 0 Option.none))))] [(Prod.mk 1000 (AObj.cells [(Go.Value.int Go.IntKind.i64 (0 : Int)), (Go.Value.int Go.IntKind.i64 (0 : Int))] 47 false 2))])) := by kernel_rfl
def n44 (C : Ct) (L : AtLoop) (k : List D → Prop) : Prop := wpNext Tryz.prog (hX C) L 44 0 .normal [(6, P0 1000)] [Z1001 1000 0 0] (dataK k)
theorem n44_text (C : Ct) (L : AtLoop) (k : List D → Prop) : n44 C L k =
 (k [(D.agg [(D.val (Go.Value.int Go.IntKind.i64 (0 : Int))), (D.val (Go.Value.int Go.IntKind.i64 (0 : Int)))]), (D.val (Go.Value.bool false))]) := by kernel_rfl
def n24 (C : Ct) (L : AtLoop) (k : List D → Prop) : Prop := wpNext Tryz.prog (hX C) L 24 0 .normal [(6, P0 1000)] [Z1001 1000 0 0] (dataK k)
theorem n24_text (C : Ct) (L : AtLoop) (k : List D → Prop) : n24 C L k =
 (k [(D.agg [(D.val (Go.Value.int Go.IntKind.i64 (0 : Int))), (D.val (Go.Value.int Go.IntKind.i64 (0 : Int)))]), (D.val (Go.Value.bool false))]) := by kernel_rfl
end Go.Proofs.C1R

/- Contracts of chapter 1: the first violation of a sequence. -/
namespace Go.Proofs.C1R
open Go Go.Abs Go.Proofs Go.Proofs.C1
set_option maxRecDepth 100000
theorem hokX : HandlerOK Tryz.prog (hX (Con Tryz.prog)) := handlerX_ok mixed (fun g h he args ats H k hk => by
  unfold preV at he
  split at he
  · obtain rfl := Option.some.inj he
    exact saidH_ok (fun _ _ _ h => h) _ _ _ _ _ hk
  · cases he) (by decide) 6
theorem hokX0 : HandlerOK Tryz.prog (hX0 (Con Tryz.prog)) := handlerX_ok mixed (fun g h he => by cases he) (by decide) 6
/-- the index of the first one that holds -/
def ix5 (b0 b1 b2 b3 b4 : Bool) : Int := if b0 then 0 else if b1 then 1 else if b2 then 2 else if b3 then 3 else if b4 then 4 else -1
theorem con71 (b0 b1 b2 b3 b4 : Bool) : Con Tryz.prog 71 [.sl 5 1 [vB b0, vB b1, vB b2, vB b3, vB b4], dB true] [dI (ix5 b0 b1 b2 b3 b4)] := by
  refine con_walk hokX0 mixed (u := 8) (by decide) Tryz.func71 rfl (by show 1 ≤ 400; omega) (fun caps => ?_)
  show f71 _ (caps 500) b0 b1 b2 b3 b4 _
  rw [f71_text]
  cases b0
  · refine .inr ⟨⟨by simp, rfl⟩, ?_⟩
    cases b1
    · refine .inr ⟨⟨by simp, rfl⟩, ?_⟩
      cases b2
      · refine .inr ⟨⟨by simp, rfl⟩, ?_⟩
        cases b3
        · refine .inr ⟨⟨by simp, rfl⟩, ?_⟩
          cases b4
          · exact .inr ⟨⟨by simp, rfl⟩, rfl⟩
          · exact .inl ⟨⟨by simp, rfl⟩, rfl⟩
        · exact .inl ⟨⟨by simp, rfl⟩, rfl⟩
      · exact .inl ⟨⟨by simp, rfl⟩, rfl⟩
    · exact .inl ⟨⟨by simp, rfl⟩, rfl⟩
  · exact .inl ⟨⟨by simp, rfl⟩, rfl⟩
/-- the rule that is violated at a position, or -1 -/
def rul (r : Ru) (l : List It) (q : List Int) (p : Nat) : Int :=
  if p = 0 then ix5 (v0 r l q p) false false false false else ix5 (v0 r l q p) (v1 r l q p) (v2 r l q p) (v3 r l q p) (v4 r l q p)
/-- the first violation from a position on -/
def fvio (r : Ru) (l : List It) (q : List Int) : Nat → Nat → List D
  | 0, _ => [.agg [dI 0, dI 0], dB false]
  | f + 1, p => if rul r l q p ≥ 0 then [.agg [dI p, dI (rul r l q p)], dB true] else fvio r l q f (p + 1)
abbrev fvioD (r : Ru) (l : List It) (q : List Int) : List D := fvio r l q q.length 0
theorem con44 {r : Ru} {l : List It} {q : List Int} (hr : ruOk r) (hs : SeqOk l q) : Con Tryz.prog 44 [dMix r l, dInts q, dI 0] (fvioD r l q) := by
  have hfew := hs.few
  have hfit := hs.fit
  let inv : Nat × (Nat × Nat) → Prop := fun y => y.1 ≤ q.length ∧ fvioD r l q = fvio r l q (q.length - y.1) y.1
  let st : Nat × (Nat × Nat) → Slots × Blocks := fun y => (s44 q.length y.2.2 (y.1 : Int), [Q501 (vi q), M1000 r.op r.wu r.wd r.tj r.hj r.me r.wp r.tp r.hp (S500 l.length y.2.1), Z1001 1001 0 0, I500 (vq l)])
  refine con_of (L := fun _ s b => ∃ x, inv x ∧ st x = (s, b)) hokX mixed Tryz.func44 rfl (by show 2 ≤ 400; omega) rfl (ids := [0]) (by kernel_rfl) rfl (fun caps => ?_) (fun id hid => ?_)
  · show g44 _ _ r.op r.wu r.wd r.tj r.hj r.me r.wp r.tp r.hp l.length (caps 500) (vq l) q.length (caps 501) (vi q) 0 _
    rw [g44_text]
    exact ⟨(0, (caps 500, caps 501)), ⟨Nat.zero_le _, rfl⟩, rfl⟩
  · obtain rfl := List.mem_singleton.1 hid
    refine ⟨_, st, inv, fun y => q.length - y.1, ⟨fun s b h => h, by kernel_rfl, ?_⟩⟩
    rintro ⟨p, c1, c2⟩ ⟨hp, hc⟩
    simp only at hp hc
    show r44 _ _ r.op r.wu r.wd r.tj r.hj r.me r.wp r.tp r.hp l.length c1 (vq l) q.length c2 (vi q) (p : Int) _ _ _
    rw [r44_text]
    refine bc_dec (fun h => ?_) (fun h => ?_)
    · have hp' : p < q.length := by omega
      have e : q.length - p = (q.length - (p + 1)) + 1 := by omega
      rw [e, fvio] at hc
      have c70 := con70 hr hs hp'
      rw [vioD] at c70
      simp only [vq_whole, vi_whole, vq_length, vi_length]
      have next : ¬ rul r l q p ≥ 0 → ∃ y, inv y ∧ q.length - y.1 < q.length - p ∧ st y = (s44 q.length c2 (IntKind.wrap .i64 ((p : Int) + 1)), [Q501 (vi q), M1000 r.op r.wu r.wd r.tj r.hj r.me r.wp r.tp r.hp (S500 l.length c1), Z1001 1001 0 0, I500 (vq l)]) := by
        intro hn
        rw [if_neg hn] at hc
        refine ⟨(p + 1, (c1, c2)), ⟨by show p + 1 ≤ q.length; omega, hc⟩, by show q.length - (p + 1) < q.length - p; omega, ?_⟩
        rw [w64 (by omega) (by omega)]; rfl
      refine bc_yes (by omega) (bc_yes (by omega) ?_)
      by_cases h0 : p = 0
      · rw [if_pos h0] at c70
        have er : rul r l q p = ix5 (v0 r l q p) false false false false := by rw [rul, if_pos h0]
        refine ⟨_, _, _, _, _, ⟨c70⟩, _, ⟨con71 _ _ _ _ _⟩, bc_dec (fun hq => ?_) (fun hq => ?_)⟩
        · show _ = _
          rw [hc, er, if_pos hq]
        · rw [← er] at hq
          exact next hq
      · rw [if_neg h0] at c70
        have er : rul r l q p = ix5 (v0 r l q p) (v1 r l q p) (v2 r l q p) (v3 r l q p) (v4 r l q p) := by rw [rul, if_neg h0]
        refine ⟨_, _, _, _, _, ⟨c70⟩, _, ⟨con71 _ _ _ _ _⟩, bc_dec (fun hq => ?_) (fun hq => ?_)⟩
        · show _ = _
          rw [hc, er, if_pos hq]
        · rw [← er] at hq
          exact next hq
    · show (if 0 = 0 then _ else _)
      rw [if_pos rfl]
      show n44 _ _ _
      rw [n44_text]
      have : q.length - p = 0 := by omega
      rw [this, fvio] at hc
      exact hc.symm
end Go.Proofs.C1R

/- Contracts of chapter 1: the first violation of a sequence (the reference). -/
namespace Go.Proofs.C1R
open Go Go.Abs Go.Proofs Go.Proofs.C1
set_option maxRecDepth 100000
abbrev K1 (r : Ru) (l : List It) (q : List Int) (p : Nat) : Prop := (((p : Int) < r.op) ∧ grow l q p < 0) ∨ ((p : Int) ≥ r.op ∧ grow l q p > 0)
abbrev K2 (r : Ru) (l : List It) (q : List Int) (p : Nat) : Prop := grow l q p > r.wu ∨ 0 - grow l q p > r.wd
abbrev K3 (r : Ru) (l : List It) (q : List Int) (p : Nat) : Prop := sz ((itAt l q p).t - (itAt l q (p - 1)).t) > r.tj
abbrev K4 (r : Ru) (l : List It) (q : List Int) (p : Nat) : Prop := sz ((itAt l q p).h - (itAt l q (p - 1)).h) > r.hj
variable {r : Ru} {l : List It} {q : List Int} {p : Nat}
theorem rul_pos (h0 : p ≠ 0) (hv : v0 r l q p = false) : rul r l q p = if v1 r l q p then 1 else if v2 r l q p then 2 else if v3 r l q p then 3 else if v4 r l q p then 4 else -1 := by
  rw [rul, if_neg h0, ix5, hv]; rfl
theorem rul1 (h0 : p ≠ 0) (hv : v0 r l q p = false) (h : K1 r l q p) : rul r l q p = 1 := by
  rw [rul_pos h0 hv, show v1 r l q p = true from decide_eq_true h]; rfl
theorem rul2 (h0 : p ≠ 0) (hv : v0 r l q p = false) (h : ¬ K1 r l q p) (h2 : K2 r l q p) : rul r l q p = 2 := by
  rw [rul_pos h0 hv, show v1 r l q p = false from decide_eq_false h, show v2 r l q p = true from decide_eq_true h2]; rfl
theorem rul3 (h0 : p ≠ 0) (hv : v0 r l q p = false) (h : ¬ K1 r l q p) (h2 : ¬ K2 r l q p) (h3 : K3 r l q p) : rul r l q p = 3 := by
  rw [rul_pos h0 hv, show v1 r l q p = false from decide_eq_false h, show v2 r l q p = false from decide_eq_false h2, show v3 r l q p = true from decide_eq_true h3]; rfl
theorem rul4 (h0 : p ≠ 0) (hv : v0 r l q p = false) (h : ¬ K1 r l q p) (h2 : ¬ K2 r l q p) (h3 : ¬ K3 r l q p) (h4 : K4 r l q p) : rul r l q p = 4 := by
  rw [rul_pos h0 hv, show v1 r l q p = false from decide_eq_false h, show v2 r l q p = false from decide_eq_false h2, show v3 r l q p = false from decide_eq_false h3, show v4 r l q p = true from decide_eq_true h4]; rfl
theorem rulN (h0 : p ≠ 0) (hv : v0 r l q p = false) (h : ¬ K1 r l q p) (h2 : ¬ K2 r l q p) (h3 : ¬ K3 r l q p) (h4 : ¬ K4 r l q p) : rul r l q p = -1 := by
  rw [rul_pos h0 hv, show v1 r l q p = false from decide_eq_false h, show v2 r l q p = false from decide_eq_false h2, show v3 r l q p = false from decide_eq_false h3, show v4 r l q p = false from decide_eq_false h4]; rfl
theorem con24 (hr : ruOk r) (hs : SeqOk l q) : Con Tryz.prog 24 [dRu r, dIts l, dInts q] (fvioD r l q) := by
  have hfew := hs.few
  have hfit := hs.fit
  let inv : Nat × (Nat × Nat) → Prop := fun y => y.1 ≤ q.length ∧ fvioD r l q = fvio r l q (q.length - y.1) y.1
  let st : Nat × (Nat × Nat) → Slots × Blocks := fun y => (s24 l.length y.2.1 q.length y.2.2 (metE l (q.take y.1)) (y.1 : Int), [I500 (vq l), Q501 (vi q), R1000 r.op r.wu r.wd r.tj r.hj r.me r.wp r.tp r.hp, Z1001 1001 0 0])
  refine con_of (L := fun _ s b => ∃ x, inv x ∧ st x = (s, b)) hokX mixed Tryz.func24 rfl (by show 2 ≤ 400; omega) rfl (ids := [0]) (by kernel_rfl) rfl (fun caps => ?_) (fun id hid => ?_)
  · show g24X _ _ r.op r.wu r.wd r.tj r.hj r.me r.wp r.tp r.hp l.length (caps 500) (vq l) q.length (caps 501) (vi q) _
    rw [g24X_text]
    exact ⟨(0, (caps 500, caps 501)), ⟨Nat.zero_le _, rfl⟩, rfl⟩
  · obtain rfl := List.mem_singleton.1 hid
    refine ⟨_, st, inv, fun y => q.length - y.1, ⟨fun s b h => h, by kernel_rfl, ?_⟩⟩
    rintro ⟨p, c1, c2⟩ ⟨hp, hc⟩
    simp only at hp hc
    show r24 _ _ r.op r.wu r.wd r.tj r.hj r.me r.wp r.tp r.hp l.length c1 (vq l) q.length c2 (vi q) (metE l (q.take p)) (p : Int) _ _ _
    rw [r24_text]
    refine bc_dec (fun h => ?_) (fun h => ?_)
    · have hp' : p < q.length := by omega
      have e : q.length - p = (q.length - (p + 1)) + 1 := by omega
      rw [e, fvio] at hc
      obtain ⟨b0, b1⟩ := hs.ins p hp'
      obtain ⟨hb, eb⟩ := itAt_eq hs hp'
      have hkb := itAt_ok hs hp'
      have hm := met_bound hs p (by omega)
      have z2 : (0 : Int) ≤ (p : Int) := by omega
      have e2 : metE l (q.take (p + 1)) = metE l (q.take p) + l[q[p].toNat].m := by
        have e' : (l.getD q[p].toNat itD) = itAt l q p := by simp [itAt, List.getD_eq_getElem?_getD, hp']
        rw [List.take_succ_eq_append_getElem hp', metE_snoc, e', eb]
      rw [eb] at hkb
      have ew : IntKind.wrap .i64 (metE l (q.take p) + l[q[p].toNat].m) = metE l (q.take (p + 1)) := by rw [e2, w64 (by omega) (by omega)]
      simp only [bt z2, bt h, Int.toNat_natCast, at1' (vi_at q p hp'), bt b0, bt b1, at4 (vq_four l _ hb), ew]
      have next : rul r l q p = -1 → ∃ y, inv y ∧ q.length - y.1 < q.length - p ∧ st y = (s24 l.length c1 q.length c2 (metE l (q.take (p + 1))) (IntKind.wrap .i64 ((p : Int) + 1)), [I500 (vq l), Q501 (vi q), R1000 r.op r.wu r.wd r.tj r.hj r.me r.wp r.tp r.hp, Z1001 1001 0 0]) := by
        intro hn
        rw [hn, if_neg (by omega)] at hc
        refine ⟨(p + 1, (c1, c2)), ⟨by show p + 1 ≤ q.length; omega, hc⟩, by show q.length - (p + 1) < q.length - p; omega, ?_⟩
        rw [w64 (by omega) (by omega)]; rfl
      have fin : ∀ ρ : Int, ρ ≥ 0 → rul r l q p = ρ → [D.agg [dI p, dI ρ], dB true] = fvioD r l q := by
        intro ρ h0 he
        rw [hc, he, if_pos h0]
      refine bc_dec (fun hme => ?_) (fun hme => ?_)
      · refine fin 0 (by omega) ?_
        have hv : v0 r l q p = true := decide_eq_true hme
        rw [rul]
        split <;> (rw [ix5, hv]; rfl)
      · have hv : v0 r l q p = false := decide_eq_false hme
        refine bc_beq (fun h0 => ?_) (fun h0 => ?_)
        · refine next ?_
          rw [rul, if_pos (by omega), hv]; rfl
        · have h0' : p ≠ 0 := by omega
          have h1 : p - 1 < q.length := by omega
          obtain ⟨a0, a1⟩ := hs.ins (p - 1) h1
          obtain ⟨ha, ea⟩ := itAt_eq hs h1
          have hka := itAt_ok hs h1
          rw [ea] at hka
          have hw : IntKind.wrap .i64 ((p : Int) - 1) = ((p - 1 : Nat) : Int) := by rw [w64 (by omega) (by omega)]; omega
          have z0 : (0 : Int) ≤ ((p - 1 : Nat) : Int) := by omega
          have z1 : ((p - 1 : Nat) : Int) < (q.length : Int) := by omega
          have hg : grow l q p = l[q[p].toNat].w - l[q[p - 1].toNat].w := by rw [grow, eb, ea]
          have w1 : IntKind.wrap .i64 (l[q[p].toNat].w - l[q[p - 1].toNat].w) = grow l q p := by rw [hg, w64 (by omega) (by omega)]
          have w2 : IntKind.wrap .i64 (l[q[p - 1].toNat].w - l[q[p].toNat].w) = 0 - grow l q p := by rw [hg, w64 (by omega) (by omega)]; omega
          have t1 := sz_text (a := l[q[p].toNat].t - l[q[p - 1].toNat].t) (by omega) (by omega)
          have t2 := sz_text (a := l[q[p].toNat].h - l[q[p - 1].toNat].h) (by omega) (by omega)
          have wt : IntKind.wrap .i64 (l[q[p].toNat].t - l[q[p - 1].toNat].t) = l[q[p].toNat].t - l[q[p - 1].toNat].t := w64 (by omega) (by omega)
          have wh : IntKind.wrap .i64 (l[q[p].toNat].h - l[q[p - 1].toNat].h) = l[q[p].toNat].h - l[q[p - 1].toNat].h := w64 (by omega) (by omega)
          simp only [hw, bt z0, bt z1, Int.toNat_natCast, at1' (vi_at q (p - 1) h1), bt a0, bt a1, at4 (vq_four l _ ha), w1, w2, wt, wh, t1, t2, eq_self, true_and, and_true]
          have k3 : K3 r l q p ↔ sz (l[q[p].toNat].t - l[q[p - 1].toNat].t) > r.tj := by unfold K3; rw [eb, ea]
          have k4 : K4 r l q p ↔ sz (l[q[p].toNat].h - l[q[p - 1].toNat].h) > r.hj := by unfold K4; rw [eb, ea]
          have tail : ¬ K1 r l q p → ¬ K2 r l q p → ∀ {A B C : Prop}, (∀ ρ : Int, ρ = 3 → rul r l q p = ρ → A) → True := fun _ _ _ _ _ _ => trivial
          clear tail
          have hop := hr.1
          repeat' first
            | (refine fin 1 (by omega) (rul1 h0' hv ?_); unfold K1; omega)
            | (refine fin 2 (by omega) (rul2 h0' hv ?_ ?_) <;> (first | unfold K1 | unfold K2) <;> omega)
            | exact ⟨bc_yes (by assumption) trivial, fin 3 (by omega) (rul3 h0' hv (by unfold K1; omega) (by unfold K2; omega) (k3.2 (by assumption)))⟩
            | exact ⟨bc_yes (by assumption) trivial, fin 4 (by omega) (rul4 h0' hv (by unfold K1; omega) (by unfold K2; omega) (fun h => by have := k3.1 h; contradiction) (k4.2 (by assumption)))⟩
            | exact ⟨bc_no (by assumption) trivial, next (rulN h0' hv (by unfold K1; omega) (by unfold K2; omega) (fun h => by have := k3.1 h; contradiction) (fun h => by have := k4.1 h; contradiction))⟩
            | refine bc_dec (fun _ => ?_) (fun _ => ?_)
            | refine ⟨bc_no (by assumption) trivial, ?_⟩
    · show (if 0 = 0 then _ else _)
      rw [if_pos rfl]
      show n24 _ _ _
      rw [n24_text]
      have : q.length - p = 0 := by omega
      rw [this, fvio] at hc
      exact hc.symm
end Go.Proofs.C1R
