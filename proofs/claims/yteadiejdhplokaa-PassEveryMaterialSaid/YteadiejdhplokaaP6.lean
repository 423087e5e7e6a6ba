/- Texts of the proof, put together: GpP1, GpP2, GpP3, GpP4, GpP5, GpPR, GpP6, GpP7, AbsGood, GpPK0, GpP10, GpP11, GpP12, GpPRE, GpP13, GpP14, GpP15. -/
import Derived.Test.YteadiejdhplokaaP5
import Derived.Test.YteadiejdhplokaaP4
import Derived.Test.YteadiejdhplokaaP3
import Derived.Test.YteadiejdhplokaaProg
import Derived.Lib.LaidTab
import Derived.Lib.ItoaNum
import Derived.Test.YteadiejdhplokaaRows
import Derived.Handed
import Derived.JoinedCond
/- Chapter 3: how functions are met, and small functions, in data. -/
namespace Go.Proofs.G5p
open Go Go.Abs Go.Proofs Go.Str
set_option maxRecDepth 100000
theorem mixed : Try.prog.follows .mixedOrders = true := by kernel_rfl
abbrev C5 : FuncId → List D → List D → Prop := Con Try.prog
abbrev dI (a : Int) : D := .val (.int .i64 a)
abbrev dB (b : Bool) : D := .val (.bool b)
abbrev dS (l : List UInt8) : D := .val (.string (bs l))
theorem hokE : HandlerOK Try.prog (hE C5) := handlerX_ok mixed (fun g h he => by cases he) (by decide) 6
theorem ite_so {c : Prop} [Decidable c] {α : Type} {x h : α} {r : Option α} (e : (if c then some x else r) = some h) : (c ∧ x = h) ∨ r = some h := by
  by_cases hc : c
  · rw [if_pos hc] at e; exact .inl ⟨hc, Option.some.inj e⟩
  · rw [if_neg hc] at e; exact .inr e
theorem prePOK : PreOK Try.prog (preP C5) := by
  intro g h he args ats H k hk
  unfold preP at he
  rcases ite_so he with ⟨_, rfl⟩ | he
  · exact freshH_ok hk
  rcases ite_so he with ⟨_, rfl⟩ | he
  · exact freshH_ok hk
  rcases ite_so he with ⟨_, rfl⟩ | he
  · exact saidH_ok (fun _ _ _ h => h) _ _ _ _ _ hk
  · cases he
theorem hokP : HandlerOK Try.prog (hP C5) := handlerX_ok mixed prePOK (by decide) 6
theorem v1le (l : List Int) : 0 + l.length * 1 ≤ (vi l).length := by simp
theorem bc_nf {a : Int} {x y : Prop} : bcase (a != a) x y = y := by rw [show (a != a) = false by simp]; rfl
theorem bc_qt {a : Int} {x y : Prop} : bcase (a == a) x y = x := by rw [show (a == a) = true by simp]; rfl
theorem bc_q {a b : Int} {x y : Prop} (h : a ≠ b) : bcase (a == b) x y = y := by rw [show (a == b) = false by simpa using h]; rfl
theorem bcF {x y : Prop} : bcase false x y = y := rfl
theorem bcT {x y : Prop} : bcase true x y = x := rfl
theorem conFE (l : List Int) (hlen : l.length < 1000000000) : C5 42 [.sl l.length 1 (vi l)] [dI (fst0 l)] := by
  let inv : Nat × Nat → Prop := fun x => x.1 ≤ l.length ∧ fst0 l = fst0 (l.drop x.1)
  let st : Nat × Nat → Slots × Blocks := fun x => zFE1 l.length x.2 l.length x.1 (vi l)
  refine con_of (L := fun _ s b => ∃ x, inv x ∧ st x = (s, b)) hokE mixed Try.func42 rfl (by show 1 ≤ 400; omega) rfl (ids := [0]) (by kernel_rfl) rfl (fun caps => ?_) (fun id hid => ?_)
  · show gFE _ _ l.length (caps 500) (vi l) _
    rw [gFE_text]
    exact ⟨(0, caps 500), ⟨by simp, rfl⟩, rfl⟩
  · obtain rfl := List.mem_singleton.1 hid
    refine ⟨Nat × Nat, st, inv, fun x => l.length - x.1, ⟨fun s b h => h, by kernel_rfl, ?_⟩⟩
    rintro ⟨i, cap⟩ ⟨hi, hr⟩
    simp only at hi hr
    show rFE1 _ _ l.length cap l.length i (vi l) _ _ _
    rw [rFE1_text]
    refine bc_dec (fun h => ?_) (fun h => ?_)
    · have hi' : i < l.length := by omega
      rw [List.drop_eq_getElem_cons hi', fst0] at hr
      simp only [bc_t h, bc_t (show (0 : Int) ≤ (i : Int) by omega), Int.toNat_natCast, at1 (vi_at l i hi')]
      refine bc_bne (fun hc => ?_) (fun hc => ?_)
      · rw [if_neg hc] at hr
        show [dI l[i]] = [dI (fst0 l)]
        rw [hr]
      · rw [if_pos hc] at hr
        refine ⟨(i + 1, cap), ⟨by show i + 1 ≤ l.length; omega, hr⟩, by show l.length - (i + 1) < l.length - i; omega, ?_⟩
        rw [w64 (by omega) (by omega)]; rfl
    · show (if 0 = 0 then _ else _)
      rw [if_pos rfl]
      show nFE2 _ _ _
      rw [nFE2_text]
      have : i = l.length := by omega
      rw [this, List.drop_length] at hr
      show [dI 0] = [dI (fst0 l)]
      rw [hr]; rfl
theorem conWj (a b c : Int) : C5 18 [dI a, dI b, dI c] [.val (.bool (decide (b ≤ a ∧ a ≤ c)))] := by
  refine con_flat hokE mixed Try.func18 rfl (by show 0 ≤ 400; omega) rfl (by kernel_rfl) (fun caps => ?_)
  show gWj _ _ a b c _
  rw [gWj_text]
  refine bc_dec (fun h => bc_dec (fun h2 => ?_) (fun h2 => ?_)) (fun h => ?_)
  · show _ = _; rw [decide_eq_true (show b ≤ a ∧ a ≤ c from ⟨h, h2⟩)]
  · show _ = _; rw [decide_eq_false (show ¬ (b ≤ a ∧ a ≤ c) by omega)]
  · show _ = _; rw [decide_eq_false (show ¬ (b ≤ a ∧ a ≤ c) by omega)]
theorem sayWt {a b c : Int} (h : b ≤ a ∧ a ≤ c) : Says C5 18 [dI a, dI b, dI c] [.val (.bool true)] := by
  have := conWj a b c
  rw [decide_eq_true h] at this
  exact ⟨this⟩
theorem sayWf {a b c : Int} (h : ¬ (b ≤ a ∧ a ≤ c)) : Says C5 18 [dI a, dI b, dI c] [.val (.bool false)] := by
  have := conWj a b c
  rw [decide_eq_false h] at this
  exact ⟨this⟩
def szI (a : Int) : Int := if -a > a then -a else a
theorem conSi (a : Int) (h : -9223372036854775807 ≤ a ∧ a ≤ 9223372036854775807) : C5 87 [dI a] [dI (szI a)] := by
  refine con_flat hokE mixed Try.func87 rfl (by show 0 ≤ 400; omega) rfl (by kernel_rfl) (fun caps => ?_)
  show gSi _ _ a _
  rw [gSi_text, w64 (by omega) (by omega)]
  show [dI _] = [dI _]
  rw [show (0 : Int) - a = -a by omega]; rfl
theorem conGc (a b : Int) (ha : -9223372036854775808 ≤ a ∧ a ≤ 9223372036854775807) (hb : -9223372036854775807 ≤ b ∧ b ≤ 9223372036854775807) (h0 : b = 0 → -9223372036854775807 ≤ a) : C5 71 [dI a, dI b] [dI (Int.gcd a b)] := by
  let inv : Int × Int → Prop := fun x => (-9223372036854775808 ≤ x.1 ∧ x.1 ≤ 9223372036854775807) ∧ (-9223372036854775807 ≤ x.2 ∧ x.2 ≤ 9223372036854775807) ∧ (x.2 = 0 → -9223372036854775807 ≤ x.1) ∧ Int.gcd x.1 x.2 = Int.gcd a b
  let st : Int × Int → Slots × Blocks := fun x => zGc1 x.1 x.2
  refine con_of (L := fun _ s b => ∃ x, inv x ∧ st x = (s, b)) hokP mixed Try.func71 rfl (by show 0 ≤ 400; omega) rfl (ids := [0]) (by kernel_rfl) rfl (fun caps => ?_) (fun id hid => ?_)
  · show gGc _ _ a b _
    rw [gGc_text]
    exact ⟨(a, b), ⟨ha, hb, h0, rfl⟩, rfl⟩
  · obtain rfl := List.mem_singleton.1 hid
    refine ⟨Int × Int, st, inv, fun x => x.2.natAbs, ⟨fun s b h => h, by kernel_rfl, ?_⟩⟩
    rintro ⟨x, y⟩ ⟨hx, hy, hxy, hg⟩
    simp only at hx hy hxy hg
    show rGc1 _ _ x y _ _ _
    rw [rGc1_text]
    refine bc_bne (fun h => ?_) (fun h => ?_)
    · simp only [bc_n h, true_and, and_true]
      have hlt := gcd_step_lt (a := x) h
      have hst := gcd_step x y
      refine ⟨(y, x.tmod y), ⟨⟨by show -9223372036854775808 ≤ y; omega, hy.2⟩, ?_, fun _ => hy.1, by show Int.gcd y (x.tmod y) = _; omega⟩, hlt, rfl⟩
      show -9223372036854775807 ≤ x.tmod y ∧ x.tmod y ≤ 9223372036854775807
      have : (x.tmod y).natAbs < y.natAbs := hlt
      omega
    · show (if 0 = 0 then _ else _)
      rw [if_pos rfl]
      show nGc2 _ _ x _
      have hxl := hxy h
      rw [nGc2_text]
      refine ⟨_, ⟨conSi x (by omega)⟩, ?_⟩
      subst h
      have := gcd_end x
      show [dI _] = [dI _]
      rw [show ((Int.gcd a b : Nat) : Int) = (Int.gcd x 0 : Nat) by rw [hg], this]
      have e : szI x = (if x < 0 then -x else x) := by unfold szI; split <;> split <;> omega
      rw [e]
theorem sayOr {f : FuncId} {args : List D} {b : Bool} {A B : Prop} (h : C5 f args [dB b]) (h1 : b = true → A) (h2 : b = false → B) : (Says C5 f args [.val (.bool true)] ∧ A) ∨ (Says C5 f args [.val (.bool false)] ∧ B) := by
  cases b with
  | true => exact .inl ⟨⟨h⟩, h1 rfl⟩
  | false => exact .inr ⟨⟨h⟩, h2 rfl⟩
theorem coniL (b : UInt8) : C5 81 [.val (.int .u8 (b.toNat : Int))] [dB (isLet b)] := by
  refine con_flat hokP mixed Try.func81 rfl (by show 0 ≤ 400; omega) rfl (by kernel_rfl) (fun caps => ?_)
  show giL _ _ (b.toNat : Int) _
  rw [giL_text]
  repeat' refine bc_dec (fun _ => ?_) (fun _ => ?_)
  all_goals first
    | (show [D.val (Value.bool true)] = [dB (isLet b)]; rw [let_t (by omega)])
    | (show [D.val (Value.bool false)] = [dB (isLet b)]; rw [let_f (by omega)])
theorem coniD (b : UInt8) : C5 82 [.val (.int .u8 (b.toNat : Int))] [dB (isDig b)] := by
  refine con_flat hokP mixed Try.func82 rfl (by show 0 ≤ 400; omega) rfl (by kernel_rfl) (fun caps => ?_)
  show giD _ _ (b.toNat : Int) _
  rw [giD_text]
  repeat' refine bc_dec (fun _ => ?_) (fun _ => ?_)
  all_goals first
    | (show [D.val (Value.bool true)] = [dB (isDig b)]; rw [dig_t (by omega)])
    | (show [D.val (Value.bool false)] = [dB (isDig b)]; rw [dig_f (by omega)])
theorem conIN (l : List UInt8) : C5 58 [dS l] [dB (nameOK l)] := by
  let inv : Nat → Prop := fun i => goesN l i
  let st : Nat → Slots × Blocks := fun i => zIN1 (bs l) i
  refine con_of (L := fun _ s b => ∃ x, inv x ∧ st x = (s, b)) hokP mixed Try.func58 rfl (by show 0 ≤ 400; omega) rfl (ids := [0]) (by kernel_rfl) rfl (fun caps => ?_) (fun id hid => ?_)
  · show gIN _ _ (bs l) _
    rw [gIN_text]
    simp only [bs_size]
    refine bc_dec (fun h => ?_) (fun h => bc_dec (fun h2 => ?_) (fun h2 => ⟨0, goesN_0 (by omega), rfl⟩))
    · show [D.val (Value.bool false)] = [dB (nameOK l)]
      rw [nameOK_len (by omega)]
    · show [D.val (Value.bool false)] = [dB (nameOK l)]
      rw [nameOK_len (by omega)]
  · obtain rfl := List.mem_singleton.1 hid
    refine ⟨Nat, st, inv, fun x => l.length - x, ⟨fun s b h => h, by kernel_rfl, ?_⟩⟩
    intro i hg
    have hb := hg.1
    have h12 := hg.2.1
    show rIN1 _ _ (bs l) i _ _ _
    rw [rIN1_text]
    simp only [bs_size]
    refine bc_dec (fun h => ?_) (fun h => ?_)
    · have hi : i < l.length := by omega
      simp only [bc_t (show (0 : Int) ≤ (i : Int) by omega), Int.toNat_natCast, byte1 (List.getElem?_eq_getElem hi), wi1 hi (by omega)]
      have good : nameC l[i] = true → (i = 0 → isLet l[i] = true) → ∃ x, inv x ∧ l.length - x < l.length - i ∧ st x = ([(0, Value.string (bs l)), (3, .int .i64 ((i + 1 : Nat) : Int))], []) := fun hc h0 =>
        ⟨i + 1, goesN_step hg hi hc h0, by omega, rfl⟩
      repeat' first
        | refine bc_dec (fun _ => ?_) (fun _ => ?_)
        | refine bc_beq (fun _ => ?_) (fun _ => ?_)
        | refine bc_bne (fun _ => ?_) (fun _ => ?_)
      all_goals first
        | exact good (name_t (by omega)) (fun _ => let_t (by omega))
        | exact good (name_t (by omega)) (fun h0 => absurd h0 (by omega))
        | (show [D.val (Value.bool false)] = [dB (nameOK l)]; rw [goesN_bad hg hi (name_f (by omega))])
        | (show [D.val (Value.bool false)] = [dB (nameOK l)]; rw [goesN_first hi (by omega) (let_f (by omega))])
    · show nIN2 _ _ _
      rw [nIN2_text]
      show [D.val (Value.bool true)] = [dB (nameOK l)]
      rw [goesN_end hg (by omega)]
def lowP (n d : Int) : Prop := 0 < d ∧ Int.gcd n d = 1
instance (n d : Int) : Decidable (lowP n d) := by unfold lowP; infer_instance
def I64 (a : Int) : Prop := -9223372036854775808 ≤ a ∧ a ≤ 9223372036854775807
theorem conIl (a b : Int) (ha : I64 a) (hb : I64 b) : C5 31 [.agg [dI a, dI b]] [.val (.bool (decide (lowP a b)))] := by
  refine con_flat hokP mixed Try.func31 rfl (by show 0 ≤ 400; omega) rfl (by kernel_rfl) (fun caps => ?_)
  show gIL _ _ a b _
  rw [gIL_text]
  refine bc_dec (fun h => ?_) (fun h => ?_)
  · refine ⟨_, ⟨conGc a b ha ⟨by omega, hb.2⟩ (fun h0 => by omega)⟩, bc_beq (fun h2 => ?_) (fun h2 => ?_)⟩
    · show _ = _; rw [decide_eq_true (show lowP a b from ⟨h, by omega⟩)]
    · show _ = _; rw [decide_eq_false (show ¬ lowP a b from fun hh => h2 (by have := hh.2; omega))]
  · show _ = _; rw [decide_eq_false (show ¬ lowP a b from fun hh => h hh.1)]
theorem v5le (l : List Fv) : 0 + l.length * 5 ≤ (vs5 l).length := by simp
theorem v5_whole (l : List Fv) : List.take (l.length * 5) (List.drop 0 (vs5 l)) = vs5 l := by simp [List.take_of_length_le]
theorem v1_whole (l : List Int) : List.take (l.length * 1) (List.drop 0 (vi l)) = vi l := by simp [List.take_of_length_le]
theorem coniN (l : List UInt8) : C5 47 [dS l] [dB (nameOK l)] := by
  let inv : Nat → Prop := fun i => goesN l i ∧ l.head?.any isLet = true
  let st : Nat → Slots × Blocks := fun i => ziN1 (bs l) l.length i
  refine con_of (L := fun _ s b => ∃ x, inv x ∧ st x = (s, b)) hokP mixed Try.func47 rfl (by show 0 ≤ 400; omega) rfl (ids := [0]) (by kernel_rfl) rfl (fun caps => ?_) (fun id hid => ?_)
  · show giN _ _ (bs l) _
    rw [giN_text]
    simp only [bs_size]
    refine bc_beq (fun h => ?_) (fun h => bc_dec (fun h2 => ?_) (fun h2 => ?_))
    · show [dB false] = [dB (nameOK l)]
      rw [nameOK_len (by omega)]
    · show [dB false] = [dB (nameOK l)]
      rw [nameOK_len (by omega)]
    · have hl : 0 < l.length := by omega
      simp only [byte1 (List.getElem?_eq_getElem hl)]
      refine sayOr (coniL _) (fun h3 => ⟨0, ⟨goesN_0 (by omega), ?_⟩, rfl⟩) (fun h3 => ?_)
      · rw [head_of hl]; simpa using h3
      · show [dB false] = [dB (nameOK l)]
        rw [nameOK_head hl h3]
  · obtain rfl := List.mem_singleton.1 hid
    refine ⟨Nat, st, inv, fun x => l.length - x, ⟨fun s b h => h, by kernel_rfl, ?_⟩⟩
    rintro i ⟨hg, hh⟩
    have hb := hg.1
    have h12 := hg.2.1
    show riN1 _ _ (bs l) l.length i _ _ _
    rw [riN1_text]
    refine bc_dec (fun h => ?_) (fun h => ?_)
    · have hi : i < l.length := by omega
      have h0 : i = 0 → isLet l[i] = true := by
        rintro rfl
        rw [head_of hi] at hh; simpa using hh
      simp only [bc_t (show (0 : Int) ≤ (i : Int) by omega), Int.toNat_natCast, byte1 (List.getElem?_eq_getElem hi), wi1 hi (by omega)]
      have good : nameC l[i] = true → ∃ x, inv x ∧ l.length - x < l.length - i ∧ st x = ([(0, Value.string (bs l)), (19, .int .i64 (l.length : Int)), (20, .int .i64 ((i + 1 : Nat) : Int))], []) := fun hc =>
        ⟨i + 1, ⟨goesN_step hg hi hc h0, hh⟩, by omega, rfl⟩
      refine sayOr (coniL _) (fun h1 => good (by unfold nameC; rw [h1]; rfl)) (fun h1 => ?_)
      refine sayOr (coniD _) (fun h2 => good (by unfold nameC; rw [h2]; simp)) (fun h2 => ?_)
      refine bc_bne (fun h3 => ?_) (fun h3 => good (by unfold nameC; rw [show l[i].toNat = 45 by omega]; simp))
      show [dB false] = [dB (nameOK l)]
      rw [goesN_bad hg hi (by unfold nameC; rw [h1, h2]; simp; omega)]
    · show (if 0 = 0 then _ else _)
      rw [if_pos rfl]
      show niN2 _ _ _
      rw [niN2_text]
      show [dB true] = [dB (nameOK l)]
      rw [goesN_end hg (by omega)]
theorem conlT (n d : Int) (hn : -4611686018427387904 ≤ n ∧ n ≤ 4611686018427387904) (hd : 0 < d ∧ d ≤ 4611686018427387904) : C5 53 [dI n, dI d] [.agg [dI (low n d).1, dI (low n d).2]] := by
  have hg := gcd_pos (a := n) (b := d) (.inr (by omega))
  let inv : Int × Int → Prop := fun x => 0 ≤ x.1 ∧ 0 ≤ x.2 ∧ Int.gcd x.1 x.2 = Int.gcd n d
  let st : Int × Int → Slots × Blocks := fun x => zlT1 n d x.1 x.2 0 0
  refine con_of (L := fun _ s b => ∃ x, inv x ∧ st x = (s, b)) hokP mixed Try.func53 rfl (by show 0 ≤ 400; omega) rfl (ids := [0]) (by kernel_rfl) rfl (fun caps => ?_) (fun id hid => ?_)
  · show glT _ _ n d _
    rw [glT_text, w64 (by omega) (by omega)]
    refine ⟨(if 0 - n > n then 0 - n else n, d), ⟨by show 0 ≤ (if 0 - n > n then 0 - n else n); split <;> omega, by show 0 ≤ d; omega, ?_⟩, rfl⟩
    show Int.gcd (if 0 - n > n then 0 - n else n) d = _
    split
    · rw [show (0 : Int) - n = -n by omega, Int.neg_gcd]
    · rfl
  · obtain rfl := List.mem_singleton.1 hid
    refine ⟨Int × Int, st, inv, fun x => x.2.natAbs, ⟨fun s b h => h, by kernel_rfl, ?_⟩⟩
    rintro ⟨x, y⟩ ⟨hx, hy, hgx⟩
    simp only at hx hy hgx
    show rlT1 _ _ n d x y 0 0 _ _ _
    rw [rlT1_text]
    refine bc_dec (fun h => ?_) (fun h => ?_)
    · have hne : y ≠ 0 := by omega
      simp only [bc_n hne, true_and, and_true]
      have hlt := gcd_step_lt (a := x) hne
      have hst := gcd_step x y
      exact ⟨(y, x.tmod y), ⟨hy, Int.tmod_nonneg _ hx, by show Int.gcd y (x.tmod y) = _; omega⟩, hlt, rfl⟩
    · show (if 0 = 0 then _ else _)
      rw [if_pos rfl]
      show nlT2 _ _ n d x 0 0 _
      obtain rfl : y = 0 := by omega
      have he := gcd_end x
      rw [if_neg (by omega)] at he
      rw [nlT2_text]
      obtain rfl : x = (Int.gcd n d : Nat) := by omega
      have hne : ((Int.gcd n d : Nat) : Int) ≠ 0 := by omega
      simp only [bc_n hne, true_and, and_true]
      have b1 := tdiv_small (n := n) (g := Int.gcd n d) (by omega) hg
      have b2 := tdiv_small (n := d) (g := Int.gcd n d) (by omega) hg
      rw [w64 (by omega) (by omega), w64 (by omega) (by omega)]
      show [D.agg _] = [D.agg _]
      rw [low, if_neg (by omega)]
end Go.Proofs.G5p

/- Chapter 3: what rules and schedules are valid, in data. -/
namespace Go.Proofs.G5p
open Go Go.Abs Go.Proofs Go.Str
set_option maxRecDepth 100000
/-- rules: the stands are radius, force, torque, and the two ends of the loss -/
structure Ru where
  w : Int
  st : Int
  fi : Int
  hlo : Int
  hhi : Int
  co : Int
  ss : List Fv
  slo : Int
  shi : Int
  flo : Int
  fhi : Int
abbrev Ru.d (r : Ru) : D := .agg [dI r.w, dI r.st, dI r.fi, dI r.hlo, dI r.hhi, dI r.co, .sl r.ss.length 5 (vs5 r.ss), dI r.slo, dI r.shi, dI r.flo, dI r.fhi]
abbrev Ru.dn (r : Ru) : D := .agg [dI r.w, dI r.st, dI r.fi, dI r.hlo, dI r.hhi, dI r.co, .nil, dI r.slo, dI r.shi, dI r.flo, dI r.fhi]
def wE (lo hi : Int) : List Int → Int
  | [] => 0
  | x :: r => if x < lo ∨ x > hi then 2 else wE lo hi r
def eE : List (Int × Int) → Int
  | [] => 0
  | p :: r => if p.1 > p.2 then 9 else eE r
def cntE (n : Nat) : Int := if n = 0 then 10 else if n > 6 then 8 else 0
def rngB (r : Ru) : Prop := (1 ≤ r.w ∧ r.w ≤ 2500) ∧ ((1 ≤ r.st ∧ r.st ≤ 1000) ∧ 1 ≤ r.fi ∧ r.fi ≤ 1000) ∧ ((0 ≤ r.hlo ∧ r.hlo ≤ 20000) ∧ (0 ≤ r.hhi ∧ r.hhi ≤ 20000) ∧ 0 ≤ r.co ∧ r.co ≤ 20000) ∧ ((1 ≤ r.slo ∧ r.slo ≤ 100) ∧ 1 ≤ r.shi ∧ r.shi ≤ 100) ∧ (0 ≤ r.flo ∧ r.flo ≤ 100) ∧ 0 ≤ r.fhi ∧ r.fhi ≤ 100
def ordB (r : Ru) : Prop := r.fi ≤ r.st ∧ r.hlo ≤ r.hhi ∧ r.slo ≤ r.shi ∧ r.flo ≤ r.fhi
instance (r : Ru) : Decidable (rngB r) := by unfold rngB; infer_instance
instance (r : Ru) : Decidable (ordB r) := by unfold ordB; infer_instance
def headE (r : Ru) : Int := if rngB r then if ordB r then cntE r.ss.length else 9 else 2
def stB (s : Fv) : Prop := (1 ≤ s.a ∧ s.a ≤ 1000) ∧ ((0 ≤ s.b ∧ s.b ≤ 1000000000000) ∧ 0 ≤ s.c ∧ s.c ≤ 1000000000000) ∧ (0 ≤ s.d ∧ s.d ≤ 1000) ∧ 0 ≤ s.e ∧ s.e ≤ 1000
instance (s : Fv) : Decidable (stB s) := by unfold stB; infer_instance
def stE (s : Fv) : Int := if stB s then if s.d ≤ s.e then 0 else 9 else 2
def stsE : Int → List Fv → Int × Int
  | _, [] => (0, 0)
  | i, s :: r => if stE s = 0 then stsE (i + 1) r else (i, stE s)
def chk (r : Ru) : Int × Int := if headE r = 0 then stsE 0 r.ss else (0, headE r)
theorem fst0_z (r : List Int) : fst0 (0 :: r) = fst0 r := by rw [fst0, if_pos rfl]
theorem fst0_n {a : Int} (h : a ≠ 0) (r : List Int) : fst0 (a :: r) = a := by rw [fst0, if_neg h]
theorem wE1 (lo hi a : Int) : wE lo hi [a] = if lo ≤ a ∧ a ≤ hi then 0 else 2 := by
  simp only [wE]; split <;> split <;> first | rfl | omega
theorem wE2 (lo hi a b : Int) : wE lo hi [a, b] = if (lo ≤ a ∧ a ≤ hi) ∧ lo ≤ b ∧ b ≤ hi then 0 else 2 := by
  simp only [wE]; repeat' split
  all_goals first | rfl | omega
theorem wE3 (lo hi a b c : Int) : wE lo hi [a, b, c] = if (lo ≤ a ∧ a ≤ hi) ∧ (lo ≤ b ∧ b ≤ hi) ∧ lo ≤ c ∧ c ≤ hi then 0 else 2 := by
  simp only [wE]; repeat' split
  all_goals first | rfl | omega
theorem eE1 (a b : Int) : eE [(a, b)] = if a ≤ b then 0 else 9 := by
  simp only [eE]; repeat' split
  all_goals first | rfl | omega
theorem eE4 (a b c d e f g h : Int) : eE [(a, b), (c, d), (e, f), (g, h)] = if a ≤ b ∧ c ≤ d ∧ e ≤ f ∧ g ≤ h then 0 else 9 := by
  simp only [eE]; repeat' split
  all_goals first | rfl | omega
theorem headE_eq (r : Ru) : fst0 [wE 1 2500 [r.w], wE 1 1000 [r.st, r.fi], wE 0 20000 [r.hlo, r.hhi, r.co], wE 1 100 [r.slo, r.shi], wE 0 100 [r.flo, r.fhi], eE [(r.fi, r.st), (r.hlo, r.hhi), (r.slo, r.shi), (r.flo, r.fhi)], cntE r.ss.length] = headE r := by
  rw [wE1, wE2, wE3, wE2, wE2, eE4]
  have two : ∀ {c : Prop} [Decidable c] (l : List Int) , ¬ c → fst0 ((if c then 0 else 2) :: l) = 2 := fun l h => by rw [if_neg h]; rfl
  have bad : ¬ rngB r → headE r = 2 := fun h => by rw [headE, if_neg h]
  by_cases h1 : 1 ≤ r.w ∧ r.w ≤ 2500
  · rw [if_pos h1, fst0_z]
    by_cases h2 : (1 ≤ r.st ∧ r.st ≤ 1000) ∧ 1 ≤ r.fi ∧ r.fi ≤ 1000
    · rw [if_pos h2, fst0_z]
      by_cases h3 : (0 ≤ r.hlo ∧ r.hlo ≤ 20000) ∧ (0 ≤ r.hhi ∧ r.hhi ≤ 20000) ∧ 0 ≤ r.co ∧ r.co ≤ 20000
      · rw [if_pos h3, fst0_z]
        by_cases h4 : (1 ≤ r.slo ∧ r.slo ≤ 100) ∧ 1 ≤ r.shi ∧ r.shi ≤ 100
        · rw [if_pos h4, fst0_z]
          by_cases h5 : (0 ≤ r.flo ∧ r.flo ≤ 100) ∧ 0 ≤ r.fhi ∧ r.fhi ≤ 100
          · rw [if_pos h5, fst0_z, headE, if_pos (show rngB r from ⟨h1, h2, h3, h4, h5⟩)]
            by_cases h6 : r.fi ≤ r.st ∧ r.hlo ≤ r.hhi ∧ r.slo ≤ r.shi ∧ r.flo ≤ r.fhi
            · rw [if_pos h6, fst0_z, if_pos (show ordB r from h6)]
              by_cases h7 : cntE r.ss.length = 0
              · rw [h7]; rfl
              · rw [fst0_n h7]
            · rw [if_neg h6, if_neg (show ¬ ordB r from h6)]; rfl
          · rw [two _ h5, bad (fun h => h5 h.2.2.2.2)]
        · rw [two _ h4, bad (fun h => h4 h.2.2.2.1)]
      · rw [two _ h3, bad (fun h => h3 h.2.2.1)]
    · rw [two _ h2, bad (fun h => h2 h.2.1)]
  · rw [two _ h1, bad (fun h => h1 h.1)]
theorem stE_eq (s : Fv) : fst0 [wE 1 1000 [s.a], wE 0 1000000000000 [s.b, s.c], wE 0 1000 [s.d, s.e], eE [(s.d, s.e)]] = stE s := by
  rw [wE1, wE2, wE2, eE1]
  have two : ∀ {c : Prop} [Decidable c] (l : List Int) , ¬ c → fst0 ((if c then 0 else 2) :: l) = 2 := fun l h => by rw [if_neg h]; rfl
  have bad : ¬ stB s → stE s = 2 := fun h => by rw [stE, if_neg h]
  by_cases h1 : 1 ≤ s.a ∧ s.a ≤ 1000
  · rw [if_pos h1, fst0_z]
    by_cases h2 : (0 ≤ s.b ∧ s.b ≤ 1000000000000) ∧ 0 ≤ s.c ∧ s.c ≤ 1000000000000
    · rw [if_pos h2, fst0_z]
      by_cases h3 : (0 ≤ s.d ∧ s.d ≤ 1000) ∧ 0 ≤ s.e ∧ s.e ≤ 1000
      · rw [if_pos h3, fst0_z, stE, if_pos (show stB s from ⟨h1, h2, h3⟩)]
        by_cases h4 : s.d ≤ s.e
        · rw [if_pos h4]; rfl
        · rw [if_neg h4]; rfl
      · rw [two _ h3, bad (fun h => h3 h.2.2)]
    · rw [two _ h2, bad (fun h => h2 h.2.1)]
  · rw [two _ h1, bad (fun h => h1 h.1)]
theorem wE_drop {lo hi : Int} (l : List Int) (i : Nat) (h : i < l.length) : wE lo hi (l.drop i) = if l[i] < lo ∨ l[i] > hi then 2 else wE lo hi (l.drop (i + 1)) := by
  rw [List.drop_eq_getElem_cons h]; rfl
theorem conCW (lo hi : Int) (l : List Int) (hlen : l.length < 1000000000) : C5 43 [dI lo, dI hi, .sl l.length 1 (vi l)] [dI (wE lo hi l)] := by
  let inv : Nat × Nat → Prop := fun x => x.1 ≤ l.length ∧ wE lo hi l = wE lo hi (l.drop x.1)
  let st : Nat × Nat → Slots × Blocks := fun x => zCW1 lo hi l.length x.2 l.length x.1 (vi l)
  refine con_of (L := fun _ s b => ∃ x, inv x ∧ st x = (s, b)) hokE mixed Try.func43 rfl (by show 1 ≤ 400; omega) rfl (ids := [0]) (by kernel_rfl) rfl (fun caps => ?_) (fun id hid => ?_)
  · show gCW _ _ lo hi l.length (caps 500) (vi l) _
    rw [gCW_text]
    exact ⟨(0, caps 500), ⟨by simp, rfl⟩, rfl⟩
  · obtain rfl := List.mem_singleton.1 hid
    refine ⟨Nat × Nat, st, inv, fun x => l.length - x.1, ⟨fun s b h => h, by kernel_rfl, ?_⟩⟩
    rintro ⟨i, cap⟩ ⟨hi', hr⟩
    simp only at hi' hr
    show rCW1 _ _ lo hi l.length cap l.length i (vi l) _ _ _
    rw [rCW1_text]
    refine bc_dec (fun h => ?_) (fun h => ?_)
    · have hi2 : i < l.length := by omega
      rw [wE_drop l i hi2] at hr
      simp only [bc_t h, bc_t (show (0 : Int) ≤ (i : Int) by omega), Int.toNat_natCast, at1 (vi_at l i hi2)]
      refine bc_dec (fun h1 => ?_) (fun h1 => bc_dec (fun h2 => ?_) (fun h2 => ?_))
      · rw [if_pos (.inl h1)] at hr; show [dI 2] = _; rw [hr]
      · rw [if_pos (.inr h2)] at hr; show [dI 2] = _; rw [hr]
      · rw [if_neg (by omega)] at hr
        refine ⟨(i + 1, cap), ⟨hi2, hr⟩, by show l.length - (i + 1) < l.length - i; omega, ?_⟩
        rw [w64 (by omega) (by omega)]; rfl
    · show (if 0 = 0 then _ else _)
      rw [if_pos rfl]
      show nCW2 _ _ _
      rw [nCW2_text]
      have : i = l.length := by omega
      rw [this, List.drop_length] at hr
      show [dI 0] = _
      rw [hr]; rfl
theorem eE_drop (l : List (Int × Int)) (i : Nat) (h : i < l.length) : eE (l.drop i) = if l[i].1 > l[i].2 then 9 else eE (l.drop (i + 1)) := by
  rw [List.drop_eq_getElem_cons h]; rfl
theorem conCN (l : List (Int × Int)) (hlen : l.length < 1000000000) : C5 44 [.sl l.length 2 (vp l)] [dI (eE l)] := by
  let inv : Nat × Nat → Prop := fun x => x.1 ≤ l.length ∧ eE l = eE (l.drop x.1)
  let st : Nat × Nat → Slots × Blocks := fun x => zCN1 l.length x.2 l.length x.1 (vp l)
  refine con_of (L := fun _ s b => ∃ x, inv x ∧ st x = (s, b)) hokE mixed Try.func44 rfl (by show 1 ≤ 400; omega) rfl (ids := [0]) (by kernel_rfl) rfl (fun caps => ?_) (fun id hid => ?_)
  · show gCN _ _ l.length (caps 500) (vp l) _
    rw [gCN_text]
    exact ⟨(0, caps 500), ⟨by simp, rfl⟩, rfl⟩
  · obtain rfl := List.mem_singleton.1 hid
    refine ⟨Nat × Nat, st, inv, fun x => l.length - x.1, ⟨fun s b h => h, by kernel_rfl, ?_⟩⟩
    rintro ⟨i, cap⟩ ⟨hi', hr⟩
    simp only at hi' hr
    show rCN1 _ _ l.length cap l.length i (vp l) _ _ _
    rw [rCN1_text]
    refine bc_dec (fun h => ?_) (fun h => ?_)
    · have hi2 : i < l.length := by omega
      rw [eE_drop l i hi2] at hr
      simp only [bc_t h, bc_t (show (0 : Int) ≤ (i : Int) by omega), Int.toNat_natCast, at2 (vp_two l i hi2)]
      refine bc_dec (fun h1 => ?_) (fun h1 => ?_)
      · rw [if_pos h1] at hr; show [dI 9] = _; rw [hr]
      · rw [if_neg h1] at hr
        refine ⟨(i + 1, cap), ⟨hi2, hr⟩, by show l.length - (i + 1) < l.length - i; omega, ?_⟩
        rw [w64 (by omega) (by omega)]; rfl
    · show (if 0 = 0 then _ else _)
      rw [if_pos rfl]
      show nCN2 _ _ _
      rw [nCN2_text]
      have : i = l.length := by omega
      rw [this, List.drop_length] at hr
      show [dI 0] = _
      rw [hr]; rfl
theorem conCC (l : List Fv) : C5 45 [.sl l.length 5 (vs5 l)] [dI (cntE l.length)] := by
  refine con_flat hokE mixed Try.func45 rfl (by show 1 ≤ 400; omega) rfl (by kernel_rfl) (fun caps => ?_)
  show gCC _ _ l.length (caps 500) (vs5 l) _
  rw [gCC_text]; unfold cntE
  refine bc_beq (fun h => ?_) (fun h => bc_dec (fun h2 => ?_) (fun h2 => ?_))
  · show _ = _; rw [if_pos (by omega)]
  · show _ = _; rw [if_neg (by omega), if_pos (by omega)]
  · show _ = _; rw [if_neg (by omega), if_neg (by omega)]
theorem conCS (s : Fv) : C5 46 [.agg [dI s.a, dI s.b, dI s.c, dI s.d, dI s.e]] [dI (stE s)] := by
  refine con_flat hokP mixed Try.func46 rfl (by show 0 ≤ 400; omega) rfl (by kernel_rfl) (fun caps => ?_)
  show gCS _ _ s.a s.b s.c s.d s.e _
  rw [gCS_text]
  simp only [Qv, eq_self, true_and, and_true]
  refine ⟨_, ⟨conCW 1 1000 [s.a] (by simp)⟩, _, ⟨conCW 0 1000000000000 [s.b, s.c] (by simp)⟩, _, ⟨conCW 0 1000 [s.d, s.e] (by simp)⟩, _, ⟨conCN [(s.d, s.e)] (by simp)⟩, _, ⟨conFE [_, _, _, _] (by simp)⟩, ?_⟩
  show [dI _] = [dI _]
  rw [stE_eq]
theorem conCT (h : Int) : C5 48 [dI h] [dI (wE 1 1000 [h])] := by
  refine con_flat hokP mixed Try.func48 rfl (by show 0 ≤ 400; omega) rfl (by kernel_rfl) (fun caps => ?_)
  show gCT _ _ h _
  rw [gCT_text]
  exact ⟨_, ⟨conCW 1 1000 [h] (by simp)⟩, rfl⟩
theorem stsE_drop (l : List Fv) (i : Nat) (h : i < l.length) : stsE i (l.drop i) = if stE l[i] = 0 then stsE ((i + 1 : Nat) : Int) (l.drop (i + 1)) else ((i : Int), stE l[i]) := by
  rw [List.drop_eq_getElem_cons h]; rfl
theorem conKR (r : Ru) (hlen : r.ss.length < 1000000000) : C5 8 [r.d] [dI (chk r).1, dI (chk r).2] := by
  let inv : Nat × Nat → Prop := fun x => x.1 ≤ r.ss.length ∧ chk r = stsE x.1 (r.ss.drop x.1)
  let st : Nat × Nat → Slots × Blocks := fun x => zKR1 r.ss.length x.2 r.ss.length x.1 (vs5 r.ss)
  refine con_of (L := fun _ s b => ∃ x, inv x ∧ st x = (s, b)) hokP mixed Try.func8 rfl (by show 1 ≤ 400; omega) rfl (ids := [0]) (by kernel_rfl) rfl (fun caps => ?_) (fun id hid => ?_)
  · show gKR _ _ r.w r.st r.fi r.hlo r.hhi r.co r.ss.length (caps 500) (vs5 r.ss) r.slo r.shi r.flo r.fhi _
    rw [gKR_text]
    simp only [Qv, eq_self, true_and, and_true]
    refine ⟨_, ⟨conCW 1 2500 [r.w] (by simp)⟩, _, ⟨conCW 1 1000 [r.st, r.fi] (by simp)⟩, _, ⟨conCW 0 20000 [r.hlo, r.hhi, r.co] (by simp)⟩, _, ⟨conCW 1 100 [r.slo, r.shi] (by simp)⟩, _, ⟨conCW 0 100 [r.flo, r.fhi] (by simp)⟩, _, ⟨conCN [(r.fi, r.st), (r.hlo, r.hhi), (r.slo, r.shi), (r.flo, r.fhi)] (by simp)⟩, ?_⟩
    rw [bc_t (v5le r.ss), v5_whole]
    refine ⟨_, ⟨conCC r.ss⟩, _, ⟨conFE [_, _, _, _, _, _, _] (by simp)⟩, ?_⟩
    rw [headE_eq]
    refine bc_bne (fun h => ?_) (fun h => ⟨(0, caps 500), ⟨Nat.zero_le _, by rw [chk, if_pos h]; rfl⟩, rfl⟩)
    show [dI 0, dI (headE r)] = _
    rw [chk, if_neg h]
  · obtain rfl := List.mem_singleton.1 hid
    refine ⟨Nat × Nat, st, inv, fun x => r.ss.length - x.1, ⟨fun s b h => h, by kernel_rfl, ?_⟩⟩
    rintro ⟨i, cap⟩ ⟨hi', hr⟩
    simp only at hi' hr
    show rKR1 _ _ r.ss.length cap r.ss.length i (vs5 r.ss) _ _ _
    rw [rKR1_text]
    refine bc_dec (fun h => ?_) (fun h => ?_)
    · have hi2 : i < r.ss.length := by omega
      rw [stsE_drop r.ss i hi2] at hr
      simp only [bc_t h, bc_t (show (0 : Int) ≤ (i : Int) by omega), Int.toNat_natCast, at5 (vs5_all r.ss i hi2)]
      refine ⟨_, ⟨conCS r.ss[i]⟩, bc_bne (fun h1 => ?_) (fun h1 => ?_)⟩
      · rw [if_neg h1] at hr; show [dI (i : Int), dI (stE _)] = _; rw [hr]
      · rw [if_pos h1] at hr
        refine ⟨(i + 1, cap), ⟨hi2, hr⟩, by show r.ss.length - (i + 1) < r.ss.length - i; omega, ?_⟩
        rw [w64 (by omega) (by omega)]; rfl
    · show (if 0 = 0 then _ else _)
      rw [if_pos rfl]
      show nKR2 _ _ _
      rw [nKR2_text]
      have : i = r.ss.length := by omega
      rw [this, List.drop_length] at hr
      show [dI 0, dI 0] = _
      rw [hr]; rfl
/-- a schedule's errors, for rules without one -/
def thE (n : Nat) (fi : Int) : Int → Int → List Int → Int × Int
  | _, before, [] => if before ≠ fi then ((n : Int) - 1, 14) else (0, 0)
  | i, before, h :: l => if ¬ (1 ≤ h ∧ h ≤ 1000) then (i, 2) else if h > before then (i, 9) else thE n fi (i + 1) h l
def schE (r : Ru) (nm : List UInt8) (th : List Int) : Int × Int := if nameOK nm = true then if th.length = r.ss.length then thE r.ss.length r.fi 0 r.st th else (0, 10) else (0, 4)
def schP (r : Ru) (nm : List UInt8) (th : List Int) : Int × Int := if (chk r).2 = 0 then schE r nm th else (0, (chk r).2)
abbrev scD (nm : List UInt8) (th : List Int) : D := .agg [dS nm, .sl th.length 1 (vi th)]
theorem thE_drop {n : Nat} {fi b : Int} (l : List Int) (i : Nat) (h : i < l.length) : thE n fi i b (l.drop i) = if ¬ (1 ≤ l[i] ∧ l[i] ≤ 1000) then ((i : Int), 2) else if l[i] > b then ((i : Int), 9) else thE n fi ((i + 1 : Nat) : Int) l[i] (l.drop (i + 1)) := by
  rw [List.drop_eq_getElem_cons h]; rfl
theorem conKS (r : Ru) (nm : List UInt8) (th : List Int) (hlen : r.ss.length < 1000000000) (hth : th.length < 1000000000) : C5 10 [r.d, scD nm th] [dI (schP r nm th).1, dI (schP r nm th).2] := by
  let inv : Nat × Nat × Nat × Int → Prop := fun x => x.1 ≤ th.length ∧ schP r nm th = thE r.ss.length r.fi x.1 x.2.2.2 (th.drop x.1)
  let st : Nat × Nat × Nat × Int → Slots × Blocks := fun x => zKS1 x.2.2.2 th.length x.2.1 th.length x.1 r.w r.st r.fi r.hlo r.hhi r.co r.ss.length x.2.2.1 r.slo r.shi r.flo r.fhi (vi th) (vs5 r.ss)
  refine con_of (L := fun _ s b => ∃ x, inv x ∧ st x = (s, b)) hokP mixed Try.func10 rfl (by show 2 ≤ 400; omega) rfl (ids := [1]) (by kernel_rfl) rfl (fun caps => ?_) (fun id hid => ?_)
  · show gKS _ _ r.w r.st r.fi r.hlo r.hhi r.co r.ss.length (caps 500) (vs5 r.ss) r.slo r.shi r.flo r.fhi (bs nm) th.length (caps 501) (vi th) _
    rw [gKS_text, bc_t (v5le r.ss), v5_whole]
    refine ⟨_, _, ⟨conKR r hlen⟩, bc_bne (fun h => ?_) (fun h => ?_)⟩
    · show [dI 0, dI _] = _
      rw [schP, if_neg h]
    · refine sayOr (coniN nm) (fun hn => bc_bne (fun h2 => ?_) (fun h2 => ?_)) (fun hn => ?_)
      · show [dI 0, dI 10] = _
        rw [schP, if_pos h, schE, if_pos hn, if_neg (by omega)]
      · exact ⟨(0, caps 501, caps 500, r.st), ⟨Nat.zero_le _, by rw [schP, if_pos h, schE, if_pos hn, if_pos (by omega)]; rfl⟩, rfl⟩
      · show [dI 0, dI 4] = _
        rw [schP, if_pos h, schE, if_neg (by rw [hn]; simp)]
  · obtain rfl := List.mem_singleton.1 hid
    refine ⟨Nat × Nat × Nat × Int, st, inv, fun x => th.length - x.1, ⟨fun s b h => h, by kernel_rfl, ?_⟩⟩
    rintro ⟨i, c1, c2, b⟩ ⟨hi', hr⟩
    simp only at hi' hr
    show rKS1 _ _ b th.length c1 th.length i r.w r.st r.fi r.hlo r.hhi r.co r.ss.length c2 r.slo r.shi r.flo r.fhi (vi th) (vs5 r.ss) _ _ _
    rw [rKS1_text]
    refine bc_dec (fun h => ?_) (fun h => ?_)
    · have hi2 : i < th.length := by omega
      rw [thE_drop th i hi2] at hr
      simp only [bc_t h, bc_t (show (0 : Int) ≤ (i : Int) by omega), Int.toNat_natCast, at1 (vi_at th i hi2)]
      refine ⟨_, ⟨conCT th[i]⟩, ?_⟩
      rw [wE1]
      by_cases h3 : 1 ≤ th[i] ∧ th[i] ≤ 1000
      · rw [if_neg (fun hh => hh h3)] at hr
        rw [if_pos h3]
        show bcase _ _ _
        refine bc_dec (fun h4 => ?_) (fun h4 => ?_)
        · rw [if_pos h4] at hr; show [dI (i : Int), dI 9] = _; rw [hr]
        · rw [if_neg h4] at hr
          refine ⟨(i + 1, c1, c2, th[i]), ⟨hi2, hr⟩, by show th.length - (i + 1) < th.length - i; omega, ?_⟩
          rw [w64 (by omega) (by omega)]; rfl
      · rw [if_pos h3] at hr
        rw [if_neg h3]
        show [dI (i : Int), dI 2] = _
        rw [hr]
    · show (if 1 = 1 then _ else _)
      rw [if_pos rfl]
      show nKS2 _ _ b r.w r.st r.fi r.hlo r.hhi r.co r.ss.length c2 r.slo r.shi r.flo r.fhi (vs5 r.ss) _
      rw [nKS2_text]
      have : i = th.length := by omega
      rw [this, List.drop_length, thE] at hr
      refine bc_bne (fun h2 => ?_) (fun h2 => ?_)
      · rw [if_pos h2] at hr; rw [hr, w64 (by omega) (by omega)]
      · rw [if_neg (by omega)] at hr; rw [hr]
end Go.Proofs.G5p

/- Chapter 3: the reference's checks, in data. -/
namespace Go.Proofs.G5p
open Go Go.Abs Go.Proofs Go.Str
set_option maxRecDepth 100000
theorem sayW {a b c : Int} {A B : Prop} (h1 : b ≤ a ∧ a ≤ c → A) (h2 : ¬ (b ≤ a ∧ a ≤ c) → B) : (Says C5 18 [dI a, dI b, dI c] [.val (.bool true)] ∧ A) ∨ (Says C5 18 [dI a, dI b, dI c] [.val (.bool false)] ∧ B) := by
  by_cases h : b ≤ a ∧ a ≤ c
  · exact .inl ⟨sayWt h, h1 h⟩
  · exact .inr ⟨sayWf h, h2 h⟩
theorem chk_rng {r : Ru} (h : ¬ rngB r) : chk r = (0, 2) := by
  have : headE r = 2 := by rw [headE, if_neg h]
  rw [chk, this]; rfl
theorem chk_ord {r : Ru} (h1 : rngB r) (h2 : ¬ ordB r) : chk r = (0, 9) := by
  have : headE r = 9 := by rw [headE, if_pos h1, if_neg h2]
  rw [chk, this]; rfl
theorem chk_cnt {r : Ru} (h1 : rngB r) (h2 : ordB r) : chk r = if cntE r.ss.length = 0 then stsE 0 r.ss else (0, cntE r.ss.length) := by
  rw [chk, headE, if_pos h1, if_pos h2]
theorem conRK (r : Ru) (hlen : r.ss.length < 1000000000) : C5 14 [r.d] [dI (chk r).1, dI (chk r).2] := by
  let inv : Nat × Nat → Prop := fun x => x.1 ≤ r.ss.length ∧ chk r = stsE x.1 (r.ss.drop x.1)
  let st : Nat × Nat → Slots × Blocks := fun x => zRK1 x.1 r.w r.st r.fi r.hlo r.hhi r.co r.ss.length x.2 r.slo r.shi r.flo r.fhi (vs5 r.ss)
  refine con_of (L := fun _ s b => ∃ x, inv x ∧ st x = (s, b)) hokP mixed Try.func14 rfl (by show 1 ≤ 400; omega) rfl (ids := [0]) (by kernel_rfl) rfl (fun caps => ?_) (fun id hid => ?_)
  · show gRK _ _ r.w r.st r.fi r.hlo r.hhi r.co r.ss.length (caps 500) (vs5 r.ss) r.slo r.shi r.flo r.fhi _
    rw [gRK_text]
    have bad : ¬ rngB r → [dI 0, dI 2] = [dI (chk r).1, dI (chk r).2] := fun h => by rw [chk_rng h]
    refine sayW (fun h1 => ?_) (fun h1 => bad (fun h => h1 h.1))
    refine sayW (fun h2 => ?_) (fun h2 => bad (fun h => h2 h.2.1.1))
    refine sayW (fun h3 => ?_) (fun h3 => bad (fun h => h3 h.2.1.2))
    refine sayW (fun h4 => ?_) (fun h4 => bad (fun h => h4 h.2.2.1.1))
    refine sayW (fun h5 => ?_) (fun h5 => bad (fun h => h5 h.2.2.1.2.1))
    refine sayW (fun h6 => ?_) (fun h6 => bad (fun h => h6 h.2.2.1.2.2))
    refine sayW (fun h7 => ?_) (fun h7 => bad (fun h => h7 h.2.2.2.1.1))
    refine sayW (fun h8 => ?_) (fun h8 => bad (fun h => h8 h.2.2.2.1.2))
    refine sayW (fun h9 => ?_) (fun h9 => bad (fun h => h9 h.2.2.2.2.1))
    refine sayW (fun h10 => ?_) (fun h10 => bad (fun h => h10 h.2.2.2.2.2))
    have hr : rngB r := ⟨h1, ⟨h2, h3⟩, ⟨h4, h5, h6⟩, ⟨h7, h8⟩, h9, h10⟩
    have bad2 : ¬ ordB r → [dI 0, dI 9] = [dI (chk r).1, dI (chk r).2] := fun h => by rw [chk_ord hr h]
    refine bc_dec (fun g1 => bad2 (fun h => by have := h.1; omega)) (fun g1 => ?_)
    refine bc_dec (fun g2 => bad2 (fun h => by have := h.2.1; omega)) (fun g2 => ?_)
    refine bc_dec (fun g3 => bad2 (fun h => by have := h.2.2.1; omega)) (fun g3 => ?_)
    refine bc_dec (fun g4 => bad2 (fun h => by have := h.2.2.2; omega)) (fun g4 => ?_)
    have ho : ordB r := ⟨by omega, by omega, by omega, by omega⟩
    have hc := chk_cnt hr ho
    refine bc_beq (fun g5 => ?_) (fun g5 => bc_dec (fun g6 => ?_) (fun g6 => ?_))
    · have e : cntE r.ss.length = 10 := by rw [cntE, if_pos (by omega)]
      rw [hc, e]; rfl
    · have e : cntE r.ss.length = 8 := by rw [cntE, if_neg (by omega), if_pos (by omega)]
      rw [hc, e]; rfl
    · have e : cntE r.ss.length = 0 := by rw [cntE, if_neg (by omega), if_neg (by omega)]
      exact ⟨(0, caps 500), ⟨Nat.zero_le _, by rw [hc, e]; rfl⟩, rfl⟩
  · obtain rfl := List.mem_singleton.1 hid
    refine ⟨Nat × Nat, st, inv, fun x => r.ss.length - x.1, ⟨fun s b h => h, by kernel_rfl, ?_⟩⟩
    rintro ⟨i, cap⟩ ⟨hi', hr⟩
    simp only at hi' hr
    show rRK1 _ _ i r.w r.st r.fi r.hlo r.hhi r.co r.ss.length cap r.slo r.shi r.flo r.fhi (vs5 r.ss) _ _ _
    rw [rRK1_text]
    refine bc_dec (fun h => ?_) (fun h => ?_)
    · have hi2 : i < r.ss.length := by omega
      rw [stsE_drop r.ss i hi2] at hr
      simp only [bc_t h, bc_t (show (0 : Int) ≤ (i : Int) by omega), Int.toNat_natCast, at5 (vs5_all r.ss i hi2)]
      have bad : ¬ stB r.ss[i] → [dI (i : Int), dI 2] = [dI (chk r).1, dI (chk r).2] := fun h => by
        have e : stE r.ss[i] = 2 := by rw [stE, if_neg h]
        rw [e, if_neg (by omega)] at hr; rw [hr]
      refine sayW (fun h1 => ?_) (fun h1 => bad (fun h => h1 h.1))
      refine sayW (fun h2 => ?_) (fun h2 => bad (fun h => h2 h.2.1.1))
      refine sayW (fun h3 => ?_) (fun h3 => bad (fun h => h3 h.2.1.2))
      refine sayW (fun h4 => ?_) (fun h4 => bad (fun h => h4 h.2.2.1))
      refine sayW (fun h5 => ?_) (fun h5 => bad (fun h => h5 h.2.2.2))
      have hb : stB r.ss[i] := ⟨h1, ⟨h2, h3⟩, h4, h5⟩
      refine bc_dec (fun h6 => ?_) (fun h6 => ?_)
      · have e : stE r.ss[i] = 9 := by rw [stE, if_pos hb, if_neg (by omega)]
        rw [e, if_neg (by omega)] at hr
        show [dI (i : Int), dI 9] = _
        rw [hr]
      · have e : stE r.ss[i] = 0 := by rw [stE, if_pos hb, if_pos (by omega)]
        rw [if_pos e] at hr
        refine ⟨(i + 1, cap), ⟨hi2, hr⟩, by show r.ss.length - (i + 1) < r.ss.length - i; omega, ?_⟩
        rw [w64 (by omega) (by omega)]; rfl
    · show (if 0 = 0 then _ else _)
      rw [if_pos rfl]
      show nRK2 _ _ _
      rw [nRK2_text]
      have : i = r.ss.length := by omega
      rw [this, List.drop_length] at hr
      show [dI 0, dI 0] = _
      rw [hr]; rfl
theorem conRKn (r : Ru) (hnil : r.ss = []) : C5 14 [r.dn] [dI (chk r).1, dI (chk r).2] := by
  refine con_of (L := fun _ s b => False) hokP mixed Try.func14 rfl (by show 0 ≤ 400; omega) rfl (ids := [0]) (by kernel_rfl) rfl (fun caps => ?_) (fun id hid => ?_)
  · show gRKn _ _ r.w r.st r.fi r.hlo r.hhi r.co r.slo r.shi r.flo r.fhi _
    rw [gRKn_text]
    have bad : ¬ rngB r → [dI 0, dI 2] = [dI (chk r).1, dI (chk r).2] := fun h => by rw [chk_rng h]
    refine sayW (fun h1 => ?_) (fun h1 => bad (fun h => h1 h.1))
    refine sayW (fun h2 => ?_) (fun h2 => bad (fun h => h2 h.2.1.1))
    refine sayW (fun h3 => ?_) (fun h3 => bad (fun h => h3 h.2.1.2))
    refine sayW (fun h4 => ?_) (fun h4 => bad (fun h => h4 h.2.2.1.1))
    refine sayW (fun h5 => ?_) (fun h5 => bad (fun h => h5 h.2.2.1.2.1))
    refine sayW (fun h6 => ?_) (fun h6 => bad (fun h => h6 h.2.2.1.2.2))
    refine sayW (fun h7 => ?_) (fun h7 => bad (fun h => h7 h.2.2.2.1.1))
    refine sayW (fun h8 => ?_) (fun h8 => bad (fun h => h8 h.2.2.2.1.2))
    refine sayW (fun h9 => ?_) (fun h9 => bad (fun h => h9 h.2.2.2.2.1))
    refine sayW (fun h10 => ?_) (fun h10 => bad (fun h => h10 h.2.2.2.2.2))
    have hr : rngB r := ⟨h1, ⟨h2, h3⟩, ⟨h4, h5, h6⟩, ⟨h7, h8⟩, h9, h10⟩
    have bad2 : ¬ ordB r → [dI 0, dI 9] = [dI (chk r).1, dI (chk r).2] := fun h => by rw [chk_ord hr h]
    refine bc_dec (fun g1 => bad2 (fun h => by have := h.1; omega)) (fun g1 => ?_)
    refine bc_dec (fun g2 => bad2 (fun h => by have := h.2.1; omega)) (fun g2 => ?_)
    refine bc_dec (fun g3 => bad2 (fun h => by have := h.2.2.1; omega)) (fun g3 => ?_)
    refine bc_dec (fun g4 => bad2 (fun h => by have := h.2.2.2; omega)) (fun g4 => ?_)
    have ho : ordB r := ⟨by omega, by omega, by omega, by omega⟩
    have hc := chk_cnt hr ho
    have e : cntE r.ss.length = 10 := by rw [hnil]; rfl
    first
      | (refine bc_beq (fun g5 => ?_) (fun g5 => absurd rfl g5); rw [hc, e]; rfl)
      | (rw [hc, e]; rfl)
  · obtain rfl := List.mem_singleton.1 hid
    exact ⟨Unit, fun _ => ([], []), fun _ => False, fun _ => 0, ⟨fun s b h => h.elim, by kernel_rfl, fun _ h => h.elim⟩⟩
theorem conRE (r : Ru) (hlen : r.ss.length < 1000000000) : C5 23 [r.d] [dI (chk r).2] := by
  refine con_flat hokP mixed Try.func23 rfl (by show 1 ≤ 400; omega) rfl (by kernel_rfl) (fun caps => ?_)
  show gRE _ _ r.w r.st r.fi r.hlo r.hhi r.co r.ss.length (caps 500) (vs5 r.ss) r.slo r.shi r.flo r.fhi _
  rw [gRE_text, bc_t (v5le r.ss), v5_whole]
  exact ⟨_, _, ⟨conRK r hlen⟩, rfl⟩
theorem conREn (r : Ru) (hnil : r.ss = []) : C5 23 [r.dn] [dI (chk r).2] := by
  refine con_flat hokP mixed Try.func23 rfl (by show 0 ≤ 400; omega) rfl (by kernel_rfl) (fun caps => ?_)
  show gREn _ _ r.w r.st r.fi r.hlo r.hhi r.co r.slo r.shi r.flo r.fhi _
  rw [gREn_text]
  exact ⟨_, _, ⟨conRKn r hnil⟩, rfl⟩
theorem conRS (r : Ru) (nm : List UInt8) (th : List Int) (hlen : r.ss.length < 1000000000) (hth : th.length < 1000000000) : C5 15 [r.d, scD nm th] [dI (schE r nm th).1, dI (schE r nm th).2] := by
  let inv : Nat × Nat × Nat × Int → Prop := fun x => x.1 ≤ th.length ∧ schE r nm th = thE r.ss.length r.fi x.1 x.2.2.2 (th.drop x.1)
  let st : Nat × Nat × Nat × Int → Slots × Blocks := fun x => zRS1 x.2.2.2 x.1 r.w r.st r.fi r.hlo r.hhi r.co r.ss.length x.2.1 r.slo r.shi r.flo r.fhi (bs nm) th.length x.2.2.1 (vs5 r.ss) (vi th)
  refine con_of (L := fun _ s b => ∃ x, inv x ∧ st x = (s, b)) hokP mixed Try.func15 rfl (by show 2 ≤ 400; omega) rfl (ids := [0]) (by kernel_rfl) rfl (fun caps => ?_) (fun id hid => ?_)
  · show gRS _ _ r.w r.st r.fi r.hlo r.hhi r.co r.ss.length (caps 500) (vs5 r.ss) r.slo r.shi r.flo r.fhi (bs nm) th.length (caps 501) (vi th) _
    rw [gRS_text]
    refine sayOr (conIN nm) (fun hn => bc_bne (fun h2 => ?_) (fun h2 => ?_)) (fun hn => ?_)
    · show [dI 0, dI 10] = _
      rw [schE, if_pos hn, if_neg (by omega)]
    · exact ⟨(0, caps 500, caps 501, r.st), ⟨Nat.zero_le _, by rw [schE, if_pos hn, if_pos (by omega)]; rfl⟩, rfl⟩
    · show [dI 0, dI 4] = _
      rw [schE, if_neg (by rw [hn]; simp)]
  · obtain rfl := List.mem_singleton.1 hid
    refine ⟨Nat × Nat × Nat × Int, st, inv, fun x => th.length - x.1, ⟨fun s b h => h, by kernel_rfl, ?_⟩⟩
    rintro ⟨i, c1, c2, b⟩ ⟨hi', hr⟩
    simp only at hi' hr
    show rRS1 _ _ b i r.w r.st r.fi r.hlo r.hhi r.co r.ss.length c1 r.slo r.shi r.flo r.fhi (bs nm) th.length c2 (vs5 r.ss) (vi th) _ _ _
    rw [rRS1_text]
    refine bc_dec (fun h => ?_) (fun h => ?_)
    · have hi2 : i < th.length := by omega
      rw [thE_drop th i hi2] at hr
      simp only [bc_t h, bc_t (show (0 : Int) ≤ (i : Int) by omega), Int.toNat_natCast, at1 (vi_at th i hi2)]
      refine sayW (fun h3 => ?_) (fun h3 => ?_)
      · rw [if_neg (fun hh => hh h3)] at hr
        refine bc_dec (fun h4 => ?_) (fun h4 => ?_)
        · rw [if_pos h4] at hr; show [dI (i : Int), dI 9] = _; rw [hr]
        · rw [if_neg h4] at hr
          refine ⟨(i + 1, c1, c2, th[i]), ⟨hi2, hr⟩, by show th.length - (i + 1) < th.length - i; omega, ?_⟩
          rw [w64 (by omega) (by omega)]; rfl
      · rw [if_pos h3] at hr
        show [dI (i : Int), dI 2] = _
        rw [hr]
    · show (if 0 = 0 then _ else _)
      rw [if_pos rfl]
      show nRS2 _ _ b r.w r.st r.fi r.hlo r.hhi r.co r.ss.length c1 r.slo r.shi r.flo r.fhi (vs5 r.ss) _
      rw [nRS2_text]
      have : i = th.length := by omega
      rw [this, List.drop_length, thE] at hr
      refine bc_bne (fun h2 => ?_) (fun h2 => ?_)
      · rw [if_pos h2] at hr; rw [hr, w64 (by omega) (by omega)]
      · rw [if_neg (by omega)] at hr; rw [hr]
end Go.Proofs.G5p

/- Chapter 3: what the reference gives back, in data. -/
namespace Go.Proofs.G5p
open Go Go.Abs Go.Proofs Go.Str
set_option maxRecDepth 100000
abbrev scN (nm : List UInt8) : D := .agg [dS nm, .nil]
theorem conRSn (r : Ru) (nm : List UInt8) (h0 : 0 < r.ss.length) (hlen : r.ss.length < 1000000000) : C5 15 [r.d, scN nm] [dI (schE r nm []).1, dI (schE r nm []).2] := by
  refine con_of (L := fun _ s b => False) hokP mixed Try.func15 rfl (by show 1 ≤ 400; omega) rfl (ids := [0]) (by kernel_rfl) rfl (fun caps => ?_) (fun id hid => ?_)
  · show gRSn _ _ r.w r.st r.fi r.hlo r.hhi r.co r.ss.length (caps 500) (vs5 r.ss) r.slo r.shi r.flo r.fhi (bs nm) _
    rw [gRSn_text]
    refine sayOr (conIN nm) (fun hn => bc_bne (fun h2 => ?_) (fun h2 => absurd h2 (by omega))) (fun hn => ?_)
    · show [dI 0, dI 10] = _
      rw [schE, if_pos hn, if_neg (by simp; omega)]
    · show [dI 0, dI 4] = _
      rw [schE, if_neg (by rw [hn]; simp)]
  · obtain rfl := List.mem_singleton.1 hid
    exact ⟨Unit, fun _ => ([], []), fun _ => False, fun _ => 0, ⟨fun s b h => h.elim, by kernel_rfl, fun _ h => h.elim⟩⟩
/-- the thickness before a stand -/
def bfr (b : Int) (th : List Int) : Nat → Int
  | 0 => b
  | i + 1 => th.getD i 0
/-- thicknesses descend -/
def Desc : Int → List Int → Prop
  | _, [] => True
  | b, h :: l => (1 ≤ h ∧ h ≤ 1000) ∧ h ≤ b ∧ Desc h l
theorem thE_ok {n : Nat} {fi : Int} : ∀ (l : List Int) (i b : Int), 0 ≤ i → (thE n fi i b l).2 = 0 → Desc b l
  | [], _, _, _, _ => trivial
  | h :: l, i, b, hi, e => by
    rw [thE] at e
    split at e
    · simp at e
    · split at e
      · simp at e
      · rename_i h1 h2
        exact ⟨by omega, by omega, thE_ok l (i + 1) h (by omega) e⟩
theorem desc_at : ∀ {l : List Int} {b : Int} (i : Nat) (hi : i < l.length), Desc b l → 1 ≤ b ∧ b ≤ 1000 → (1 ≤ l[i] ∧ l[i] ≤ 1000) ∧ l[i] ≤ bfr b l i ∧ 1 ≤ bfr b l i ∧ bfr b l i ≤ 1000
  | h :: l, b, 0, _, d, hb => ⟨d.1, d.2.1, hb⟩
  | h :: l, b, i + 1, hi, d, hb => by
    have hi' : i < l.length := by simpa using hi
    have := desc_at i hi' d.2.2 d.1
    have e : bfr b (h :: l) (i + 1) = bfr h l i := by cases i <;> simp [bfr]
    rw [e]; exact this
structure VS (r : Ru) (th : List Int) : Prop where
  rng : rngB r
  ord : ordB r
  n0 : 0 < r.ss.length
  n6 : r.ss.length ≤ 6
  len : th.length = r.ss.length
  desc : Desc r.st th
theorem VS.at {r : Ru} {th : List Int} (v : VS r th) {i : Nat} (hi : i < th.length) : (1 ≤ th[i] ∧ th[i] ≤ 1000) ∧ th[i] ≤ bfr r.st th i ∧ 1 ≤ bfr r.st th i ∧ bfr r.st th i ≤ 1000 := desc_at i hi v.desc v.rng.2.1.1
theorem vs_of {r : Ru} {nm : List UInt8} {th : List Int} (h1 : (chk r).2 = 0) (h2 : (schE r nm th).2 = 0) : VS r th := by
  have hr : rngB r := Decidable.byContradiction fun h => by rw [chk_rng h] at h1; simp at h1
  have ho : ordB r := Decidable.byContradiction fun h => by rw [chk_ord hr h] at h1; simp at h1
  rw [chk_cnt hr ho] at h1
  have hc : cntE r.ss.length = 0 := Decidable.byContradiction fun h => by rw [if_neg h] at h1; exact h h1
  unfold cntE at hc
  rw [schE] at h2
  split at h2
  · split at h2
    · exact ⟨hr, ho, by split at hc <;> omega, by split at hc <;> first | omega | (split at hc <;> omega), by assumption, thE_ok _ _ _ (Int.le_refl 0) h2⟩
    · simp at h2
  · simp at h2
theorem vp_snoc {l : List (Int × Int)} {i : Nat} (h : i < l.length) {a b : Int} (e : l[i] = (a, b)) : List.take (i * 2) (List.drop 0 (vp (l.take i))) ++ [.int .i64 a, .int .i64 b] = vp (l.take (i + 1)) := by
  rw [List.take_succ_eq_append_getElem h, List.drop_zero, List.take_of_length_le (by simp; omega), e]
  generalize l.take i = m
  induction m with
  | nil => rfl
  | cons p r ih => simp only [List.cons_append, vp, ih]
theorem getD_at {th : List Int} {i : Nat} (hi : i < th.length) : th.getD i 0 = th[i] := by simp [List.getD, List.getElem?_eq_getElem hi]
end Go.Proofs.G5p

/- Chapter 3: loads and margins of a draught, in data. -/
namespace Go.Proofs.G5p
open Go Go.Abs Go.Proofs Go.Str
set_option maxRecDepth 100000
/-- a draught of valid rules -/
structure DrOK (r : Ru) (k : Nat) (b h : Int) : Prop where
  rng : rngB r
  sts : ∀ s ∈ r.ss, stB s
  k : k < r.ss.length
  n : r.ss.length ≤ 6
  h1 : 1 ≤ h
  hb : h ≤ b
  b1 : b ≤ 1000
abbrev drD (k : Nat) (b h : Int) : D := .agg [dI k, dI b, dI h]
theorem mulB {a b : Int} (A B : Int) (ha : 0 ≤ a ∧ a ≤ A) (hb : 0 ≤ b ∧ b ≤ B) : 0 ≤ a * b ∧ a * b ≤ A * B :=
  ⟨Int.mul_nonneg ha.1 hb.1, Int.mul_le_mul ha.2 hb.2 hb.1 (by omega)⟩
theorem mulS {a b : Int} (A B : Int) (ha : -A ≤ a ∧ a ≤ A) (hb : 0 ≤ b ∧ b ≤ B) : -(A * B) ≤ a * b ∧ a * b ≤ A * B := by
  have hA : 0 ≤ A := by omega
  by_cases h : 0 ≤ a
  · have := mulB A B ⟨h, ha.2⟩ hb; have h2 : 0 ≤ A * B := Int.mul_nonneg hA (by omega); omega
  · have := mulB (a := -a) (b := b) A B ⟨by omega, by omega⟩ hb
    have h2 : 0 ≤ A * B := Int.mul_nonneg hA (by omega)
    rw [Int.neg_mul] at this; omega
def frc (w b h s f : Int) : Int := if b = h then 0 else w * (s * (b - h) + f * (b + h))
theorem frc_bd {w b h s f : Int} (hw : 1 ≤ w ∧ w ≤ 2500) (h1 : 1 ≤ h) (hb : h ≤ b) (b1 : b ≤ 1000) (hs : 0 ≤ s ∧ s ≤ 100) (hf : 0 ≤ f ∧ f ≤ 100) : (0 ≤ s * (b - h) ∧ s * (b - h) ≤ 100000) ∧ (0 ≤ f * (b + h) ∧ f * (b + h) ≤ 200000) ∧ (0 ≤ w * (s * (b - h) + f * (b + h)) ∧ w * (s * (b - h) + f * (b + h)) ≤ 750000000) ∧ 0 ≤ frc w b h s f ∧ frc w b h s f ≤ 750000000 := by
  have e1 := mulB (a := s) (b := b - h) 100 1000 hs (by omega)
  have e2 := mulB (a := f) (b := b + h) 100 2000 hf (by omega)
  have e3 := mulB (a := w) (b := s * (b - h) + f * (b + h)) 2500 300000 (by omega) (by omega)
  refine ⟨by omega, by omega, by omega, ?_⟩
  unfold frc; split <;> omega
theorem confB (r : Ru) (k : Nat) (b h s f : Int) (v : DrOK r k b h) (hs : 0 ≤ s ∧ s ≤ 100) (hf : 0 ≤ f ∧ f ≤ 100) : C5 105 [r.d, drD k b h, dI s, dI f] [dI (frc r.w b h s f)] := by
  refine con_flat hokP mixed Try.func105 rfl (by show 1 ≤ 400; omega) rfl (by kernel_rfl) (fun caps => ?_)
  show gfB _ _ r.w r.st r.fi r.hlo r.hhi r.co r.ss.length (caps 500) (vs5 r.ss) r.slo r.shi r.flo r.fhi (k : Int) b h s f _
  rw [gfB_text]
  have hw := v.rng.1
  have h1 := v.h1
  have h2 := v.hb
  have h3 := v.b1
  have e := frc_bd hw h1 h2 h3 hs hf
  refine bc_beq (fun g => ?_) (fun g => ?_)
  · show [dI 0] = _; rw [frc, if_pos g]
  · rw [w64 (z := b - h) (by omega) (by omega), w64 (z := s * (b - h)) (by omega) (by omega), w64 (z := b + h) (by omega) (by omega), w64 (z := f * (b + h)) (by omega) (by omega), w64 (z := s * (b - h) + f * (b + h)) (by omega) (by omega), w64 (by omega) (by omega)]
    simp only [Qv, true_and]
    rw [frc, if_neg g]
theorem DrOK.sl {r : Ru} {k : Nat} {b h : Int} (v : DrOK r k b h) : (0 ≤ r.slo ∧ r.slo ≤ 100) ∧ (0 ≤ r.shi ∧ r.shi ≤ 100) ∧ (0 ≤ r.flo ∧ r.flo ≤ 100) ∧ (0 ≤ r.fhi ∧ r.fhi ≤ 100) := by
  have := v.rng
  unfold rngB at this
  omega
abbrev fl (r : Ru) (b h : Int) : Int := frc r.w b h r.slo r.flo
abbrev fh (r : Ru) (b h : Int) : Int := frc r.w b h r.shi r.fhi
theorem DrOK.fl {r : Ru} {k : Nat} {b h : Int} (v : DrOK r k b h) : 0 ≤ fl r b h ∧ fl r b h ≤ 750000000 := (frc_bd v.rng.1 v.h1 v.hb v.b1 v.sl.1 v.sl.2.2.1).2.2.2
theorem DrOK.fh {r : Ru} {k : Nat} {b h : Int} (v : DrOK r k b h) : 0 ≤ fh r b h ∧ fh r b h ≤ 750000000 := (frc_bd v.rng.1 v.h1 v.hb v.b1 v.sl.2.1 v.sl.2.2.2).2.2.2
theorem confo (r : Ru) (k : Nat) (b h : Int) (v : DrOK r k b h) : C5 98 [r.d, drD k b h] [.agg [dI (fl r b h), dI (fh r b h)]] := by
  refine con_flat hokP mixed Try.func98 rfl (by show 1 ≤ 400; omega) rfl (by kernel_rfl) (fun caps => ?_)
  show gfo _ _ r.w r.st r.fi r.hlo r.hhi r.co r.ss.length (caps 500) (vs5 r.ss) r.slo r.shi r.flo r.fhi (k : Int) b h _
  rw [gfo_text]
  simp only [bc_t (v5le r.ss), v5_whole, Qv, true_and]
  exact ⟨_, ⟨confB r k b h r.slo r.flo v v.sl.1 v.sl.2.2.1⟩, _, ⟨confB r k b h r.shi r.fhi v v.sl.2.1 v.sl.2.2.2⟩, rfl⟩
theorem conto (r : Ru) (k : Nat) (b h : Int) (v : DrOK r k b h) : C5 89 [r.d, drD k b h] [.agg [dI (fl r b h * (b - h)), dI (fh r b h * (b - h))]] := by
  refine con_flat hokP mixed Try.func89 rfl (by show 1 ≤ 400; omega) rfl (by kernel_rfl) (fun caps => ?_)
  show gto _ _ r.w r.st r.fi r.hlo r.hhi r.co r.ss.length (caps 500) (vs5 r.ss) r.slo r.shi r.flo r.fhi (k : Int) b h _
  rw [gto_text, bc_t (v5le r.ss), v5_whole]
  have h1 := v.h1
  have h2 := v.hb
  have h3 := v.b1
  have e1 := mulB 750000000 1000 v.fl (show 0 ≤ b - h ∧ b - h ≤ 1000 by omega)
  have e2 := mulB 750000000 1000 v.fh (show 0 ≤ b - h ∧ b - h ≤ 1000 by omega)
  refine ⟨_, _, ⟨confo r k b h v⟩, ?_⟩
  rw [w64 (z := b - h) (by omega) (by omega), w64 (by omega) (by omega), w64 (by omega) (by omega)]
  simp only [Qv, true_and]
theorem conmT (l x y : Int) (hl : 0 ≤ l ∧ l ≤ 1000000000000) (hx : 0 ≤ x ∧ x ≤ 750000000000) (hy : 0 ≤ y ∧ y ≤ 750000000000) : C5 97 [dI l, .agg [dI x, dI y]] [.agg [dI (100 * (l - y)), dI (100 * (l - x))]] := by
  refine con_flat hokP mixed Try.func97 rfl (by show 0 ≤ 400; omega) rfl (by kernel_rfl) (fun caps => ?_)
  show gmT _ _ l x y _
  rw [gmT_text, w64 (z := l - y) (by omega) (by omega), w64 (z := l - x) (by omega) (by omega), w64 (by omega) (by omega), w64 (by omega) (by omega)]
def stA (r : Ru) (k : Nat) : Fv := r.ss.getD k ⟨0, 0, 0, 0, 0⟩
theorem stA_at {r : Ru} {k : Nat} (hk : k < r.ss.length) : stA r k = r.ss[k] := by simp [stA, List.getD, List.getElem?_eq_getElem hk]
def bit (r : Ru) (k : Nat) (b h f : Int) : Int := if b = h then 0 else f * (stA r k).a - 100 * (b - h)
theorem conbi (r : Ru) (k : Nat) (b h : Int) (v : DrOK r k b h) : C5 99 [r.d, drD k b h] [.agg [dI (bit r k b h r.flo), dI (bit r k b h r.fhi)]] := by
  refine con_flat hokP mixed Try.func99 rfl (by show 1 ≤ 400; omega) rfl (by kernel_rfl) (fun caps => ?_)
  show gbi _ _ r.w r.st r.fi r.hlo r.hhi r.co r.ss.length (caps 500) (vs5 r.ss) r.slo r.shi r.flo r.fhi (k : Int) b h _
  rw [gbi_text]
  simp only [Qv, eq_self, true_and, and_true]
  refine bc_beq (fun g => ?_) (fun g => ?_)
  · show [D.agg [dI 0, dI 0]] = _; rw [bit, bit, if_pos g, if_pos g]
  · have hk := v.k
    have h1 := v.h1
    have h2 := v.hb
    have h3 := v.b1
    have a1 := vs5_one r.ss k hk 0 (.int .i64 (r.ss[k]).a) rfl
    have hs := (v.sts _ (List.getElem_mem hk)).1
    simp only [Nat.add_zero] at a1
    simp only [bc_t (show (0 : Int) ≤ (k : Int) by omega), bc_t (show (k : Int) < (r.ss.length : Int) by omega), Int.toNat_natCast, at1 a1, eq_self, true_and, and_true, Int.one_mul]
    have e1 := mulB 100 1000 v.sl.2.2.1 (show 0 ≤ r.ss[k].a ∧ r.ss[k].a ≤ 1000 by omega)
    have e2 := mulB 100 1000 v.sl.2.2.2 (show 0 ≤ r.ss[k].a ∧ r.ss[k].a ≤ 1000 by omega)
    have b1 := v.sl.2.2
    rw [w64 (z := b - h) (by omega) (by omega), w64 (z := 100 * (b - h)) (by omega) (by omega), w64 (z := r.flo) (by omega) (by omega), w64 (z := r.fhi) (by omega) (by omega), w64 (z := r.flo * r.ss[k].a) (by omega) (by omega), w64 (z := r.fhi * r.ss[k].a) (by omega) (by omega), w64 (by omega) (by omega), w64 (by omega) (by omega)]
    rw [bit, bit, if_neg g, if_neg g, stA_at hk]
/-- the losses of some stands -/
def sumD : List Fv → Int
  | [] => 0
  | s :: r => s.d + sumD r
def sumE : List Fv → Int
  | [] => 0
  | s :: r => s.e + sumE r
theorem sumD_app (s : Fv) : ∀ l : List Fv, sumD (l ++ [s]) = sumD l + s.d
  | [] => by simp [sumD]
  | p :: r => by simp only [List.cons_append, sumD, sumD_app s r]; omega
theorem sumE_app (s : Fv) : ∀ l : List Fv, sumE (l ++ [s]) = sumE l + s.e
  | [] => by simp [sumE]
  | p :: r => by simp only [List.cons_append, sumE, sumE_app s r]; omega
theorem sumD_snoc {l : List Fv} {i : Nat} (h : i < l.length) : sumD (l.take (i + 1)) = sumD (l.take i) + l[i].d := by
  rw [List.take_succ_eq_append_getElem h, sumD_app]
theorem sumE_snoc {l : List Fv} {i : Nat} (h : i < l.length) : sumE (l.take (i + 1)) = sumE (l.take i) + l[i].e := by
  rw [List.take_succ_eq_append_getElem h, sumE_app]
theorem sum_bd {l : List Fv} (hs : ∀ s ∈ l, stB s) : ∀ i : Nat, i ≤ l.length → (0 ≤ sumD (l.take i) ∧ sumD (l.take i) ≤ 1000 * (i : Int)) ∧ 0 ≤ sumE (l.take i) ∧ sumE (l.take i) ≤ 1000 * (i : Int)
  | 0, _ => by simp [sumD, sumE]
  | i + 1, hi => by
    have := sum_bd hs i (by omega)
    have h2 := (hs _ (List.getElem_mem (show i < l.length by omega))).2.2
    rw [sumD_snoc (by omega), sumE_snoc (by omega)]
    omega
def hL (r : Ru) (k : Nat) (h : Int) : Int := 100 * (r.hlo - sumE (r.ss.take (k + 1))) + (r.st - h) * r.slo
def hH (r : Ru) (k : Nat) (h : Int) : Int := 100 * (r.hhi - sumD (r.ss.take (k + 1))) + (r.st - h) * r.shi
theorem DrOK.ht {r : Ru} {k : Nat} {b h : Int} (v : DrOK r k b h) : (-1000000000 ≤ hL r k h ∧ hL r k h ≤ 1000000000) ∧ -1000000000 ≤ hH r k h ∧ hH r k h ≤ 1000000000 := by
  have h1 := v.h1
  have h2 := v.hb
  have h3 := v.b1
  have hk := v.k
  have hn := v.n
  have hs := sum_bd v.sts (k + 1) (by omega)
  have hr := v.rng
  unfold rngB at hr
  have e1 := mulS (a := r.st - h) (b := r.slo) 1000 100 (by omega) (by omega)
  have e2 := mulS (a := r.st - h) (b := r.shi) 1000 100 (by omega) (by omega)
  unfold hL hH
  omega
theorem conhe (r : Ru) (k : Nat) (b h : Int) (v : DrOK r k b h) : C5 63 [r.d, drD k b h] [.agg [dI (hL r k h), dI (hH r k h)]] := by
  have hk := v.k
  have hn := v.n
  let inv : Nat × Nat × Nat → Prop := fun x => x.1 ≤ k + 1
  let st : Nat × Nat × Nat → Slots × Blocks := fun x => zhe1 (k + 1) x.2.1 ((k + 1 : Nat) : Int) x.1 r.w r.st r.fi r.hlo r.hhi r.co r.ss.length x.2.2 r.slo r.shi r.flo r.fhi (k : Int) b h 0 0 (sumD (r.ss.take x.1)) (sumE (r.ss.take x.1)) (vs5 r.ss)
  refine con_ofC (L := fun _ s b => ∃ x, inv x ∧ st x = (s, b)) hokP mixed Try.func63 rfl (by show 1 ≤ 400; omega) rfl (ids := [0]) (by kernel_rfl) rfl (fun caps hcap => ?_) (fun id hid => ?_)
  · show ghe _ _ r.w r.st r.fi r.hlo r.hhi r.co r.ss.length (caps 500) (vs5 r.ss) r.slo r.shi r.flo r.fhi (k : Int) b h _
    rw [ghe_text]
    have hc : r.ss.length ≤ caps 500 := by simp [capsL, layVals, layCells] at hcap; exact hcap
    rw [w64 (z := (k : Int) + 1) (by omega) (by omega), bc_t (show (0 : Int) ≤ (k : Int) + 1 by omega), bc_t (show (k : Int) + 1 ≤ (caps 500 : Int) by omega), show ((k : Int) + 1).toNat - 0 = k + 1 by omega]
    exact ⟨(0, caps 500 - 0, caps 500), Nat.zero_le _, rfl⟩
  · obtain rfl := List.mem_singleton.1 hid
    refine ⟨Nat × Nat × Nat, st, inv, fun x => k + 1 - x.1, ⟨fun s b h => h, by kernel_rfl, ?_⟩⟩
    rintro ⟨i, c1, c2⟩ hi
    have hi : i ≤ k + 1 := hi
    show rhe1 _ _ (k + 1) c1 ((k + 1 : Nat) : Int) i r.w r.st r.fi r.hlo r.hhi r.co r.ss.length c2 r.slo r.shi r.flo r.fhi (k : Int) b h 0 0 (sumD (r.ss.take i)) (sumE (r.ss.take i)) (vs5 r.ss) _ _ _
    rw [rhe1_text]
    refine bc_dec (fun g => ?_) (fun g => ?_)
    · have hi2 : i < r.ss.length := by omega
      simp only [bc_t (show (0 : Int) ≤ (i : Int) by omega), bc_t g, Int.toNat_natCast, at5 (vs5_all r.ss i hi2)]
      have hs := sum_bd v.sts (i + 1) (by omega)
      rw [sumD_snoc hi2, sumE_snoc hi2] at hs
      refine ⟨(i + 1, c1, c2), by show i + 1 ≤ k + 1; omega, by show k + 1 - (i + 1) < k + 1 - i; omega, ?_⟩
      show zhe1 _ _ _ _ _ _ _ _ _ _ _ _ _ _ _ _ _ _ _ _ _ _ _ _ = _
      rw [sumD_snoc hi2, sumE_snoc hi2, w64 (z := (i : Int) + 1) (by omega) (by omega), w64 (z := sumD _ + _) (by omega) (by omega), w64 (z := sumE _ + _) (by omega) (by omega)]; rfl
    · show (if 0 = 0 then _ else _)
      rw [if_pos rfl]
      obtain rfl : i = k + 1 := by omega
      show nhe2 _ _ r.w r.st r.fi r.hlo r.hhi r.co r.ss.length c2 r.slo r.shi r.flo r.fhi (k : Int) b h 0 0 (sumD (r.ss.take (k + 1))) (sumE (r.ss.take (k + 1))) (vs5 r.ss) _
      rw [nhe2_text]
      have h1 := v.h1
      have h2 := v.hb
      have h3 := v.b1
      have hs := sum_bd v.sts (k + 1) (by omega)
      have hr := v.rng
      unfold rngB at hr
      have e1 := mulS (a := r.st - h) (b := r.slo) 1000 100 (by omega) (by omega)
      have e2 := mulS (a := r.st - h) (b := r.shi) 1000 100 (by omega) (by omega)
      simp only [Int.one_mul]
      rw [w64 (z := r.hlo - _) (by omega) (by omega), w64 (z := r.hhi - _) (by omega) (by omega), w64 (z := 100 * (r.hlo - _)) (by omega) (by omega), w64 (z := 100 * (r.hhi - _)) (by omega) (by omega), w64 (z := r.st - h) (by omega) (by omega), w64 (z := r.st - h) (by omega) (by omega), w64 (z := (r.st - h) * r.slo) (by omega) (by omega), w64 (z := (r.st - h) * r.shi) (by omega) (by omega), w64 (by omega) (by omega), w64 (by omega) (by omega)]
      rfl
/-- the margins of a draught, by their limits -/
def mar (r : Ru) (k : Nat) (b h : Int) : List (Int × Int) := [(100 * ((stA r k).b - fh r b h), 100 * ((stA r k).b - fl r b h)), (100 * ((stA r k).c - fh r b h * (b - h)), 100 * ((stA r k).c - fl r b h * (b - h))), (bit r k b h r.flo, bit r k b h r.fhi), (hL r k h - 100 * r.co, hH r k h - 100 * r.co)]
def marD (l : List (Int × Int)) : D := .agg (l.flatMap fun p => [dI p.1, dI p.2])
theorem conma (r : Ru) (k : Nat) (b h : Int) (v : DrOK r k b h) : C5 86 [r.d, drD k b h] [marD (mar r k b h)] := by
  refine con_flat hokP mixed Try.func86 rfl (by show 1 ≤ 400; omega) rfl (by kernel_rfl) (fun caps => ?_)
  show gma _ _ r.w r.st r.fi r.hlo r.hhi r.co r.ss.length (caps 500) (vs5 r.ss) r.slo r.shi r.flo r.fhi (k : Int) b h _
  rw [gma_text]
  have hk := v.k
  have h1 := v.h1
  have h2 := v.hb
  have h3 := v.b1
  have hs := v.sts _ (List.getElem_mem hk)
  unfold stB at hs
  have hco := v.rng.2.2.1.2.2
  have e1 := mulB 750000000 1000 v.fl (show 0 ≤ b - h ∧ b - h ≤ 1000 by omega)
  have e2 := mulB 750000000 1000 v.fh (show 0 ≤ b - h ∧ b - h ≤ 1000 by omega)
  have hfl := v.fl
  have hfh := v.fh
  have hht := v.ht
  simp only [bc_t (show (0 : Int) ≤ (k : Int) by omega), bc_t (show (k : Int) < (r.ss.length : Int) by omega), Int.toNat_natCast, at5 (vs5_all r.ss k hk), Qv, eq_self, true_and, and_true, bc_t (v5le r.ss), v5_whole]
  refine ⟨_, _, ⟨conhe r k b h v⟩, _, _, ⟨confo r k b h v⟩, _, _, ⟨conmT _ _ _ (by omega) (by omega) (by omega)⟩, _, _, ⟨conto r k b h v⟩, _, _, ⟨conmT _ _ _ (by omega) (by omega) (by omega)⟩, _, _, ⟨conbi r k b h v⟩, ?_⟩
  rw [w64 (z := 100 * r.co) (by omega) (by omega), w64 (by omega) (by omega), w64 (by omega) (by omega)]
  simp only [marD, mar, stA_at hk, List.flatMap_cons, List.flatMap_nil, List.cons_append, List.nil_append]
end Go.Proofs.G5p

/- What is left to show of each function, written out; the kernel reckons it. -/
namespace Go.Proofs.G5p.R
open Go Go.Abs Go.Proofs
set_option maxRecDepth 100000
set_option linter.unusedVariables false
abbrev vI (n : Int) : Value := .int .i64 n
abbrev Ct := FuncId → List D → List D → Prop
abbrev Bx := Slots → Blocks → Prop
abbrev Xx := Nat → Slots → Blocks → Prop
abbrev Ex := Exit → Slots → Blocks → Prop
abbrev Kh := FuncId → List Value → Blocks → Slots → Blocks → Prop
abbrev hE (C : Ct) : Handler := handlerX Try.prog (fun _ => none) 12 6
def preP (C : Ct) : FuncId → Option Handler := fun g => if [42, 43, 44, 53, 63, 86, 98, 89, 99, 97, 105].contains g then some (saidH Try.prog C) else none
abbrev hP (C : Ct) : Handler := handlerX Try.prog (preP C) 12 6
def gaF (C : Ct) (L : AtLoop) (x0 : Int) (x1 : Int) (x2 : Int) (x3 : Int) (x4 : Int) (x5 : Int) (n6 : Nat) (c6 : Nat) (l6 : List Value) (x7 : Int) (x8 : Int) (x9 : Int) (x10 : Int) (s11 : ByteArray) (n12 : Nat) (c12 : Nat) (l12 : List Value) (k : List D → Prop) : Prop := jFn Try.prog (hP C) L [] 64 #[.agg #[.int .i64 x0, .int .i64 x1, .int .i64 x2, .int .i64 x3, .int .i64 x4, .int .i64 x5, .slice (some ⟨500, 0, none⟩) n6 c6, .int .i64 x7, .int .i64 x8, .int .i64 x9, .int .i64 x10], .agg #[.string s11, .slice (some ⟨501, 0, none⟩) n12 c12]] (heapOf [(500, .sym l6 false 5), (501, .sym l12 false 1)]) (dataK k)
theorem gaF_text (C : Ct) (L : AtLoop) (x0 : Int) (x1 : Int) (x2 : Int) (x3 : Int) (x4 : Int) (x5 : Int) (n6 : Nat) (c6 : Nat) (l6 : List Go.Value) (x7 : Int) (x8 : Int) (x9 : Int) (x10 : Int) (s11 : ByteArray) (n12 : Nat) (c12 : Nat) (l12 : List Go.Value) (k : List D → Prop) : gaF C L x0 x1 x2 x3 x4 x5 n6 c6 l6 x7 x8 x9 x10 s11 n12 c12 l12 k =
 (L 50003 [(Prod.mk 2 (Pt 1000 0)), (Prod.mk 4 (Pt 1001 0)), (Prod.mk 5 (Pt 1002 0)), (Prod.mk 11 (Value.func (Go.Fn.func 96) [].toArray [(Pt 1003 0), (Pt 1004 0)].toArray))] [(Prod.mk 1000 (AObj.cells [(vI x0), (vI x1), (vI x2), (vI x3), (vI x4), (vI x5), (Sl 500 (n6) (c6)), (vI x7), (vI x8), (vI x9), (vI x10)] 95 false 1)), (Prod.mk 1001 (AObj.cells [(vI 0)] 3 false 1)), (Prod.mk 1002 (AObj.cells [(vI 2)] 3 false 1)), (Prod.mk 1003 (AObj.cells [(vI x0), (vI x1), (vI x2), (vI x3), (vI x4), (vI x5), (Sl 500 (n6) (c6)), (vI x7), (vI x8), (vI x9), (vI x10)] 95 false 1)), (Prod.mk 1004 (AObj.cells [(Value.string (s11)), (Sl 501 (n12) (c12))] 29 false 1)), (Prod.mk 500 (AObj.sym (l6) false 5)), (Prod.mk 501 (AObj.sym (l12) false 1))]) := by kernel_rfl
abbrev zaF1 (x0 : Int) (x1 : Int) (x2 : Int) (x3 : Int) (x4 : Int) (x5 : Int) (n6 : Nat) (c7 : Nat) (x8 : Int) (x9 : Int) (x10 : Int) (x11 : Int) (x12 : Int) (x13 : Int) (x14 : Int) (x15 : Int) (x16 : Int) (x17 : Int) (x18 : Int) (x19 : Int) (n20 : Nat) (c21 : Nat) (x22 : Int) (x23 : Int) (x24 : Int) (x25 : Int) (s26 : ByteArray) (n27 : Nat) (c28 : Nat) (l29 : List Value) (l30 : List Value) : Slots × Blocks := ([(2, (Value.pointer (some ⟨1000, 0, none⟩))), (4, (Value.pointer (some ⟨1001, 0, none⟩))), (5, (Value.pointer (some ⟨1002, 0, none⟩))), (11, (Value.func (.func 96) #[] #[(Value.pointer (some ⟨1003, 0, none⟩)), (Value.pointer (some ⟨1004, 0, none⟩))]))], [(1000, (AObj.cells [(Value.int .i64 x0), (Value.int .i64 x1), (Value.int .i64 x2), (Value.int .i64 x3), (Value.int .i64 x4), (Value.int .i64 x5), (Value.slice (some ⟨500, 0, none⟩) n6 c7), (Value.int .i64 x8), (Value.int .i64 x9), (Value.int .i64 x10), (Value.int .i64 x11)] 95 false 1)), (1001, (AObj.cells [(Value.int .i64 x12)] 3 false 1)), (1002, (AObj.cells [(Value.int .i64 x13)] 3 false 1)), (1003, (AObj.cells [(Value.int .i64 x14), (Value.int .i64 x15), (Value.int .i64 x16), (Value.int .i64 x17), (Value.int .i64 x18), (Value.int .i64 x19), (Value.slice (some ⟨500, 0, none⟩) n20 c21), (Value.int .i64 x22), (Value.int .i64 x23), (Value.int .i64 x24), (Value.int .i64 x25)] 95 false 1)), (1004, (AObj.cells [(Value.string s26), (Value.slice (some ⟨501, 0, none⟩) n27 c28)] 29 false 1)), (500, (AObj.sym l29 false 5)), (501, (AObj.sym l30 false 1))])
def haF1 (x0 : Int) (x1 : Int) (x2 : Int) (x3 : Int) (x4 : Int) (x5 : Int) (n6 : Nat) (c7 : Nat) (x8 : Int) (x9 : Int) (x10 : Int) (x11 : Int) (x12 : Int) (x13 : Int) (x14 : Int) (x15 : Int) (x16 : Int) (x17 : Int) (x18 : Int) (x19 : Int) (n20 : Nat) (c21 : Nat) (x22 : Int) (x23 : Int) (x24 : Int) (x25 : Int) (s26 : ByteArray) (n27 : Nat) (c28 : Nat) (l29 : List Value) (l30 : List Value) (Kr : Kh) : Prop := rHead Try.prog 64 50003 [(2, (Value.pointer (some ⟨1000, 0, none⟩))), (4, (Value.pointer (some ⟨1001, 0, none⟩))), (5, (Value.pointer (some ⟨1002, 0, none⟩))), (11, (Value.func (.func 96) #[] #[(Value.pointer (some ⟨1003, 0, none⟩)), (Value.pointer (some ⟨1004, 0, none⟩))]))] [(1000, (AObj.cells [(Value.int .i64 x0), (Value.int .i64 x1), (Value.int .i64 x2), (Value.int .i64 x3), (Value.int .i64 x4), (Value.int .i64 x5), (Value.slice (some ⟨500, 0, none⟩) n6 c7), (Value.int .i64 x8), (Value.int .i64 x9), (Value.int .i64 x10), (Value.int .i64 x11)] 95 false 1)), (1001, (AObj.cells [(Value.int .i64 x12)] 3 false 1)), (1002, (AObj.cells [(Value.int .i64 x13)] 3 false 1)), (1003, (AObj.cells [(Value.int .i64 x14), (Value.int .i64 x15), (Value.int .i64 x16), (Value.int .i64 x17), (Value.int .i64 x18), (Value.int .i64 x19), (Value.slice (some ⟨500, 0, none⟩) n20 c21), (Value.int .i64 x22), (Value.int .i64 x23), (Value.int .i64 x24), (Value.int .i64 x25)] 95 false 1)), (1004, (AObj.cells [(Value.string s26), (Value.slice (some ⟨501, 0, none⟩) n27 c28)] 29 false 1)), (500, (AObj.sym l29 false 5)), (501, (AObj.sym l30 false 1))] Kr
theorem haF1_text (x0 : Int) (x1 : Int) (x2 : Int) (x3 : Int) (x4 : Int) (x5 : Int) (n6 : Nat) (c7 : Nat) (x8 : Int) (x9 : Int) (x10 : Int) (x11 : Int) (x12 : Int) (x13 : Int) (x14 : Int) (x15 : Int) (x16 : Int) (x17 : Int) (x18 : Int) (x19 : Int) (n20 : Nat) (c21 : Nat) (x22 : Int) (x23 : Int) (x24 : Int) (x25 : Int) (s26 : ByteArray) (n27 : Nat) (c28 : Nat) (l29 : List Go.Value) (l30 : List Go.Value) (Kr : Kh) : haF1 x0 x1 x2 x3 x4 x5 n6 c7 x8 x9 x10 x11 x12 x13 x14 x15 x16 x17 x18 x19 n20 c21 x22 x23 x24 x25 s26 n27 c28 l29 l30 Kr =
 (Kr 96 [(Value.func (Go.Fn.yield 915) [].toArray [].toArray), (Pt 500 0), (Pt 501 0)] [(Prod.mk 500 (AObj.cells [(vI x14), (vI x15), (vI x16), (vI x17), (vI x18), (vI x19), (Sl 502 (n20) (c21)), (vI x22), (vI x23), (vI x24), (vI x25)] 95 false 1)), (Prod.mk 501 (AObj.cells [(Value.string (s26)), (Sl 503 (n27) (c28))] 29 false 1)), (Prod.mk 502 (AObj.sym (l29) false 5)), (Prod.mk 503 (AObj.sym (l30) false 1))] [(Prod.mk 2 (Pt 1000 0)), (Prod.mk 4 (Pt 1001 0)), (Prod.mk 5 (Pt 1002 0)), (Prod.mk 1000000 (Value.map (some 1003)))] [(Prod.mk 1000 (AObj.cells [(vI x0), (vI x1), (vI x2), (vI x3), (vI x4), (vI x5), (Sl 500 (n6) (c7)), (vI x8), (vI x9), (vI x10), (vI x11)] 95 false 1)), (Prod.mk 1001 (AObj.cells [(vI x12)] 3 false 1)), (Prod.mk 1002 (AObj.cells [(vI x13)] 3 false 1)), (Prod.mk 1003 AObj.deferred), (Prod.mk 500 (AObj.sym (l29) false 5))]) := by kernel_rfl
abbrev zaF2 (x0 : Int) (x1 : Int) (x2 : Int) (x3 : Int) (x4 : Int) (x5 : Int) (n6 : Nat) (c7 : Nat) (x8 : Int) (x9 : Int) (x10 : Int) (x11 : Int) (x12 : Int) (x13 : Int) (l14 : List Value) : Slots × Blocks := ([(2, (Value.pointer (some ⟨1000, 0, none⟩))), (4, (Value.pointer (some ⟨1001, 0, none⟩))), (5, (Value.pointer (some ⟨1002, 0, none⟩))), (1000000, (Go.Value.map (Option.some 1003)))], [(1000, (AObj.cells [(Value.int .i64 x0), (Value.int .i64 x1), (Value.int .i64 x2), (Value.int .i64 x3), (Value.int .i64 x4), (Value.int .i64 x5), (Value.slice (some ⟨500, 0, none⟩) n6 c7), (Value.int .i64 x8), (Value.int .i64 x9), (Value.int .i64 x10), (Value.int .i64 x11)] 95 false 1)), (1001, (AObj.cells [(Value.int .i64 x12)] 3 false 1)), (1002, (AObj.cells [(Value.int .i64 x13)] 3 false 1)), (1003, AObj.deferred), (500, (AObj.sym l14 false 5))])
def waF2 (C : Ct) (x0 : Int) (x1 : Int) (x2 : Int) (x3 : Int) (x4 : Int) (x5 : Int) (n6 : Nat) (c7 : Nat) (x8 : Int) (x9 : Int) (x10 : Int) (x11 : Int) (x12 : Int) (x13 : Int) (l14 : List Value) (y0 : Int) (y1 : Int) (y2 : Int) (B : Bx) (X : Ex) : Prop := rRound Try.prog (hP C) 64 50003 [(2, (Value.pointer (some ⟨1000, 0, none⟩))), (4, (Value.pointer (some ⟨1001, 0, none⟩))), (5, (Value.pointer (some ⟨1002, 0, none⟩))), (1000000, (Go.Value.map (Option.some 1003)))] [(1000, (AObj.cells [(Value.int .i64 x0), (Value.int .i64 x1), (Value.int .i64 x2), (Value.int .i64 x3), (Value.int .i64 x4), (Value.int .i64 x5), (Value.slice (some ⟨500, 0, none⟩) n6 c7), (Value.int .i64 x8), (Value.int .i64 x9), (Value.int .i64 x10), (Value.int .i64 x11)] 95 false 1)), (1001, (AObj.cells [(Value.int .i64 x12)] 3 false 1)), (1002, (AObj.cells [(Value.int .i64 x13)] 3 false 1)), (1003, AObj.deferred), (500, (AObj.sym l14 false 5))] [(.agg [(.val (.int .i64 y0)), (.val (.int .i64 y1)), (.val (.int .i64 y2))])] B X
theorem waF2_text (C : Ct) (x0 : Int) (x1 : Int) (x2 : Int) (x3 : Int) (x4 : Int) (x5 : Int) (n6 : Nat) (c7 : Nat) (x8 : Int) (x9 : Int) (x10 : Int) (x11 : Int) (x12 : Int) (x13 : Int) (l14 : List Go.Value) (y0 : Int) (y1 : Int) (y2 : Int) (B : Bx) (X : Ex) : waF2 C x0 x1 x2 x3 x4 x5 n6 c7 x8 x9 x10 x11 x12 x13 l14 y0 y1 y2 B X =
 (∀ caps : Nat → Nat,
 (bcase (decide (0 + n6 * 5 ≤ List.length l14))
 (∃ n1 : Int,
 (∃ n2 : Int,
 (∃ n3 : Int,
 (∃ n4 : Int,
 (∃ n5 : Int,
 (∃ n7 : Int,
 (∃ n8 : Int,
 (∃ n9 : Int,
 ((Says C 86 [(D.agg [(D.val (vI x0)), (D.val (vI x1)), (D.val (vI x2)), (D.val (vI x3)), (D.val (vI x4)), (D.val (vI x5)), (D.sl (n6) 5 (List.take (n6 * 5) (List.drop 0 l14))), (D.val (vI x8)), (D.val (vI x9)), (D.val (vI x10)), (D.val (vI x11))]), (D.agg [(D.val (vI y0)), (D.val (vI y1)), (D.val (vI y2))])] [(D.agg [(D.val (vI n1)), (D.val (vI n2)), (D.val (vI n3)), (D.val (vI n4)), (D.val (vI n5)), (D.val (vI n7)), (D.val (vI n8)), (D.val (vI n9))])]) ∧
 (bcase (decide (n2 < 0))
 (X Go.Exit.ret [(Prod.mk 2 (Pt 1000 0)), (Prod.mk 4 (Pt 1001 0)), (Prod.mk 5 (Pt 1002 0)), (Prod.mk 1000000 (Value.map (some 1003)))] [(Prod.mk 1000 (AObj.cells [(vI x0), (vI x1), (vI x2), (vI x3), (vI x4), (vI x5), (Sl 500 (n6) (c7)), (vI x8), (vI x9), (vI x10), (vI x11)] 95 false 1)), (Prod.mk 1001 (AObj.cells [(vI 0)] 3 false 1)), (Prod.mk 1002 (AObj.cells [(vI x13)] 3 false 1)), (Prod.mk 1003 AObj.deferred), (Prod.mk 500 (AObj.sym (l14) false 5))])
 (bcase (decide (n1 < 0))
 (bcase (decide (n4 < 0))
 (X Go.Exit.ret [(Prod.mk 2 (Pt 1000 0)), (Prod.mk 4 (Pt 1001 0)), (Prod.mk 5 (Pt 1002 0)), (Prod.mk 1000000 (Value.map (some 1003)))] [(Prod.mk 1000 (AObj.cells [(vI x0), (vI x1), (vI x2), (vI x3), (vI x4), (vI x5), (Sl 500 (n6) (c7)), (vI x8), (vI x9), (vI x10), (vI x11)] 95 false 1)), (Prod.mk 1001 (AObj.cells [(vI 0)] 3 false 1)), (Prod.mk 1002 (AObj.cells [(vI 1)] 3 false 1)), (Prod.mk 1003 AObj.deferred), (Prod.mk 500 (AObj.sym (l14) false 5))])
 (bcase (decide (n3 < 0))
 (bcase (decide (n7 < 0))
 (X Go.Exit.ret [(Prod.mk 2 (Pt 1000 0)), (Prod.mk 4 (Pt 1001 0)), (Prod.mk 5 (Pt 1002 0)), (Prod.mk 1000000 (Value.map (some 1003)))] [(Prod.mk 1000 (AObj.cells [(vI x0), (vI x1), (vI x2), (vI x3), (vI x4), (vI x5), (Sl 500 (n6) (c7)), (vI x8), (vI x9), (vI x10), (vI x11)] 95 false 1)), (Prod.mk 1001 (AObj.cells [(vI 0)] 3 false 1)), (Prod.mk 1002 (AObj.cells [(vI 1)] 3 false 1)), (Prod.mk 1003 AObj.deferred), (Prod.mk 500 (AObj.sym (l14) false 5))])
 (bcase (decide (n5 < 0))
 (bcase (decide (n9 < 0))
 (X Go.Exit.ret [(Prod.mk 2 (Pt 1000 0)), (Prod.mk 4 (Pt 1001 0)), (Prod.mk 5 (Pt 1002 0)), (Prod.mk 1000000 (Value.map (some 1003)))] [(Prod.mk 1000 (AObj.cells [(vI x0), (vI x1), (vI x2), (vI x3), (vI x4), (vI x5), (Sl 500 (n6) (c7)), (vI x8), (vI x9), (vI x10), (vI x11)] 95 false 1)), (Prod.mk 1001 (AObj.cells [(vI 0)] 3 false 1)), (Prod.mk 1002 (AObj.cells [(vI 1)] 3 false 1)), (Prod.mk 1003 AObj.deferred), (Prod.mk 500 (AObj.sym (l14) false 5))])
 (bcase (decide (n8 < 0))
 (B [(Prod.mk 2 (Pt 1000 0)), (Prod.mk 4 (Pt 1001 0)), (Prod.mk 5 (Pt 1002 0)), (Prod.mk 1000000 (Value.map (some 1003)))] [(Prod.mk 1000 (AObj.cells [(vI x0), (vI x1), (vI x2), (vI x3), (vI x4), (vI x5), (Sl 500 (n6) (c7)), (vI x8), (vI x9), (vI x10), (vI x11)] 95 false 1)), (Prod.mk 1001 (AObj.cells [(vI x12)] 3 false 1)), (Prod.mk 1002 (AObj.cells [(vI 1)] 3 false 1)), (Prod.mk 1003 AObj.deferred), (Prod.mk 500 (AObj.sym (l14) false 5))])
 (B [(Prod.mk 2 (Pt 1000 0)), (Prod.mk 4 (Pt 1001 0)), (Prod.mk 5 (Pt 1002 0)), (Prod.mk 1000000 (Value.map (some 1003)))] [(Prod.mk 1000 (AObj.cells [(vI x0), (vI x1), (vI x2), (vI x3), (vI x4), (vI x5), (Sl 500 (n6) (c7)), (vI x8), (vI x9), (vI x10), (vI x11)] 95 false 1)), (Prod.mk 1001 (AObj.cells [(vI x12)] 3 false 1)), (Prod.mk 1002 (AObj.cells [(vI 1)] 3 false 1)), (Prod.mk 1003 AObj.deferred), (Prod.mk 500 (AObj.sym (l14) false 5))])))
 (bcase (decide (n9 < 0))
 (X Go.Exit.ret [(Prod.mk 2 (Pt 1000 0)), (Prod.mk 4 (Pt 1001 0)), (Prod.mk 5 (Pt 1002 0)), (Prod.mk 1000000 (Value.map (some 1003)))] [(Prod.mk 1000 (AObj.cells [(vI x0), (vI x1), (vI x2), (vI x3), (vI x4), (vI x5), (Sl 500 (n6) (c7)), (vI x8), (vI x9), (vI x10), (vI x11)] 95 false 1)), (Prod.mk 1001 (AObj.cells [(vI 0)] 3 false 1)), (Prod.mk 1002 (AObj.cells [(vI 1)] 3 false 1)), (Prod.mk 1003 AObj.deferred), (Prod.mk 500 (AObj.sym (l14) false 5))])
 (bcase (decide (n8 < 0))
 (B [(Prod.mk 2 (Pt 1000 0)), (Prod.mk 4 (Pt 1001 0)), (Prod.mk 5 (Pt 1002 0)), (Prod.mk 1000000 (Value.map (some 1003)))] [(Prod.mk 1000 (AObj.cells [(vI x0), (vI x1), (vI x2), (vI x3), (vI x4), (vI x5), (Sl 500 (n6) (c7)), (vI x8), (vI x9), (vI x10), (vI x11)] 95 false 1)), (Prod.mk 1001 (AObj.cells [(vI x12)] 3 false 1)), (Prod.mk 1002 (AObj.cells [(vI 1)] 3 false 1)), (Prod.mk 1003 AObj.deferred), (Prod.mk 500 (AObj.sym (l14) false 5))])
 (B [(Prod.mk 2 (Pt 1000 0)), (Prod.mk 4 (Pt 1001 0)), (Prod.mk 5 (Pt 1002 0)), (Prod.mk 1000000 (Value.map (some 1003)))] [(Prod.mk 1000 (AObj.cells [(vI x0), (vI x1), (vI x2), (vI x3), (vI x4), (vI x5), (Sl 500 (n6) (c7)), (vI x8), (vI x9), (vI x10), (vI x11)] 95 false 1)), (Prod.mk 1001 (AObj.cells [(vI x12)] 3 false 1)), (Prod.mk 1002 (AObj.cells [(vI 1)] 3 false 1)), (Prod.mk 1003 AObj.deferred), (Prod.mk 500 (AObj.sym (l14) false 5))])))))
 (bcase (decide (n7 < 0))
 (X Go.Exit.ret [(Prod.mk 2 (Pt 1000 0)), (Prod.mk 4 (Pt 1001 0)), (Prod.mk 5 (Pt 1002 0)), (Prod.mk 1000000 (Value.map (some 1003)))] [(Prod.mk 1000 (AObj.cells [(vI x0), (vI x1), (vI x2), (vI x3), (vI x4), (vI x5), (Sl 500 (n6) (c7)), (vI x8), (vI x9), (vI x10), (vI x11)] 95 false 1)), (Prod.mk 1001 (AObj.cells [(vI 0)] 3 false 1)), (Prod.mk 1002 (AObj.cells [(vI 1)] 3 false 1)), (Prod.mk 1003 AObj.deferred), (Prod.mk 500 (AObj.sym (l14) false 5))])
 (bcase (decide (n5 < 0))
 (bcase (decide (n9 < 0))
 (X Go.Exit.ret [(Prod.mk 2 (Pt 1000 0)), (Prod.mk 4 (Pt 1001 0)), (Prod.mk 5 (Pt 1002 0)), (Prod.mk 1000000 (Value.map (some 1003)))] [(Prod.mk 1000 (AObj.cells [(vI x0), (vI x1), (vI x2), (vI x3), (vI x4), (vI x5), (Sl 500 (n6) (c7)), (vI x8), (vI x9), (vI x10), (vI x11)] 95 false 1)), (Prod.mk 1001 (AObj.cells [(vI 0)] 3 false 1)), (Prod.mk 1002 (AObj.cells [(vI 1)] 3 false 1)), (Prod.mk 1003 AObj.deferred), (Prod.mk 500 (AObj.sym (l14) false 5))])
 (bcase (decide (n8 < 0))
 (B [(Prod.mk 2 (Pt 1000 0)), (Prod.mk 4 (Pt 1001 0)), (Prod.mk 5 (Pt 1002 0)), (Prod.mk 1000000 (Value.map (some 1003)))] [(Prod.mk 1000 (AObj.cells [(vI x0), (vI x1), (vI x2), (vI x3), (vI x4), (vI x5), (Sl 500 (n6) (c7)), (vI x8), (vI x9), (vI x10), (vI x11)] 95 false 1)), (Prod.mk 1001 (AObj.cells [(vI x12)] 3 false 1)), (Prod.mk 1002 (AObj.cells [(vI 1)] 3 false 1)), (Prod.mk 1003 AObj.deferred), (Prod.mk 500 (AObj.sym (l14) false 5))])
 (B [(Prod.mk 2 (Pt 1000 0)), (Prod.mk 4 (Pt 1001 0)), (Prod.mk 5 (Pt 1002 0)), (Prod.mk 1000000 (Value.map (some 1003)))] [(Prod.mk 1000 (AObj.cells [(vI x0), (vI x1), (vI x2), (vI x3), (vI x4), (vI x5), (Sl 500 (n6) (c7)), (vI x8), (vI x9), (vI x10), (vI x11)] 95 false 1)), (Prod.mk 1001 (AObj.cells [(vI x12)] 3 false 1)), (Prod.mk 1002 (AObj.cells [(vI 1)] 3 false 1)), (Prod.mk 1003 AObj.deferred), (Prod.mk 500 (AObj.sym (l14) false 5))])))
 (bcase (decide (n9 < 0))
 (X Go.Exit.ret [(Prod.mk 2 (Pt 1000 0)), (Prod.mk 4 (Pt 1001 0)), (Prod.mk 5 (Pt 1002 0)), (Prod.mk 1000000 (Value.map (some 1003)))] [(Prod.mk 1000 (AObj.cells [(vI x0), (vI x1), (vI x2), (vI x3), (vI x4), (vI x5), (Sl 500 (n6) (c7)), (vI x8), (vI x9), (vI x10), (vI x11)] 95 false 1)), (Prod.mk 1001 (AObj.cells [(vI 0)] 3 false 1)), (Prod.mk 1002 (AObj.cells [(vI 1)] 3 false 1)), (Prod.mk 1003 AObj.deferred), (Prod.mk 500 (AObj.sym (l14) false 5))])
 (bcase (decide (n8 < 0))
 (B [(Prod.mk 2 (Pt 1000 0)), (Prod.mk 4 (Pt 1001 0)), (Prod.mk 5 (Pt 1002 0)), (Prod.mk 1000000 (Value.map (some 1003)))] [(Prod.mk 1000 (AObj.cells [(vI x0), (vI x1), (vI x2), (vI x3), (vI x4), (vI x5), (Sl 500 (n6) (c7)), (vI x8), (vI x9), (vI x10), (vI x11)] 95 false 1)), (Prod.mk 1001 (AObj.cells [(vI x12)] 3 false 1)), (Prod.mk 1002 (AObj.cells [(vI 1)] 3 false 1)), (Prod.mk 1003 AObj.deferred), (Prod.mk 500 (AObj.sym (l14) false 5))])
 (B [(Prod.mk 2 (Pt 1000 0)), (Prod.mk 4 (Pt 1001 0)), (Prod.mk 5 (Pt 1002 0)), (Prod.mk 1000000 (Value.map (some 1003)))] [(Prod.mk 1000 (AObj.cells [(vI x0), (vI x1), (vI x2), (vI x3), (vI x4), (vI x5), (Sl 500 (n6) (c7)), (vI x8), (vI x9), (vI x10), (vI x11)] 95 false 1)), (Prod.mk 1001 (AObj.cells [(vI x12)] 3 false 1)), (Prod.mk 1002 (AObj.cells [(vI 1)] 3 false 1)), (Prod.mk 1003 AObj.deferred), (Prod.mk 500 (AObj.sym (l14) false 5))])))))))
 (bcase (decide (n4 < 0))
 (X Go.Exit.ret [(Prod.mk 2 (Pt 1000 0)), (Prod.mk 4 (Pt 1001 0)), (Prod.mk 5 (Pt 1002 0)), (Prod.mk 1000000 (Value.map (some 1003)))] [(Prod.mk 1000 (AObj.cells [(vI x0), (vI x1), (vI x2), (vI x3), (vI x4), (vI x5), (Sl 500 (n6) (c7)), (vI x8), (vI x9), (vI x10), (vI x11)] 95 false 1)), (Prod.mk 1001 (AObj.cells [(vI 0)] 3 false 1)), (Prod.mk 1002 (AObj.cells [(vI x13)] 3 false 1)), (Prod.mk 1003 AObj.deferred), (Prod.mk 500 (AObj.sym (l14) false 5))])
 (bcase (decide (n3 < 0))
 (bcase (decide (n7 < 0))
 (X Go.Exit.ret [(Prod.mk 2 (Pt 1000 0)), (Prod.mk 4 (Pt 1001 0)), (Prod.mk 5 (Pt 1002 0)), (Prod.mk 1000000 (Value.map (some 1003)))] [(Prod.mk 1000 (AObj.cells [(vI x0), (vI x1), (vI x2), (vI x3), (vI x4), (vI x5), (Sl 500 (n6) (c7)), (vI x8), (vI x9), (vI x10), (vI x11)] 95 false 1)), (Prod.mk 1001 (AObj.cells [(vI 0)] 3 false 1)), (Prod.mk 1002 (AObj.cells [(vI 1)] 3 false 1)), (Prod.mk 1003 AObj.deferred), (Prod.mk 500 (AObj.sym (l14) false 5))])
 (bcase (decide (n5 < 0))
 (bcase (decide (n9 < 0))
 (X Go.Exit.ret [(Prod.mk 2 (Pt 1000 0)), (Prod.mk 4 (Pt 1001 0)), (Prod.mk 5 (Pt 1002 0)), (Prod.mk 1000000 (Value.map (some 1003)))] [(Prod.mk 1000 (AObj.cells [(vI x0), (vI x1), (vI x2), (vI x3), (vI x4), (vI x5), (Sl 500 (n6) (c7)), (vI x8), (vI x9), (vI x10), (vI x11)] 95 false 1)), (Prod.mk 1001 (AObj.cells [(vI 0)] 3 false 1)), (Prod.mk 1002 (AObj.cells [(vI 1)] 3 false 1)), (Prod.mk 1003 AObj.deferred), (Prod.mk 500 (AObj.sym (l14) false 5))])
 (bcase (decide (n8 < 0))
 (B [(Prod.mk 2 (Pt 1000 0)), (Prod.mk 4 (Pt 1001 0)), (Prod.mk 5 (Pt 1002 0)), (Prod.mk 1000000 (Value.map (some 1003)))] [(Prod.mk 1000 (AObj.cells [(vI x0), (vI x1), (vI x2), (vI x3), (vI x4), (vI x5), (Sl 500 (n6) (c7)), (vI x8), (vI x9), (vI x10), (vI x11)] 95 false 1)), (Prod.mk 1001 (AObj.cells [(vI x12)] 3 false 1)), (Prod.mk 1002 (AObj.cells [(vI 1)] 3 false 1)), (Prod.mk 1003 AObj.deferred), (Prod.mk 500 (AObj.sym (l14) false 5))])
 (B [(Prod.mk 2 (Pt 1000 0)), (Prod.mk 4 (Pt 1001 0)), (Prod.mk 5 (Pt 1002 0)), (Prod.mk 1000000 (Value.map (some 1003)))] [(Prod.mk 1000 (AObj.cells [(vI x0), (vI x1), (vI x2), (vI x3), (vI x4), (vI x5), (Sl 500 (n6) (c7)), (vI x8), (vI x9), (vI x10), (vI x11)] 95 false 1)), (Prod.mk 1001 (AObj.cells [(vI x12)] 3 false 1)), (Prod.mk 1002 (AObj.cells [(vI 1)] 3 false 1)), (Prod.mk 1003 AObj.deferred), (Prod.mk 500 (AObj.sym (l14) false 5))])))
 (bcase (decide (n9 < 0))
 (X Go.Exit.ret [(Prod.mk 2 (Pt 1000 0)), (Prod.mk 4 (Pt 1001 0)), (Prod.mk 5 (Pt 1002 0)), (Prod.mk 1000000 (Value.map (some 1003)))] [(Prod.mk 1000 (AObj.cells [(vI x0), (vI x1), (vI x2), (vI x3), (vI x4), (vI x5), (Sl 500 (n6) (c7)), (vI x8), (vI x9), (vI x10), (vI x11)] 95 false 1)), (Prod.mk 1001 (AObj.cells [(vI 0)] 3 false 1)), (Prod.mk 1002 (AObj.cells [(vI 1)] 3 false 1)), (Prod.mk 1003 AObj.deferred), (Prod.mk 500 (AObj.sym (l14) false 5))])
 (bcase (decide (n8 < 0))
 (B [(Prod.mk 2 (Pt 1000 0)), (Prod.mk 4 (Pt 1001 0)), (Prod.mk 5 (Pt 1002 0)), (Prod.mk 1000000 (Value.map (some 1003)))] [(Prod.mk 1000 (AObj.cells [(vI x0), (vI x1), (vI x2), (vI x3), (vI x4), (vI x5), (Sl 500 (n6) (c7)), (vI x8), (vI x9), (vI x10), (vI x11)] 95 false 1)), (Prod.mk 1001 (AObj.cells [(vI x12)] 3 false 1)), (Prod.mk 1002 (AObj.cells [(vI 1)] 3 false 1)), (Prod.mk 1003 AObj.deferred), (Prod.mk 500 (AObj.sym (l14) false 5))])
 (B [(Prod.mk 2 (Pt 1000 0)), (Prod.mk 4 (Pt 1001 0)), (Prod.mk 5 (Pt 1002 0)), (Prod.mk 1000000 (Value.map (some 1003)))] [(Prod.mk 1000 (AObj.cells [(vI x0), (vI x1), (vI x2), (vI x3), (vI x4), (vI x5), (Sl 500 (n6) (c7)), (vI x8), (vI x9), (vI x10), (vI x11)] 95 false 1)), (Prod.mk 1001 (AObj.cells [(vI x12)] 3 false 1)), (Prod.mk 1002 (AObj.cells [(vI 1)] 3 false 1)), (Prod.mk 1003 AObj.deferred), (Prod.mk 500 (AObj.sym (l14) false 5))])))))
 (bcase (decide (n7 < 0))
 (X Go.Exit.ret [(Prod.mk 2 (Pt 1000 0)), (Prod.mk 4 (Pt 1001 0)), (Prod.mk 5 (Pt 1002 0)), (Prod.mk 1000000 (Value.map (some 1003)))] [(Prod.mk 1000 (AObj.cells [(vI x0), (vI x1), (vI x2), (vI x3), (vI x4), (vI x5), (Sl 500 (n6) (c7)), (vI x8), (vI x9), (vI x10), (vI x11)] 95 false 1)), (Prod.mk 1001 (AObj.cells [(vI 0)] 3 false 1)), (Prod.mk 1002 (AObj.cells [(vI x13)] 3 false 1)), (Prod.mk 1003 AObj.deferred), (Prod.mk 500 (AObj.sym (l14) false 5))])
 (bcase (decide (n5 < 0))
 (bcase (decide (n9 < 0))
 (X Go.Exit.ret [(Prod.mk 2 (Pt 1000 0)), (Prod.mk 4 (Pt 1001 0)), (Prod.mk 5 (Pt 1002 0)), (Prod.mk 1000000 (Value.map (some 1003)))] [(Prod.mk 1000 (AObj.cells [(vI x0), (vI x1), (vI x2), (vI x3), (vI x4), (vI x5), (Sl 500 (n6) (c7)), (vI x8), (vI x9), (vI x10), (vI x11)] 95 false 1)), (Prod.mk 1001 (AObj.cells [(vI 0)] 3 false 1)), (Prod.mk 1002 (AObj.cells [(vI 1)] 3 false 1)), (Prod.mk 1003 AObj.deferred), (Prod.mk 500 (AObj.sym (l14) false 5))])
 (bcase (decide (n8 < 0))
 (B [(Prod.mk 2 (Pt 1000 0)), (Prod.mk 4 (Pt 1001 0)), (Prod.mk 5 (Pt 1002 0)), (Prod.mk 1000000 (Value.map (some 1003)))] [(Prod.mk 1000 (AObj.cells [(vI x0), (vI x1), (vI x2), (vI x3), (vI x4), (vI x5), (Sl 500 (n6) (c7)), (vI x8), (vI x9), (vI x10), (vI x11)] 95 false 1)), (Prod.mk 1001 (AObj.cells [(vI x12)] 3 false 1)), (Prod.mk 1002 (AObj.cells [(vI 1)] 3 false 1)), (Prod.mk 1003 AObj.deferred), (Prod.mk 500 (AObj.sym (l14) false 5))])
 (B [(Prod.mk 2 (Pt 1000 0)), (Prod.mk 4 (Pt 1001 0)), (Prod.mk 5 (Pt 1002 0)), (Prod.mk 1000000 (Value.map (some 1003)))] [(Prod.mk 1000 (AObj.cells [(vI x0), (vI x1), (vI x2), (vI x3), (vI x4), (vI x5), (Sl 500 (n6) (c7)), (vI x8), (vI x9), (vI x10), (vI x11)] 95 false 1)), (Prod.mk 1001 (AObj.cells [(vI x12)] 3 false 1)), (Prod.mk 1002 (AObj.cells [(vI 1)] 3 false 1)), (Prod.mk 1003 AObj.deferred), (Prod.mk 500 (AObj.sym (l14) false 5))])))
 (bcase (decide (n9 < 0))
 (X Go.Exit.ret [(Prod.mk 2 (Pt 1000 0)), (Prod.mk 4 (Pt 1001 0)), (Prod.mk 5 (Pt 1002 0)), (Prod.mk 1000000 (Value.map (some 1003)))] [(Prod.mk 1000 (AObj.cells [(vI x0), (vI x1), (vI x2), (vI x3), (vI x4), (vI x5), (Sl 500 (n6) (c7)), (vI x8), (vI x9), (vI x10), (vI x11)] 95 false 1)), (Prod.mk 1001 (AObj.cells [(vI 0)] 3 false 1)), (Prod.mk 1002 (AObj.cells [(vI x13)] 3 false 1)), (Prod.mk 1003 AObj.deferred), (Prod.mk 500 (AObj.sym (l14) false 5))])
 (bcase (decide (n8 < 0))
 (B [(Prod.mk 2 (Pt 1000 0)), (Prod.mk 4 (Pt 1001 0)), (Prod.mk 5 (Pt 1002 0)), (Prod.mk 1000000 (Value.map (some 1003)))] [(Prod.mk 1000 (AObj.cells [(vI x0), (vI x1), (vI x2), (vI x3), (vI x4), (vI x5), (Sl 500 (n6) (c7)), (vI x8), (vI x9), (vI x10), (vI x11)] 95 false 1)), (Prod.mk 1001 (AObj.cells [(vI x12)] 3 false 1)), (Prod.mk 1002 (AObj.cells [(vI 1)] 3 false 1)), (Prod.mk 1003 AObj.deferred), (Prod.mk 500 (AObj.sym (l14) false 5))])
 (B [(Prod.mk 2 (Pt 1000 0)), (Prod.mk 4 (Pt 1001 0)), (Prod.mk 5 (Pt 1002 0)), (Prod.mk 1000000 (Value.map (some 1003)))] [(Prod.mk 1000 (AObj.cells [(vI x0), (vI x1), (vI x2), (vI x3), (vI x4), (vI x5), (Sl 500 (n6) (c7)), (vI x8), (vI x9), (vI x10), (vI x11)] 95 false 1)), (Prod.mk 1001 (AObj.cells [(vI x12)] 3 false 1)), (Prod.mk 1002 (AObj.cells [(vI x13)] 3 false 1)), (Prod.mk 1003 AObj.deferred), (Prod.mk 500 (AObj.sym (l14) false 5))]))))))))))))))))))
 False)) := by kernel_rfl
def naF3 (C : Ct) (L : AtLoop) (x0 : Int) (x1 : Int) (x2 : Int) (x3 : Int) (x4 : Int) (x5 : Int) (n6 : Nat) (c7 : Nat) (x8 : Int) (x9 : Int) (x10 : Int) (x11 : Int) (x12 : Int) (x13 : Int) (l14 : List Value) (k : List D → Prop) : Prop := jNext Try.prog (hP C) L [] 64 50003 .normal [(2, (Value.pointer (some ⟨1000, 0, none⟩))), (4, (Value.pointer (some ⟨1001, 0, none⟩))), (5, (Value.pointer (some ⟨1002, 0, none⟩))), (1000000, (Go.Value.map (Option.some 1003)))] [(1000, (AObj.cells [(Value.int .i64 x0), (Value.int .i64 x1), (Value.int .i64 x2), (Value.int .i64 x3), (Value.int .i64 x4), (Value.int .i64 x5), (Value.slice (some ⟨500, 0, none⟩) n6 c7), (Value.int .i64 x8), (Value.int .i64 x9), (Value.int .i64 x10), (Value.int .i64 x11)] 95 false 1)), (1001, (AObj.cells [(Value.int .i64 x12)] 3 false 1)), (1002, (AObj.cells [(Value.int .i64 x13)] 3 false 1)), (1003, AObj.deferred), (500, (AObj.sym l14 false 5))] (dataK k)
theorem naF3_text (C : Ct) (L : AtLoop) (x0 : Int) (x1 : Int) (x2 : Int) (x3 : Int) (x4 : Int) (x5 : Int) (n6 : Nat) (c7 : Nat) (x8 : Int) (x9 : Int) (x10 : Int) (x11 : Int) (x12 : Int) (x13 : Int) (l14 : List Go.Value) (k : List D → Prop) : naF3 C L x0 x1 x2 x3 x4 x5 n6 c7 x8 x9 x10 x11 x12 x13 l14 k =
 (k [(D.val (vI x13))]) := by kernel_rfl
def naF4 (C : Ct) (L : AtLoop) (x0 : Int) (x1 : Int) (x2 : Int) (x3 : Int) (x4 : Int) (x5 : Int) (n6 : Nat) (c7 : Nat) (x8 : Int) (x9 : Int) (x10 : Int) (x11 : Int) (x12 : Int) (x13 : Int) (l14 : List Value) (k : List D → Prop) : Prop := jNext Try.prog (hP C) L [] 64 50003 .ret [(2, (Value.pointer (some ⟨1000, 0, none⟩))), (4, (Value.pointer (some ⟨1001, 0, none⟩))), (5, (Value.pointer (some ⟨1002, 0, none⟩))), (1000000, (Go.Value.map (Option.some 1003)))] [(1000, (AObj.cells [(Value.int .i64 x0), (Value.int .i64 x1), (Value.int .i64 x2), (Value.int .i64 x3), (Value.int .i64 x4), (Value.int .i64 x5), (Value.slice (some ⟨500, 0, none⟩) n6 c7), (Value.int .i64 x8), (Value.int .i64 x9), (Value.int .i64 x10), (Value.int .i64 x11)] 95 false 1)), (1001, (AObj.cells [(Value.int .i64 x12)] 3 false 1)), (1002, (AObj.cells [(Value.int .i64 x13)] 3 false 1)), (1003, AObj.deferred), (500, (AObj.sym l14 false 5))] (dataK k)
theorem naF4_text (C : Ct) (L : AtLoop) (x0 : Int) (x1 : Int) (x2 : Int) (x3 : Int) (x4 : Int) (x5 : Int) (n6 : Nat) (c7 : Nat) (x8 : Int) (x9 : Int) (x10 : Int) (x11 : Int) (x12 : Int) (x13 : Int) (l14 : List Go.Value) (k : List D → Prop) : naF4 C L x0 x1 x2 x3 x4 x5 n6 c7 x8 x9 x10 x11 x12 x13 l14 k =
 (k [(D.val (vI x12))]) := by kernel_rfl
def geH (C : Ct) (L : AtLoop) (w : Int) (st : Int) (fi : Int) (ha : Int) (hb : Int) (co : Int) (sa : Int) (sb : Int) (fa : Int) (fb : Int) (n0 : Nat) (c0 : Nat) (l0 : List Value) (nm : ByteArray) (n1 : Nat) (c1 : Nat) (l1 : List Value) (K : Value → Blocks → Prop) : Prop := jFn Try.prog (hP C) L [] 69 #[.agg #[.int .i64 w, .int .i64 st, .int .i64 fi, .int .i64 ha, .int .i64 hb, .int .i64 co, .slice (some ⟨500, 0, none⟩) n0 c0, .int .i64 sa, .int .i64 sb, .int .i64 fa, .int .i64 fb], .agg #[.string nm, .slice (some ⟨501, 0, none⟩) n1 c1], .func (.func 70) #[] #[.pointer (some ⟨502, 0, none⟩)]] (heapOf [(500, .sym l0 false 5), (501, .sym l1 false 1), (502, .cells [.int .i64 w, .int .i64 st, .int .i64 fi, .int .i64 ha, .int .i64 hb, .int .i64 co, .slice (some ⟨500, 0, none⟩) n0 c0, .int .i64 sa, .int .i64 sb, .int .i64 fa, .int .i64 fb] 95 false 11)]) (stateK K)
theorem geH_text (C : Ct) (L : AtLoop) (w : Int) (st : Int) (fi : Int) (ha : Int) (hb : Int) (co : Int) (sa : Int) (sb : Int) (fa : Int) (fb : Int) (n0 : Nat) (c0 : Nat) (l0 : List Go.Value) (nm : ByteArray) (n1 : Nat) (c1 : Nat) (l1 : List Go.Value) (K : Go.Value → Blocks → Prop) : geH C L w st fi ha hb co sa sb fa fb n0 c0 l0 nm n1 c1 l1 K =
 (L 50003 [(Prod.mk 5 (Pt 1000 0)), (Prod.mk 6 (Value.slice none 0 0)), (Prod.mk 7 (Pt 1001 0)), (Prod.mk 11 (Value.func (Go.Fn.func 96) [].toArray [(Pt 1002 0), (Pt 1003 0)].toArray))] [(Prod.mk 1000 (AObj.cells [(Value.func (Go.Fn.func 70) [].toArray [(Pt 502 0)].toArray)] 112 false 1)), (Prod.mk 1001 (AObj.cells [(Value.slice none 0 0)] 63 false 1)), (Prod.mk 1002 (AObj.cells [(vI w), (vI st), (vI fi), (vI ha), (vI hb), (vI co), (Sl 500 (n0) (c0)), (vI sa), (vI sb), (vI fa), (vI fb)] 95 false 1)), (Prod.mk 1003 (AObj.cells [(Value.string (nm)), (Sl 501 (n1) (c1))] 29 false 1)), (Prod.mk 502 (AObj.cells [(vI w), (vI st), (vI fi), (vI ha), (vI hb), (vI co), (Sl 500 (n0) (c0)), (vI sa), (vI sb), (vI fa), (vI fb)] 95 false 11)), (Prod.mk 500 (AObj.sym (l0) false 5)), (Prod.mk 501 (AObj.sym (l1) false 1))]) := by kernel_rfl
abbrev zeH1 (x0 : Int) (x1 : Int) (x2 : Int) (x3 : Int) (x4 : Int) (x5 : Int) (n6 : Nat) (c7 : Nat) (x8 : Int) (x9 : Int) (x10 : Int) (x11 : Int) (s12 : ByteArray) (n13 : Nat) (c14 : Nat) (x15 : Int) (x16 : Int) (x17 : Int) (x18 : Int) (x19 : Int) (x20 : Int) (n21 : Nat) (c22 : Nat) (x23 : Int) (x24 : Int) (x25 : Int) (x26 : Int) (l27 : List Value) (l28 : List Value) : Slots × Blocks := ([(5, (Value.pointer (some ⟨1000, 0, none⟩))), (6, (Value.slice none 0 0)), (7, (Value.pointer (some ⟨1001, 0, none⟩))), (11, (Value.func (.func 96) #[] #[(Value.pointer (some ⟨1002, 0, none⟩)), (Value.pointer (some ⟨1003, 0, none⟩))]))], [(1000, (AObj.cells [(Value.func (.func 70) #[] #[(Value.pointer (some ⟨502, 0, none⟩))])] 112 false 1)), (1001, (AObj.cells [(Value.slice none 0 0)] 63 false 1)), (1002, (AObj.cells [(Value.int .i64 x0), (Value.int .i64 x1), (Value.int .i64 x2), (Value.int .i64 x3), (Value.int .i64 x4), (Value.int .i64 x5), (Value.slice (some ⟨500, 0, none⟩) n6 c7), (Value.int .i64 x8), (Value.int .i64 x9), (Value.int .i64 x10), (Value.int .i64 x11)] 95 false 1)), (1003, (AObj.cells [(Value.string s12), (Value.slice (some ⟨501, 0, none⟩) n13 c14)] 29 false 1)), (502, (AObj.cells [(Value.int .i64 x15), (Value.int .i64 x16), (Value.int .i64 x17), (Value.int .i64 x18), (Value.int .i64 x19), (Value.int .i64 x20), (Value.slice (some ⟨500, 0, none⟩) n21 c22), (Value.int .i64 x23), (Value.int .i64 x24), (Value.int .i64 x25), (Value.int .i64 x26)] 95 false 11)), (500, (AObj.sym l27 false 5)), (501, (AObj.sym l28 false 1))])
def heH1 (x0 : Int) (x1 : Int) (x2 : Int) (x3 : Int) (x4 : Int) (x5 : Int) (n6 : Nat) (c7 : Nat) (x8 : Int) (x9 : Int) (x10 : Int) (x11 : Int) (s12 : ByteArray) (n13 : Nat) (c14 : Nat) (x15 : Int) (x16 : Int) (x17 : Int) (x18 : Int) (x19 : Int) (x20 : Int) (n21 : Nat) (c22 : Nat) (x23 : Int) (x24 : Int) (x25 : Int) (x26 : Int) (l27 : List Value) (l28 : List Value) (Kr : Kh) : Prop := rHead Try.prog 69 50003 [(5, (Value.pointer (some ⟨1000, 0, none⟩))), (6, (Value.slice none 0 0)), (7, (Value.pointer (some ⟨1001, 0, none⟩))), (11, (Value.func (.func 96) #[] #[(Value.pointer (some ⟨1002, 0, none⟩)), (Value.pointer (some ⟨1003, 0, none⟩))]))] [(1000, (AObj.cells [(Value.func (.func 70) #[] #[(Value.pointer (some ⟨502, 0, none⟩))])] 112 false 1)), (1001, (AObj.cells [(Value.slice none 0 0)] 63 false 1)), (1002, (AObj.cells [(Value.int .i64 x0), (Value.int .i64 x1), (Value.int .i64 x2), (Value.int .i64 x3), (Value.int .i64 x4), (Value.int .i64 x5), (Value.slice (some ⟨500, 0, none⟩) n6 c7), (Value.int .i64 x8), (Value.int .i64 x9), (Value.int .i64 x10), (Value.int .i64 x11)] 95 false 1)), (1003, (AObj.cells [(Value.string s12), (Value.slice (some ⟨501, 0, none⟩) n13 c14)] 29 false 1)), (502, (AObj.cells [(Value.int .i64 x15), (Value.int .i64 x16), (Value.int .i64 x17), (Value.int .i64 x18), (Value.int .i64 x19), (Value.int .i64 x20), (Value.slice (some ⟨500, 0, none⟩) n21 c22), (Value.int .i64 x23), (Value.int .i64 x24), (Value.int .i64 x25), (Value.int .i64 x26)] 95 false 11)), (500, (AObj.sym l27 false 5)), (501, (AObj.sym l28 false 1))] Kr
theorem heH1_text (x0 : Int) (x1 : Int) (x2 : Int) (x3 : Int) (x4 : Int) (x5 : Int) (n6 : Nat) (c7 : Nat) (x8 : Int) (x9 : Int) (x10 : Int) (x11 : Int) (s12 : ByteArray) (n13 : Nat) (c14 : Nat) (x15 : Int) (x16 : Int) (x17 : Int) (x18 : Int) (x19 : Int) (x20 : Int) (n21 : Nat) (c22 : Nat) (x23 : Int) (x24 : Int) (x25 : Int) (x26 : Int) (l27 : List Go.Value) (l28 : List Go.Value) (Kr : Kh) : heH1 x0 x1 x2 x3 x4 x5 n6 c7 x8 x9 x10 x11 s12 n13 c14 x15 x16 x17 x18 x19 x20 n21 c22 x23 x24 x25 x26 l27 l28 Kr =
 (Kr 96 [(Value.func (Go.Fn.yield 915) [].toArray [].toArray), (Pt 500 0), (Pt 501 0)] [(Prod.mk 500 (AObj.cells [(vI x0), (vI x1), (vI x2), (vI x3), (vI x4), (vI x5), (Sl 502 (n6) (c7)), (vI x8), (vI x9), (vI x10), (vI x11)] 95 false 1)), (Prod.mk 501 (AObj.cells [(Value.string (s12)), (Sl 503 (n13) (c14))] 29 false 1)), (Prod.mk 502 (AObj.sym (l27) false 5)), (Prod.mk 503 (AObj.sym (l28) false 1))] [(Prod.mk 5 (Pt 1000 0)), (Prod.mk 6 (Value.slice none 0 0)), (Prod.mk 7 (Pt 1001 0)), (Prod.mk 1000000 (Value.map (some 1002)))] [(Prod.mk 1000 (AObj.cells [(Value.func (Go.Fn.func 70) [].toArray [(Pt 502 0)].toArray)] 112 false 1)), (Prod.mk 1001 (AObj.cells [(Value.slice none 0 0)] 63 false 1)), (Prod.mk 1002 AObj.deferred), (Prod.mk 502 (AObj.cells [(vI x15), (vI x16), (vI x17), (vI x18), (vI x19), (vI x20), (Sl 500 (n21) (c22)), (vI x23), (vI x24), (vI x25), (vI x26)] 95 false 11)), (Prod.mk 500 (AObj.sym (l27) false 5))]) := by kernel_rfl
abbrev zeH2 (x0 : Int) (x1 : Int) (x2 : Int) (x3 : Int) (x4 : Int) (x5 : Int) (n6 : Nat) (c7 : Nat) (x8 : Int) (x9 : Int) (x10 : Int) (x11 : Int) (l12 : List Value) : Slots × Blocks := ([(5, (Value.pointer (some ⟨1000, 0, none⟩))), (6, (Value.slice none 0 0)), (7, (Value.pointer (some ⟨1001, 0, none⟩))), (1000000, (Go.Value.map (Option.some 1002)))], [(1000, (AObj.cells [(Value.func (.func 70) #[] #[(Value.pointer (some ⟨502, 0, none⟩))])] 112 false 1)), (1001, (AObj.cells [(Value.slice none 0 0)] 63 false 1)), (1002, AObj.deferred), (502, (AObj.cells [(Value.int .i64 x0), (Value.int .i64 x1), (Value.int .i64 x2), (Value.int .i64 x3), (Value.int .i64 x4), (Value.int .i64 x5), (Value.slice (some ⟨500, 0, none⟩) n6 c7), (Value.int .i64 x8), (Value.int .i64 x9), (Value.int .i64 x10), (Value.int .i64 x11)] 95 false 11)), (500, (AObj.sym l12 false 5))])
def weH2 (C : Ct) (x0 : Int) (x1 : Int) (x2 : Int) (x3 : Int) (x4 : Int) (x5 : Int) (n6 : Nat) (c7 : Nat) (x8 : Int) (x9 : Int) (x10 : Int) (x11 : Int) (l12 : List Value) (y0 : Int) (y1 : Int) (y2 : Int) (B : Bx) (X : Ex) : Prop := rRound Try.prog (hP C) 69 50003 [(5, (Value.pointer (some ⟨1000, 0, none⟩))), (6, (Value.slice none 0 0)), (7, (Value.pointer (some ⟨1001, 0, none⟩))), (1000000, (Go.Value.map (Option.some 1002)))] [(1000, (AObj.cells [(Value.func (.func 70) #[] #[(Value.pointer (some ⟨502, 0, none⟩))])] 112 false 1)), (1001, (AObj.cells [(Value.slice none 0 0)] 63 false 1)), (1002, AObj.deferred), (502, (AObj.cells [(Value.int .i64 x0), (Value.int .i64 x1), (Value.int .i64 x2), (Value.int .i64 x3), (Value.int .i64 x4), (Value.int .i64 x5), (Value.slice (some ⟨500, 0, none⟩) n6 c7), (Value.int .i64 x8), (Value.int .i64 x9), (Value.int .i64 x10), (Value.int .i64 x11)] 95 false 11)), (500, (AObj.sym l12 false 5))] [(.agg [(.val (.int .i64 y0)), (.val (.int .i64 y1)), (.val (.int .i64 y2))])] B X
theorem weH2_text (C : Ct) (x0 : Int) (x1 : Int) (x2 : Int) (x3 : Int) (x4 : Int) (x5 : Int) (n6 : Nat) (c7 : Nat) (x8 : Int) (x9 : Int) (x10 : Int) (x11 : Int) (l12 : List Go.Value) (y0 : Int) (y1 : Int) (y2 : Int) (B : Bx) (X : Ex) : weH2 C x0 x1 x2 x3 x4 x5 n6 c7 x8 x9 x10 x11 l12 y0 y1 y2 B X =
 (∀ caps : Nat → Nat,
 (((Qv (Value.agg [(vI y0), (vI y1), (vI y2)].toArray)) ∧
 ((Qv (Value.func (Go.Fn.func 70) [].toArray [(Pt 502 0)].toArray)) ∧
 ((Qv (Value.slice none 0 0)) ∧
 True))) ∧
 (bcase (decide (0 + n6 * 5 ≤ List.length l12))
 (∃ n1 : Int,
 (∃ n2 : Int,
 ((Says C 63 [(D.agg [(D.val (vI x0)), (D.val (vI x1)), (D.val (vI x2)), (D.val (vI x3)), (D.val (vI x4)), (D.val (vI x5)), (D.sl (n6) 5 (List.take (n6 * 5) (List.drop 0 l12))), (D.val (vI x8)), (D.val (vI x9)), (D.val (vI x10)), (D.val (vI x11))]), (D.agg [(D.val (vI y0)), (D.val (vI y1)), (D.val (vI y2))])] [(D.agg [(D.val (vI n1)), (D.val (vI n2))])]) ∧
 (((Qv (vI n2)) ∧
 ((Qv (Pt 1006 1)) ∧
 ((Qv (vI n1)) ∧
 ((Qv (Pt 1006 0)) ∧
 True)))) ∧
 (∃ n3 : Int,
 (∃ n4 : Int,
 ((Says C 53 [(D.val (vI n1)), (D.val (vI 100))] [(D.agg [(D.val (vI n3)), (D.val (vI n4))])]) ∧
 (((Qv (vI n2)) ∧
 ((Qv (Pt 1006 1)) ∧
 ((Qv (Pt 1006 0)) ∧
 True))) ∧
 (∃ n5 : Int,
 (∃ n7 : Int,
 ((Says C 53 [(D.val (vI n2)), (D.val (vI 100))] [(D.agg [(D.val (vI n5)), (D.val (vI n7))])]) ∧
 (((Qv (Value.agg [(vI n3), (vI n4), (vI n5), (vI n7)].toArray)) ∧
 ((Qv (Pt 1006 1)) ∧
 ((Qv (Pt 1006 0)) ∧
 True))) ∧
 (True ∧
 ((((Qv (Sl 1007 1 1)) ∧
 (Qv (some (AObj.cells [(vI n3), (vI n4), (vI n5), (vI n7)] 70 false 4)))) ∧
 ((Qv (Value.slice none 0 0)) ∧
 True)) ∧
 (True ∧
 (True ∧
 (B [(Prod.mk 5 (Pt 1000 0)), (Prod.mk 6 (Value.slice none 0 0)), (Prod.mk 7 (Pt 1001 0)), (Prod.mk 1000000 (Value.map (some 1002)))] [(Prod.mk 1000 (AObj.cells [(Value.func (Go.Fn.func 70) [].toArray [(Pt 502 0)].toArray)] 112 false 1)), (Prod.mk 1001 (AObj.cells [(Sl 1003 1 1)] 63 false 1)), (Prod.mk 1002 AObj.deferred), (Prod.mk 502 (AObj.cells [(vI x0), (vI x1), (vI x2), (vI x3), (vI x4), (vI x5), (Sl 500 (n6) (c7)), (vI x8), (vI x9), (vI x10), (vI x11)] 95 false 11)), (Prod.mk 1003 (AObj.sym [(vI n3), (vI n4), (vI n5), (vI n7)] true 4)), (Prod.mk 500 (AObj.sym (l12) false 5))])))))))))))))))))
 False))) := by kernel_rfl
abbrev zeH4 (n0 : Nat) (x1 : Int) (x2 : Int) (x3 : Int) (x4 : Int) (x5 : Int) (x6 : Int) (n7 : Nat) (c8 : Nat) (x9 : Int) (x10 : Int) (x11 : Int) (x12 : Int) (l13 : List Value) (l14 : List Value) : Slots × Blocks := ([(5, (Value.pointer (some ⟨1000, 0, none⟩))), (6, (Value.slice none 0 0)), (7, (Value.pointer (some ⟨1001, 0, none⟩))), (1000000, (Go.Value.map (Option.some 1002)))], [(1000, (AObj.cells [(Value.func (.func 70) #[] #[(Value.pointer (some ⟨502, 0, none⟩))])] 112 false 1)), (1001, (AObj.cells [(Value.slice (some ⟨1003, 0, none⟩) n0 n0)] 63 false 1)), (1002, AObj.deferred), (502, (AObj.cells [(Value.int .i64 x1), (Value.int .i64 x2), (Value.int .i64 x3), (Value.int .i64 x4), (Value.int .i64 x5), (Value.int .i64 x6), (Value.slice (some ⟨500, 0, none⟩) n7 c8), (Value.int .i64 x9), (Value.int .i64 x10), (Value.int .i64 x11), (Value.int .i64 x12)] 95 false 11)), (1003, (AObj.sym l13 true 4)), (500, (AObj.sym l14 false 5))])
def weH4 (C : Ct) (n0 : Nat) (x1 : Int) (x2 : Int) (x3 : Int) (x4 : Int) (x5 : Int) (x6 : Int) (n7 : Nat) (c8 : Nat) (x9 : Int) (x10 : Int) (x11 : Int) (x12 : Int) (l13 : List Value) (l14 : List Value) (y0 : Int) (y1 : Int) (y2 : Int) (B : Bx) (X : Ex) : Prop := rRound Try.prog (hP C) 69 50003 [(5, (Value.pointer (some ⟨1000, 0, none⟩))), (6, (Value.slice none 0 0)), (7, (Value.pointer (some ⟨1001, 0, none⟩))), (1000000, (Go.Value.map (Option.some 1002)))] [(1000, (AObj.cells [(Value.func (.func 70) #[] #[(Value.pointer (some ⟨502, 0, none⟩))])] 112 false 1)), (1001, (AObj.cells [(Value.slice (some ⟨1003, 0, none⟩) n0 n0)] 63 false 1)), (1002, AObj.deferred), (502, (AObj.cells [(Value.int .i64 x1), (Value.int .i64 x2), (Value.int .i64 x3), (Value.int .i64 x4), (Value.int .i64 x5), (Value.int .i64 x6), (Value.slice (some ⟨500, 0, none⟩) n7 c8), (Value.int .i64 x9), (Value.int .i64 x10), (Value.int .i64 x11), (Value.int .i64 x12)] 95 false 11)), (1003, (AObj.sym l13 true 4)), (500, (AObj.sym l14 false 5))] [(.agg [(.val (.int .i64 y0)), (.val (.int .i64 y1)), (.val (.int .i64 y2))])] B X
theorem weH4_text (C : Ct) (n0 : Nat) (x1 : Int) (x2 : Int) (x3 : Int) (x4 : Int) (x5 : Int) (x6 : Int) (n7 : Nat) (c8 : Nat) (x9 : Int) (x10 : Int) (x11 : Int) (x12 : Int) (l13 : List Go.Value) (l14 : List Go.Value) (y0 : Int) (y1 : Int) (y2 : Int) (B : Bx) (X : Ex) : weH4 C n0 x1 x2 x3 x4 x5 x6 n7 c8 x9 x10 x11 x12 l13 l14 y0 y1 y2 B X =
 (∀ caps : Nat → Nat,
 (((Qv (Value.agg [(vI y0), (vI y1), (vI y2)].toArray)) ∧
 ((Qv (Value.func (Go.Fn.func 70) [].toArray [(Pt 502 0)].toArray)) ∧
 ((Qv (Sl 1003 (n0) (n0))) ∧
 True))) ∧
 (bcase (decide (0 + n7 * 5 ≤ List.length l14))
 (∃ n1 : Int,
 (∃ n2 : Int,
 ((Says C 63 [(D.agg [(D.val (vI x1)), (D.val (vI x2)), (D.val (vI x3)), (D.val (vI x4)), (D.val (vI x5)), (D.val (vI x6)), (D.sl (n7) 5 (List.take (n7 * 5) (List.drop 0 l14))), (D.val (vI x9)), (D.val (vI x10)), (D.val (vI x11)), (D.val (vI x12))]), (D.agg [(D.val (vI y0)), (D.val (vI y1)), (D.val (vI y2))])] [(D.agg [(D.val (vI n1)), (D.val (vI n2))])]) ∧
 (((Qv (vI n2)) ∧
 ((Qv (Pt 1007 1)) ∧
 ((Qv (vI n1)) ∧
 ((Qv (Pt 1007 0)) ∧
 True)))) ∧
 (∃ n3 : Int,
 (∃ n4 : Int,
 ((Says C 53 [(D.val (vI n1)), (D.val (vI 100))] [(D.agg [(D.val (vI n3)), (D.val (vI n4))])]) ∧
 (((Qv (vI n2)) ∧
 ((Qv (Pt 1007 1)) ∧
 ((Qv (Pt 1007 0)) ∧
 True))) ∧
 (∃ n5 : Int,
 (∃ n6 : Int,
 ((Says C 53 [(D.val (vI n2)), (D.val (vI 100))] [(D.agg [(D.val (vI n5)), (D.val (vI n6))])]) ∧
 (((Qv (Value.agg [(vI n3), (vI n4), (vI n5), (vI n6)].toArray)) ∧
 ((Qv (Pt 1007 1)) ∧
 ((Qv (Pt 1007 0)) ∧
 True))) ∧
 (True ∧
 ((((Qv (Sl 1008 1 1)) ∧
 (Qv (some (AObj.cells [(vI n3), (vI n4), (vI n5), (vI n6)] 70 false 4)))) ∧
 ((Qv (Sl 1003 (n0) (n0))) ∧
 True)) ∧
 (bcase (decide (n0 < n0 + 1))
 (bcase (decide ((2 * (n0 + 1) + 768) * 32 ≤ 281474976710656))
 (bcase (decide (n0 + 1 ≤ 1099511627776))
 (bcase (decide (0 + n0 * 4 ≤ List.length l13))
 (bcase (decide (0 + n0 * 4 = List.length l13))
 (True ∧
 (True ∧
 (B [(Prod.mk 5 (Pt 1000 0)), (Prod.mk 6 (Value.slice none 0 0)), (Prod.mk 7 (Pt 1001 0)), (Prod.mk 1000000 (Value.map (some 1002)))] [(Prod.mk 1000 (AObj.cells [(Value.func (Go.Fn.func 70) [].toArray [(Pt 502 0)].toArray)] 112 false 1)), (Prod.mk 1001 (AObj.cells [(Sl 1003 (n0 + 1) (n0 + 1))] 63 false 1)), (Prod.mk 1002 AObj.deferred), (Prod.mk 502 (AObj.cells [(vI x1), (vI x2), (vI x3), (vI x4), (vI x5), (vI x6), (Sl 500 (n7) (c8)), (vI x9), (vI x10), (vI x11), (vI x12)] 95 false 11)), (Prod.mk 1003 (AObj.sym ((List.take (n0 * 4) (List.drop 0 l13)) ++ [(vI n3), (vI n4), (vI n5), (vI n6)]) true 4)), (Prod.mk 500 (AObj.sym (l14) false 5))])))
 False)
 False)
 False)
 False)
 False)))))))))))))))
 False))) := by kernel_rfl
def neH5 (C : Ct) (L : AtLoop) (n0 : Nat) (x1 : Int) (x2 : Int) (x3 : Int) (x4 : Int) (x5 : Int) (x6 : Int) (n7 : Nat) (c8 : Nat) (x9 : Int) (x10 : Int) (x11 : Int) (x12 : Int) (l13 : List Value) (l14 : List Value) (K : Value → Blocks → Prop) : Prop := jNext Try.prog (hP C) L [] 69 50003 .normal [(5, (Value.pointer (some ⟨1000, 0, none⟩))), (6, (Value.slice none 0 0)), (7, (Value.pointer (some ⟨1001, 0, none⟩))), (1000000, (Go.Value.map (Option.some 1002)))] [(1000, (AObj.cells [(Value.func (.func 70) #[] #[(Value.pointer (some ⟨502, 0, none⟩))])] 112 false 1)), (1001, (AObj.cells [(Value.slice (some ⟨1003, 0, none⟩) n0 n0)] 63 false 1)), (1002, AObj.deferred), (502, (AObj.cells [(Value.int .i64 x1), (Value.int .i64 x2), (Value.int .i64 x3), (Value.int .i64 x4), (Value.int .i64 x5), (Value.int .i64 x6), (Value.slice (some ⟨500, 0, none⟩) n7 c8), (Value.int .i64 x9), (Value.int .i64 x10), (Value.int .i64 x11), (Value.int .i64 x12)] 95 false 11)), (1003, (AObj.sym l13 true 4)), (500, (AObj.sym l14 false 5))] (stateK K)
theorem neH5_text (C : Ct) (L : AtLoop) (n0 : Nat) (x1 : Int) (x2 : Int) (x3 : Int) (x4 : Int) (x5 : Int) (x6 : Int) (n7 : Nat) (c8 : Nat) (x9 : Int) (x10 : Int) (x11 : Int) (x12 : Int) (l13 : List Go.Value) (l14 : List Go.Value) (K : Go.Value → Blocks → Prop) : neH5 C L n0 x1 x2 x3 x4 x5 x6 n7 c8 x9 x10 x11 x12 l13 l14 K =
 (K (Sl 1000 (n0) (n0)) [(Prod.mk 1000 (AObj.sym (l13) true 4))]) := by kernel_rfl
def geT (C : Ct) (L : AtLoop) (w : Int) (st : Int) (fi : Int) (ha : Int) (hb : Int) (co : Int) (sa : Int) (sb : Int) (fa : Int) (fb : Int) (n0 : Nat) (c0 : Nat) (l0 : List Value) (nm : ByteArray) (n1 : Nat) (c1 : Nat) (l1 : List Value) (K : Value → Blocks → Prop) : Prop := jFn Try.prog (hP C) L [] 51 #[.agg #[.int .i64 w, .int .i64 st, .int .i64 fi, .int .i64 ha, .int .i64 hb, .int .i64 co, .slice (some ⟨500, 0, none⟩) n0 c0, .int .i64 sa, .int .i64 sb, .int .i64 fa, .int .i64 fb], .agg #[.string nm, .slice (some ⟨501, 0, none⟩) n1 c1], .func (.func 62) #[] #[.pointer (some ⟨502, 0, none⟩)]] (heapOf [(500, .sym l0 false 5), (501, .sym l1 false 1), (502, .cells [.int .i64 w, .int .i64 st, .int .i64 fi, .int .i64 ha, .int .i64 hb, .int .i64 co, .slice (some ⟨500, 0, none⟩) n0 c0, .int .i64 sa, .int .i64 sb, .int .i64 fa, .int .i64 fb] 95 false 11)]) (stateK K)
theorem geT_text (C : Ct) (L : AtLoop) (w : Int) (st : Int) (fi : Int) (ha : Int) (hb : Int) (co : Int) (sa : Int) (sb : Int) (fa : Int) (fb : Int) (n0 : Nat) (c0 : Nat) (l0 : List Go.Value) (nm : ByteArray) (n1 : Nat) (c1 : Nat) (l1 : List Go.Value) (K : Go.Value → Blocks → Prop) : geT C L w st fi ha hb co sa sb fa fb n0 c0 l0 nm n1 c1 l1 K =
 (L 50003 [(Prod.mk 5 (Pt 1000 0)), (Prod.mk 6 (Value.slice none 0 0)), (Prod.mk 7 (Pt 1001 0)), (Prod.mk 11 (Value.func (Go.Fn.func 96) [].toArray [(Pt 1002 0), (Pt 1003 0)].toArray))] [(Prod.mk 1000 (AObj.cells [(Value.func (Go.Fn.func 62) [].toArray [(Pt 502 0)].toArray)] 102 false 1)), (Prod.mk 1001 (AObj.cells [(Value.slice none 0 0)] 38 false 1)), (Prod.mk 1002 (AObj.cells [(vI w), (vI st), (vI fi), (vI ha), (vI hb), (vI co), (Sl 500 (n0) (c0)), (vI sa), (vI sb), (vI fa), (vI fb)] 95 false 1)), (Prod.mk 1003 (AObj.cells [(Value.string (nm)), (Sl 501 (n1) (c1))] 29 false 1)), (Prod.mk 502 (AObj.cells [(vI w), (vI st), (vI fi), (vI ha), (vI hb), (vI co), (Sl 500 (n0) (c0)), (vI sa), (vI sb), (vI fa), (vI fb)] 95 false 11)), (Prod.mk 500 (AObj.sym (l0) false 5)), (Prod.mk 501 (AObj.sym (l1) false 1))]) := by kernel_rfl
abbrev zeT1 (x0 : Int) (x1 : Int) (x2 : Int) (x3 : Int) (x4 : Int) (x5 : Int) (n6 : Nat) (c7 : Nat) (x8 : Int) (x9 : Int) (x10 : Int) (x11 : Int) (s12 : ByteArray) (n13 : Nat) (c14 : Nat) (x15 : Int) (x16 : Int) (x17 : Int) (x18 : Int) (x19 : Int) (x20 : Int) (n21 : Nat) (c22 : Nat) (x23 : Int) (x24 : Int) (x25 : Int) (x26 : Int) (l27 : List Value) (l28 : List Value) : Slots × Blocks := ([(5, (Value.pointer (some ⟨1000, 0, none⟩))), (6, (Value.slice none 0 0)), (7, (Value.pointer (some ⟨1001, 0, none⟩))), (11, (Value.func (.func 96) #[] #[(Value.pointer (some ⟨1002, 0, none⟩)), (Value.pointer (some ⟨1003, 0, none⟩))]))], [(1000, (AObj.cells [(Value.func (.func 62) #[] #[(Value.pointer (some ⟨502, 0, none⟩))])] 102 false 1)), (1001, (AObj.cells [(Value.slice none 0 0)] 38 false 1)), (1002, (AObj.cells [(Value.int .i64 x0), (Value.int .i64 x1), (Value.int .i64 x2), (Value.int .i64 x3), (Value.int .i64 x4), (Value.int .i64 x5), (Value.slice (some ⟨500, 0, none⟩) n6 c7), (Value.int .i64 x8), (Value.int .i64 x9), (Value.int .i64 x10), (Value.int .i64 x11)] 95 false 1)), (1003, (AObj.cells [(Value.string s12), (Value.slice (some ⟨501, 0, none⟩) n13 c14)] 29 false 1)), (502, (AObj.cells [(Value.int .i64 x15), (Value.int .i64 x16), (Value.int .i64 x17), (Value.int .i64 x18), (Value.int .i64 x19), (Value.int .i64 x20), (Value.slice (some ⟨500, 0, none⟩) n21 c22), (Value.int .i64 x23), (Value.int .i64 x24), (Value.int .i64 x25), (Value.int .i64 x26)] 95 false 11)), (500, (AObj.sym l27 false 5)), (501, (AObj.sym l28 false 1))])
def heT1 (x0 : Int) (x1 : Int) (x2 : Int) (x3 : Int) (x4 : Int) (x5 : Int) (n6 : Nat) (c7 : Nat) (x8 : Int) (x9 : Int) (x10 : Int) (x11 : Int) (s12 : ByteArray) (n13 : Nat) (c14 : Nat) (x15 : Int) (x16 : Int) (x17 : Int) (x18 : Int) (x19 : Int) (x20 : Int) (n21 : Nat) (c22 : Nat) (x23 : Int) (x24 : Int) (x25 : Int) (x26 : Int) (l27 : List Value) (l28 : List Value) (Kr : Kh) : Prop := rHead Try.prog 51 50003 [(5, (Value.pointer (some ⟨1000, 0, none⟩))), (6, (Value.slice none 0 0)), (7, (Value.pointer (some ⟨1001, 0, none⟩))), (11, (Value.func (.func 96) #[] #[(Value.pointer (some ⟨1002, 0, none⟩)), (Value.pointer (some ⟨1003, 0, none⟩))]))] [(1000, (AObj.cells [(Value.func (.func 62) #[] #[(Value.pointer (some ⟨502, 0, none⟩))])] 102 false 1)), (1001, (AObj.cells [(Value.slice none 0 0)] 38 false 1)), (1002, (AObj.cells [(Value.int .i64 x0), (Value.int .i64 x1), (Value.int .i64 x2), (Value.int .i64 x3), (Value.int .i64 x4), (Value.int .i64 x5), (Value.slice (some ⟨500, 0, none⟩) n6 c7), (Value.int .i64 x8), (Value.int .i64 x9), (Value.int .i64 x10), (Value.int .i64 x11)] 95 false 1)), (1003, (AObj.cells [(Value.string s12), (Value.slice (some ⟨501, 0, none⟩) n13 c14)] 29 false 1)), (502, (AObj.cells [(Value.int .i64 x15), (Value.int .i64 x16), (Value.int .i64 x17), (Value.int .i64 x18), (Value.int .i64 x19), (Value.int .i64 x20), (Value.slice (some ⟨500, 0, none⟩) n21 c22), (Value.int .i64 x23), (Value.int .i64 x24), (Value.int .i64 x25), (Value.int .i64 x26)] 95 false 11)), (500, (AObj.sym l27 false 5)), (501, (AObj.sym l28 false 1))] Kr
theorem heT1_text (x0 : Int) (x1 : Int) (x2 : Int) (x3 : Int) (x4 : Int) (x5 : Int) (n6 : Nat) (c7 : Nat) (x8 : Int) (x9 : Int) (x10 : Int) (x11 : Int) (s12 : ByteArray) (n13 : Nat) (c14 : Nat) (x15 : Int) (x16 : Int) (x17 : Int) (x18 : Int) (x19 : Int) (x20 : Int) (n21 : Nat) (c22 : Nat) (x23 : Int) (x24 : Int) (x25 : Int) (x26 : Int) (l27 : List Go.Value) (l28 : List Go.Value) (Kr : Kh) : heT1 x0 x1 x2 x3 x4 x5 n6 c7 x8 x9 x10 x11 s12 n13 c14 x15 x16 x17 x18 x19 x20 n21 c22 x23 x24 x25 x26 l27 l28 Kr =
 (Kr 96 [(Value.func (Go.Fn.yield 915) [].toArray [].toArray), (Pt 500 0), (Pt 501 0)] [(Prod.mk 500 (AObj.cells [(vI x0), (vI x1), (vI x2), (vI x3), (vI x4), (vI x5), (Sl 502 (n6) (c7)), (vI x8), (vI x9), (vI x10), (vI x11)] 95 false 1)), (Prod.mk 501 (AObj.cells [(Value.string (s12)), (Sl 503 (n13) (c14))] 29 false 1)), (Prod.mk 502 (AObj.sym (l27) false 5)), (Prod.mk 503 (AObj.sym (l28) false 1))] [(Prod.mk 5 (Pt 1000 0)), (Prod.mk 6 (Value.slice none 0 0)), (Prod.mk 7 (Pt 1001 0)), (Prod.mk 1000000 (Value.map (some 1002)))] [(Prod.mk 1000 (AObj.cells [(Value.func (Go.Fn.func 62) [].toArray [(Pt 502 0)].toArray)] 102 false 1)), (Prod.mk 1001 (AObj.cells [(Value.slice none 0 0)] 38 false 1)), (Prod.mk 1002 AObj.deferred), (Prod.mk 502 (AObj.cells [(vI x15), (vI x16), (vI x17), (vI x18), (vI x19), (vI x20), (Sl 500 (n21) (c22)), (vI x23), (vI x24), (vI x25), (vI x26)] 95 false 11)), (Prod.mk 500 (AObj.sym (l27) false 5))]) := by kernel_rfl
abbrev zeT2 (x0 : Int) (x1 : Int) (x2 : Int) (x3 : Int) (x4 : Int) (x5 : Int) (n6 : Nat) (c7 : Nat) (x8 : Int) (x9 : Int) (x10 : Int) (x11 : Int) (l12 : List Value) : Slots × Blocks := ([(5, (Value.pointer (some ⟨1000, 0, none⟩))), (6, (Value.slice none 0 0)), (7, (Value.pointer (some ⟨1001, 0, none⟩))), (1000000, (Go.Value.map (Option.some 1002)))], [(1000, (AObj.cells [(Value.func (.func 62) #[] #[(Value.pointer (some ⟨502, 0, none⟩))])] 102 false 1)), (1001, (AObj.cells [(Value.slice none 0 0)] 38 false 1)), (1002, AObj.deferred), (502, (AObj.cells [(Value.int .i64 x0), (Value.int .i64 x1), (Value.int .i64 x2), (Value.int .i64 x3), (Value.int .i64 x4), (Value.int .i64 x5), (Value.slice (some ⟨500, 0, none⟩) n6 c7), (Value.int .i64 x8), (Value.int .i64 x9), (Value.int .i64 x10), (Value.int .i64 x11)] 95 false 11)), (500, (AObj.sym l12 false 5))])
def weT2 (C : Ct) (x0 : Int) (x1 : Int) (x2 : Int) (x3 : Int) (x4 : Int) (x5 : Int) (n6 : Nat) (c7 : Nat) (x8 : Int) (x9 : Int) (x10 : Int) (x11 : Int) (l12 : List Value) (y0 : Int) (y1 : Int) (y2 : Int) (B : Bx) (X : Ex) : Prop := rRound Try.prog (hP C) 51 50003 [(5, (Value.pointer (some ⟨1000, 0, none⟩))), (6, (Value.slice none 0 0)), (7, (Value.pointer (some ⟨1001, 0, none⟩))), (1000000, (Go.Value.map (Option.some 1002)))] [(1000, (AObj.cells [(Value.func (.func 62) #[] #[(Value.pointer (some ⟨502, 0, none⟩))])] 102 false 1)), (1001, (AObj.cells [(Value.slice none 0 0)] 38 false 1)), (1002, AObj.deferred), (502, (AObj.cells [(Value.int .i64 x0), (Value.int .i64 x1), (Value.int .i64 x2), (Value.int .i64 x3), (Value.int .i64 x4), (Value.int .i64 x5), (Value.slice (some ⟨500, 0, none⟩) n6 c7), (Value.int .i64 x8), (Value.int .i64 x9), (Value.int .i64 x10), (Value.int .i64 x11)] 95 false 11)), (500, (AObj.sym l12 false 5))] [(.agg [(.val (.int .i64 y0)), (.val (.int .i64 y1)), (.val (.int .i64 y2))])] B X
theorem weT2_text (C : Ct) (x0 : Int) (x1 : Int) (x2 : Int) (x3 : Int) (x4 : Int) (x5 : Int) (n6 : Nat) (c7 : Nat) (x8 : Int) (x9 : Int) (x10 : Int) (x11 : Int) (l12 : List Go.Value) (y0 : Int) (y1 : Int) (y2 : Int) (B : Bx) (X : Ex) : weT2 C x0 x1 x2 x3 x4 x5 n6 c7 x8 x9 x10 x11 l12 y0 y1 y2 B X =
 (∀ caps : Nat → Nat,
 (((Qv (Value.agg [(vI y0), (vI y1), (vI y2)].toArray)) ∧
 ((Qv (Value.func (Go.Fn.func 62) [].toArray [(Pt 502 0)].toArray)) ∧
 ((Qv (Value.slice none 0 0)) ∧
 True))) ∧
 (bcase (decide (0 + n6 * 5 ≤ List.length l12))
 (∃ n1 : Int,
 (∃ n2 : Int,
 ((Says C 63 [(D.agg [(D.val (vI x0)), (D.val (vI x1)), (D.val (vI x2)), (D.val (vI x3)), (D.val (vI x4)), (D.val (vI x5)), (D.sl (n6) 5 (List.take (n6 * 5) (List.drop 0 l12))), (D.val (vI x8)), (D.val (vI x9)), (D.val (vI x10)), (D.val (vI x11))]), (D.agg [(D.val (vI y0)), (D.val (vI y1)), (D.val (vI y2))])] [(D.agg [(D.val (vI n1)), (D.val (vI n2))])]) ∧
 (∃ n3 : Int,
 (∃ n4 : Int,
 ((Says C 53 [(D.val (vI n1)), (D.val (vI 100))] [(D.agg [(D.val (vI n3)), (D.val (vI n4))])]) ∧
 ((((Qv (Sl 1006 1 1)) ∧
 (Qv (some (AObj.cells [(vI n3), (vI n4)] 68 false 2)))) ∧
 ((Qv (Value.slice none 0 0)) ∧
 True)) ∧
 (True ∧
 (True ∧
 (B [(Prod.mk 5 (Pt 1000 0)), (Prod.mk 6 (Value.slice none 0 0)), (Prod.mk 7 (Pt 1001 0)), (Prod.mk 1000000 (Value.map (some 1002)))] [(Prod.mk 1000 (AObj.cells [(Value.func (Go.Fn.func 62) [].toArray [(Pt 502 0)].toArray)] 102 false 1)), (Prod.mk 1001 (AObj.cells [(Sl 1003 1 1)] 38 false 1)), (Prod.mk 1002 AObj.deferred), (Prod.mk 502 (AObj.cells [(vI x0), (vI x1), (vI x2), (vI x3), (vI x4), (vI x5), (Sl 500 (n6) (c7)), (vI x8), (vI x9), (vI x10), (vI x11)] 95 false 11)), (Prod.mk 1003 (AObj.sym [(vI n3), (vI n4)] true 2)), (Prod.mk 500 (AObj.sym (l12) false 5))]))))))))))
 False))) := by kernel_rfl
abbrev zeT4 (n0 : Nat) (x1 : Int) (x2 : Int) (x3 : Int) (x4 : Int) (x5 : Int) (x6 : Int) (n7 : Nat) (c8 : Nat) (x9 : Int) (x10 : Int) (x11 : Int) (x12 : Int) (l13 : List Value) (l14 : List Value) : Slots × Blocks := ([(5, (Value.pointer (some ⟨1000, 0, none⟩))), (6, (Value.slice none 0 0)), (7, (Value.pointer (some ⟨1001, 0, none⟩))), (1000000, (Go.Value.map (Option.some 1002)))], [(1000, (AObj.cells [(Value.func (.func 62) #[] #[(Value.pointer (some ⟨502, 0, none⟩))])] 102 false 1)), (1001, (AObj.cells [(Value.slice (some ⟨1003, 0, none⟩) n0 n0)] 38 false 1)), (1002, AObj.deferred), (502, (AObj.cells [(Value.int .i64 x1), (Value.int .i64 x2), (Value.int .i64 x3), (Value.int .i64 x4), (Value.int .i64 x5), (Value.int .i64 x6), (Value.slice (some ⟨500, 0, none⟩) n7 c8), (Value.int .i64 x9), (Value.int .i64 x10), (Value.int .i64 x11), (Value.int .i64 x12)] 95 false 11)), (1003, (AObj.sym l13 true 2)), (500, (AObj.sym l14 false 5))])
def weT4 (C : Ct) (n0 : Nat) (x1 : Int) (x2 : Int) (x3 : Int) (x4 : Int) (x5 : Int) (x6 : Int) (n7 : Nat) (c8 : Nat) (x9 : Int) (x10 : Int) (x11 : Int) (x12 : Int) (l13 : List Value) (l14 : List Value) (y0 : Int) (y1 : Int) (y2 : Int) (B : Bx) (X : Ex) : Prop := rRound Try.prog (hP C) 51 50003 [(5, (Value.pointer (some ⟨1000, 0, none⟩))), (6, (Value.slice none 0 0)), (7, (Value.pointer (some ⟨1001, 0, none⟩))), (1000000, (Go.Value.map (Option.some 1002)))] [(1000, (AObj.cells [(Value.func (.func 62) #[] #[(Value.pointer (some ⟨502, 0, none⟩))])] 102 false 1)), (1001, (AObj.cells [(Value.slice (some ⟨1003, 0, none⟩) n0 n0)] 38 false 1)), (1002, AObj.deferred), (502, (AObj.cells [(Value.int .i64 x1), (Value.int .i64 x2), (Value.int .i64 x3), (Value.int .i64 x4), (Value.int .i64 x5), (Value.int .i64 x6), (Value.slice (some ⟨500, 0, none⟩) n7 c8), (Value.int .i64 x9), (Value.int .i64 x10), (Value.int .i64 x11), (Value.int .i64 x12)] 95 false 11)), (1003, (AObj.sym l13 true 2)), (500, (AObj.sym l14 false 5))] [(.agg [(.val (.int .i64 y0)), (.val (.int .i64 y1)), (.val (.int .i64 y2))])] B X
theorem weT4_text (C : Ct) (n0 : Nat) (x1 : Int) (x2 : Int) (x3 : Int) (x4 : Int) (x5 : Int) (x6 : Int) (n7 : Nat) (c8 : Nat) (x9 : Int) (x10 : Int) (x11 : Int) (x12 : Int) (l13 : List Go.Value) (l14 : List Go.Value) (y0 : Int) (y1 : Int) (y2 : Int) (B : Bx) (X : Ex) : weT4 C n0 x1 x2 x3 x4 x5 x6 n7 c8 x9 x10 x11 x12 l13 l14 y0 y1 y2 B X =
 (∀ caps : Nat → Nat,
 (((Qv (Value.agg [(vI y0), (vI y1), (vI y2)].toArray)) ∧
 ((Qv (Value.func (Go.Fn.func 62) [].toArray [(Pt 502 0)].toArray)) ∧
 ((Qv (Sl 1003 (n0) (n0))) ∧
 True))) ∧
 (bcase (decide (0 + n7 * 5 ≤ List.length l14))
 (∃ n1 : Int,
 (∃ n2 : Int,
 ((Says C 63 [(D.agg [(D.val (vI x1)), (D.val (vI x2)), (D.val (vI x3)), (D.val (vI x4)), (D.val (vI x5)), (D.val (vI x6)), (D.sl (n7) 5 (List.take (n7 * 5) (List.drop 0 l14))), (D.val (vI x9)), (D.val (vI x10)), (D.val (vI x11)), (D.val (vI x12))]), (D.agg [(D.val (vI y0)), (D.val (vI y1)), (D.val (vI y2))])] [(D.agg [(D.val (vI n1)), (D.val (vI n2))])]) ∧
 (∃ n3 : Int,
 (∃ n4 : Int,
 ((Says C 53 [(D.val (vI n1)), (D.val (vI 100))] [(D.agg [(D.val (vI n3)), (D.val (vI n4))])]) ∧
 ((((Qv (Sl 1007 1 1)) ∧
 (Qv (some (AObj.cells [(vI n3), (vI n4)] 68 false 2)))) ∧
 ((Qv (Sl 1003 (n0) (n0))) ∧
 True)) ∧
 (bcase (decide (n0 < n0 + 1))
 (bcase (decide ((2 * (n0 + 1) + 768) * 16 ≤ 281474976710656))
 (bcase (decide (n0 + 1 ≤ 1099511627776))
 (bcase (decide (0 + n0 * 2 ≤ List.length l13))
 (bcase (decide (0 + n0 * 2 = List.length l13))
 (True ∧
 (True ∧
 (B [(Prod.mk 5 (Pt 1000 0)), (Prod.mk 6 (Value.slice none 0 0)), (Prod.mk 7 (Pt 1001 0)), (Prod.mk 1000000 (Value.map (some 1002)))] [(Prod.mk 1000 (AObj.cells [(Value.func (Go.Fn.func 62) [].toArray [(Pt 502 0)].toArray)] 102 false 1)), (Prod.mk 1001 (AObj.cells [(Sl 1003 (n0 + 1) (n0 + 1))] 38 false 1)), (Prod.mk 1002 AObj.deferred), (Prod.mk 502 (AObj.cells [(vI x1), (vI x2), (vI x3), (vI x4), (vI x5), (vI x6), (Sl 500 (n7) (c8)), (vI x9), (vI x10), (vI x11), (vI x12)] 95 false 11)), (Prod.mk 1003 (AObj.sym ((List.take (n0 * 2) (List.drop 0 l13)) ++ [(vI n3), (vI n4)]) true 2)), (Prod.mk 500 (AObj.sym (l14) false 5))])))
 False)
 False)
 False)
 False)
 False))))))))
 False))) := by kernel_rfl
def neT5 (C : Ct) (L : AtLoop) (n0 : Nat) (x1 : Int) (x2 : Int) (x3 : Int) (x4 : Int) (x5 : Int) (x6 : Int) (n7 : Nat) (c8 : Nat) (x9 : Int) (x10 : Int) (x11 : Int) (x12 : Int) (l13 : List Value) (l14 : List Value) (K : Value → Blocks → Prop) : Prop := jNext Try.prog (hP C) L [] 51 50003 .normal [(5, (Value.pointer (some ⟨1000, 0, none⟩))), (6, (Value.slice none 0 0)), (7, (Value.pointer (some ⟨1001, 0, none⟩))), (1000000, (Go.Value.map (Option.some 1002)))] [(1000, (AObj.cells [(Value.func (.func 62) #[] #[(Value.pointer (some ⟨502, 0, none⟩))])] 102 false 1)), (1001, (AObj.cells [(Value.slice (some ⟨1003, 0, none⟩) n0 n0)] 38 false 1)), (1002, AObj.deferred), (502, (AObj.cells [(Value.int .i64 x1), (Value.int .i64 x2), (Value.int .i64 x3), (Value.int .i64 x4), (Value.int .i64 x5), (Value.int .i64 x6), (Value.slice (some ⟨500, 0, none⟩) n7 c8), (Value.int .i64 x9), (Value.int .i64 x10), (Value.int .i64 x11), (Value.int .i64 x12)] 95 false 11)), (1003, (AObj.sym l13 true 2)), (500, (AObj.sym l14 false 5))] (stateK K)
theorem neT5_text (C : Ct) (L : AtLoop) (n0 : Nat) (x1 : Int) (x2 : Int) (x3 : Int) (x4 : Int) (x5 : Int) (x6 : Int) (n7 : Nat) (c8 : Nat) (x9 : Int) (x10 : Int) (x11 : Int) (x12 : Int) (l13 : List Go.Value) (l14 : List Go.Value) (K : Go.Value → Blocks → Prop) : neT5 C L n0 x1 x2 x3 x4 x5 x6 n7 c8 x9 x10 x11 x12 l13 l14 K =
 (K (Sl 1000 (n0) (n0)) [(Prod.mk 1000 (AObj.sym (l13) true 2))]) := by kernel_rfl
def gDo (C : Ct) (L : AtLoop) (rs : List (List D)) (w : Int) (st : Int) (fi : Int) (ha : Int) (hb : Int) (co : Int) (sa : Int) (sb : Int) (fa : Int) (fb : Int) (n0 : Nat) (c0 : Nat) (l0 : List Value) (nm : ByteArray) (n1 : Nat) (c1 : Nat) (l1 : List Value) (K : Value → Blocks → Prop) : Prop := jFn Try.prog (hE C) L [] 96 #[.func (.yield 915) #[] #[], .pointer (some ⟨500, 0, none⟩), .pointer (some ⟨501, 0, none⟩)] (heapOf [(915, .yld false (some rs)), (500, .cells [.int .i64 w, .int .i64 st, .int .i64 fi, .int .i64 ha, .int .i64 hb, .int .i64 co, .slice (some ⟨502, 0, none⟩) n0 c0, .int .i64 sa, .int .i64 sb, .int .i64 fa, .int .i64 fb] 95 false 1), (501, .cells [.string nm, .slice (some ⟨503, 0, none⟩) n1 c1] 29 false 1), (502, .sym l0 false 5), (503, .sym l1 false 1)]) (stateK K)
theorem gDo_text (C : Ct) (L : AtLoop) (rs : List (List D)) (w : Int) (st : Int) (fi : Int) (ha : Int) (hb : Int) (co : Int) (sa : Int) (sb : Int) (fa : Int) (fb : Int) (n0 : Nat) (c0 : Nat) (l0 : List Go.Value) (nm : ByteArray) (n1 : Nat) (c1 : Nat) (l1 : List Go.Value) (K : Go.Value → Blocks → Prop) : gDo C L rs w st fi ha hb co sa sb fa fb n0 c0 l0 nm n1 c1 l1 K =
 (L 0 [(Prod.mk 0 (Value.func (Go.Fn.yield 915) [].toArray [].toArray)), (Prod.mk 4 (vI st)), (Prod.mk 11 (Sl 503 (n1) (c1))), (Prod.mk 12 (vI ((↑n1 : Int)))), (Prod.mk 13 (vI 0))] [(Prod.mk 915 (AObj.yld false (some (rs)))), (Prod.mk 503 (AObj.sym (l1) false 1))]) := by kernel_rfl
abbrev zDo1 (x0 : Int) (n1 : Nat) (c2 : Nat) (x3 : Int) (x4 : Int) (rs5 : List (List D)) (l6 : List Value) : Slots × Blocks := ([(0, (Value.func (.yield 915) #[] #[])), (4, (Value.int .i64 x0)), (11, (Value.slice (some ⟨503, 0, none⟩) n1 c2)), (12, (Value.int .i64 x3)), (13, (Value.int .i64 x4))], [(915, (AObj.yld false (some rs5))), (503, (AObj.sym l6 false 1))])
def rDo1 (C : Ct) (L : AtLoop) (x0 : Int) (n1 : Nat) (c2 : Nat) (x3 : Int) (x4 : Int) (rs5 : List (List D)) (l6 : List Value) (B : Bx) (X : Xx) (K : Value → Blocks → Prop) : Prop := jRound Try.prog (hE C) L [] 96 0 [(0, (Value.func (.yield 915) #[] #[])), (4, (Value.int .i64 x0)), (11, (Value.slice (some ⟨503, 0, none⟩) n1 c2)), (12, (Value.int .i64 x3)), (13, (Value.int .i64 x4))] [(915, (AObj.yld false (some rs5))), (503, (AObj.sym l6 false 1))] B X (stateK K)
theorem rDo1_text (C : Ct) (L : AtLoop) (x0 : Int) (n1 : Nat) (c2 : Nat) (x3 : Int) (x4 : Int) (rs5 : List (List D)) (l6 : List Go.Value) (B : Bx) (X : Xx) (K : Go.Value → Blocks → Prop) : rDo1 C L x0 n1 c2 x3 x4 rs5 l6 B X K =
 (bcase (decide (x4 < x3))
 (bcase (decide (0 ≤ x4))
 (bcase (decide (x4 < (↑n1 : Int)))
 (∃ n2 : Int,
 ((At (l6) (0 + Int.toNat x4 * 1) 1 [(vI n2)]) ∧
 (∃ rest'1 : List (List D),
 ((NextIs (rs5) [(D.agg [(D.val (vI x4)), (D.val (vI x0)), (D.val (vI n2))])] (rest'1)) ∧
 ((B [(Prod.mk 0 (Value.func (Go.Fn.yield 915) [].toArray [].toArray)), (Prod.mk 4 (vI n2)), (Prod.mk 11 (Sl 503 (n1) (c2))), (Prod.mk 12 (vI x3)), (Prod.mk 13 (vI (IntKind.wrap .i64 (x4 + 1))))] [(Prod.mk 915 (AObj.yld false (some (rest'1)))), (Prod.mk 503 (AObj.sym (l6) false 1))]) ∧
 (K (Value.tuple [].toArray) [(Prod.mk 915 (AObj.yld false none))]))))))
 False)
 False)
 (X 0 [] [(Prod.mk 915 (AObj.yld false (some (rs5))))])) := by kernel_rfl
def nDo2 (C : Ct) (L : AtLoop) (rs0 : List (List D)) (K : Value → Blocks → Prop) : Prop := jNext Try.prog (hE C) L [] 96 0 .normal [] [(915, (AObj.yld false (some rs0)))] (stateK K)
theorem nDo2_text (C : Ct) (L : AtLoop) (rs0 : List (List D)) (K : Go.Value → Blocks → Prop) : nDo2 C L rs0 K =
 (K (Value.tuple [].toArray) [(Prod.mk 915 (AObj.yld false (some (rs0))))]) := by kernel_rfl
end Go.Proofs.G5p.R

/- Chapter 3: the draughts of a schedule, and what is collected of them. -/
namespace Go.Proofs.G5p
open Go Go.Abs Go.Proofs Go.Str
set_option maxRecDepth 100000
theorem hokRE : HandlerOK Try.prog (R.hE C5) := handlerX_ok mixed (fun g h he => by cases he) (by decide) 6
theorem preROK : PreOK Try.prog (R.preP C5) := by
  intro g h he args ats H k hk
  unfold R.preP at he
  rcases ite_so he with ⟨_, rfl⟩ | he
  · exact saidH_ok (fun _ _ _ h => h) _ _ _ _ _ hk
  · cases he
theorem hokRP : HandlerOK Try.prog (R.hP C5) := handlerX_ok mixed preROK (by decide) 6
/-- the draughts of a schedule, as they are handed on -/
def drows (b : Int) (k : Nat) : List Int → List (List D)
  | [] => []
  | h :: l => [drD k b h] :: drows h (k + 1) l
theorem drows_drop {b : Int} {k : Nat} {th : List Int} (h : k < th.length) : drows b k (th.drop k) = [drD k b th[k]] :: drows th[k] (k + 1) (th.drop (k + 1)) := by
  rw [List.drop_eq_getElem_cons h]; rfl
theorem bfr_succ {b : Int} {th : List Int} {k : Nat} (h : k < th.length) : bfr b th (k + 1) = th[k] := by simp [bfr, List.getD, List.getElem?_eq_getElem h]
theorem runDo (r : Ru) (c0 c1 : Nat) (nm : List UInt8) (th : List Int) (hth : th.length < 1000000000) :
    CallS Try.prog 96 [.func (.yield 915) #[] #[], .pointer (some ⟨500, 0, none⟩), .pointer (some ⟨501, 0, none⟩)] [(915, .yld false (some (drows r.st 0 th))), (500, .cells [.int .i64 r.w, .int .i64 r.st, .int .i64 r.fi, .int .i64 r.hlo, .int .i64 r.hhi, .int .i64 r.co, .slice (some ⟨502, 0, none⟩) r.ss.length c0, .int .i64 r.slo, .int .i64 r.shi, .int .i64 r.flo, .int .i64 r.fhi] 95 false 1), (501, .cells [.string (bs nm), .slice (some ⟨503, 0, none⟩) th.length c1] 29 false 1), (502, .sym (vs5 r.ss) false 5), (503, .sym (vi th) false 1)] EndY := by
  let st : Nat → Slots × Blocks := fun i => R.zDo1 (bfr r.st th i) th.length c1 th.length i (drows (bfr r.st th i) i (th.drop i)) (vi th)
  refine callS_JR hokRE mixed [] (L := fun _ x bl => ∃ i, i ≤ th.length ∧ st i = (x, bl)) Try.func96 rfl (.inr rfl) (pts := [0]) (loops := [0]) (by kernel_rfl) (by kernel_rfl) ?_ (fun id q1 q2 => absurd q1 q2) (fun id hid hlt => ?_) (fun id hid hlt => absurd (by obtain rfl := List.mem_singleton.1 hid; decide) hlt)
  · show R.gDo C5 _ (drows r.st 0 th) r.w r.st r.fi r.hlo r.hhi r.co r.slo r.shi r.flo r.fhi r.ss.length c0 (vs5 r.ss) (bs nm) th.length c1 (vi th) _
    rw [R.gDo_text]
    exact ⟨0, Nat.zero_le _, rfl⟩
  · obtain rfl := List.mem_singleton.1 hid
    refine ⟨⟨Nat, st, fun i => i ≤ th.length, fun i => th.length - i, fun s bl h => h, [], [], by kernel_rfl, by kernel_rfl, by decide, ?_⟩⟩
    intro i hi
    refine ⟨fun _ _ _ => False, ?_, (fun id2 q1 _ => by cases q1), (fun id2 q1 => by cases q1), (fun id2 q1 => by cases q1)⟩
    show R.rDo1 C5 _ (bfr r.st th i) th.length c1 th.length i (drows (bfr r.st th i) i (th.drop i)) (vi th) _ _ _
    rw [R.rDo1_text]
    refine bc_dec (fun h => ?_) (fun h => ?_)
    · have hi2 : i < th.length := by omega
      simp only [bc_t h, bc_t (show (0 : Int) ≤ (i : Int) by omega), Int.toNat_natCast, at1 (vi_at th i hi2)]
      refine ⟨_, ⟨drows_drop hi2⟩, ⟨i + 1, hi2, by omega, ?_⟩, ⟨none, rfl, .inr rfl⟩⟩
      show R.zDo1 _ _ _ _ _ _ _ = _
      rw [bfr_succ hi2, w64 (by omega) (by omega)]; rfl
    · show (if 0 = 0 then _ else _)
      rw [if_pos rfl]
      show R.nDo2 C5 _ (drows (bfr r.st th i) i (th.drop i)) _
      rw [R.nDo2_text]
      have : i = th.length := by omega
      have e : drows (bfr r.st th i) i (th.drop i) = [] := by rw [this, List.drop_length, drows]
      rw [e]
      exact ⟨some [], rfl, .inl rfl⟩
end Go.Proofs.G5p

/- Chapter 3: reductions and lengths of a schedule, in data. -/
namespace Go.Proofs.G5p
open Go Go.Abs Go.Proofs Go.Str
set_option maxRecDepth 100000
end Go.Proofs.G5p

/- What a good world's variables hold, as the library's contracts ask it. -/
namespace Go.Abs
variable {P : Program} {w : World}
end Go.Abs

/- Chapter 3: what the frames of the laws share. -/
namespace Go.Proofs.Yteadiejdhplokaa.K
open Go Go.Abs Go.RowKit Go.ChangeShapes Go.WideShapes Go.ChangeAt Go.Proofs Go.Flat
set_option maxRecDepth 100000
theorem own : ownKnob Try.prog.godebug = none := by kernel_rfl
theorem laidP : laidOutB Try.prog = true := by kernel_rfl
theorem mapsP : mapsRowed Try.prog = true := by kernel_rfl
theorem slicesP : ∀ t e, t < Try.prog.types.size → Try.prog.underlying t = some (.slice e) → 0 < Try.prog.cellsOf e := slices_full_of Try.prog (by kernel_rfl)
theorem tsP {l : List TypeId} (h : l.all (fun t => decide (t < Try.prog.types.size)) = true) : ∀ t ∈ l, t < Try.prog.types.size := fun t ht => of_decide_eq_true (List.all_eq_true.1 h t ht)
theorem flat_vi : ∀ l : List Int, (l.flatMap fun a => [Value.int .i64 a]) = vi l
  | [] => rfl
  | a :: r => by rw [List.flatMap_cons, flat_vi r]; rfl
/-- lists of whole numbers -/
theorem leaf_ints {t e : TypeId} {d : D} (ht : Try.prog.underlying t = some (.slice e)) (he : leaves Try.prog 10 e = some [.int .i64]) (h : LeafD Try.prog t d) : d = .nil ∨ ∃ l : List Int, d = .sl l.length 1 (vi l) := by
  unfold LeafD at h
  rw [ht] at h
  simp only at h
  rcases h with h | ⟨n, cs, L, rfl, hL, hn, hl, hc⟩
  · exact .inl h
  · rw [he] at hL
    obtain rfl := Option.some.inj hL
    simp only [List.length_cons, List.length_nil, Nat.zero_add] at hl hc ⊢
    obtain ⟨ps, hp, rfl⟩ := chunks_of (f := fun a : Int => [Value.int .i64 a]) (k := 1) (fun _ => rfl) n cs hl (fun i hi => by
      have := hc i hi
      generalize (cs.drop (i * 1)).take 1 = x at this ⊢
      cases this with
      | cons h t => cases t; obtain ⟨a, rfl, _⟩ := h; exact ⟨a, rfl⟩)
    refine .inr ⟨ps, ?_⟩
    rw [hp]
    rw [flat_vi]
theorem leaf_int {t : TypeId} {d : D} (ht : Try.prog.underlying t = some (.int .i64)) (h : LeafD Try.prog t d) : ∃ n : Int, d = dI n ∧ (-9223372036854775808 ≤ n ∧ n ≤ 9223372036854775807) := by
  unfold LeafD at h
  rw [ht] at h
  obtain ⟨n, rfl, hw⟩ := h
  exact ⟨n, rfl, wf64 hw⟩
end Go.Proofs.Yteadiejdhplokaa.K
namespace Go.Proofs.Yteadiejdhplokaa.K
open Go Go.Abs Go.RowKit Go.ChangeShapes Go.WideShapes Go.ChangeAt Go.Proofs Go.Flat
set_option maxRecDepth 100000
/-- lists of five whole numbers -/
theorem leaf_fvs {t e : TypeId} {d : D} (ht : Try.prog.underlying t = some (.slice e)) (he : leaves Try.prog 10 e = some [.int .i64, .int .i64, .int .i64, .int .i64, .int .i64]) (h : LeafD Try.prog t d) : d = .nil ∨ ∃ l : List Fv, d = .sl l.length 5 (vs5 l) := by
  unfold LeafD at h
  rw [ht] at h
  simp only at h
  rcases h with h | ⟨n, cs, L, rfl, hL, hn, hl, hc⟩
  · exact .inl h
  · rw [he] at hL
    obtain rfl := Option.some.inj hL
    simp only [List.length_cons, List.length_nil, Nat.zero_add] at hl hc ⊢
    obtain ⟨ps, hp, rfl⟩ := chunks_of (f := Fv.row) (k := 5) (fun _ => rfl) n cs hl (fun i hi => by
      have := hc i hi
      generalize (cs.drop (i * 5)).take 5 = x at this ⊢
      cases this with | cons h1 t => cases t with | cons h2 t => cases t with | cons h3 t => cases t with | cons h4 t => cases t with | cons h5 t =>
      cases t
      obtain ⟨a, rfl, _⟩ := h1
      obtain ⟨b, rfl, _⟩ := h2
      obtain ⟨c, rfl, _⟩ := h3
      obtain ⟨d, rfl, _⟩ := h4
      obtain ⟨e, rfl, _⟩ := h5
      exact ⟨⟨a, b, c, d, e⟩, rfl⟩)
    exact .inr ⟨ps, by rw [hp]; rfl⟩
open Go.Str in
theorem leaf_str {t : TypeId} {d : D} (ht : Try.prog.underlying t = some .string) (h : LeafD Try.prog t d) : ∃ s : List UInt8, d = G5p.dS s := by
  unfold LeafD at h
  rw [ht] at h
  obtain ⟨s, rfl, _⟩ := h
  exact ⟨s.data.toList, by show _ = D.val _; rw [Go.Str.bs_data]⟩
theorem good0 (W : World) : GoodW Try.prog W := fun p hp => by
  rw [show varsOf Try.prog = [] by kernel_rfl] at hp
  cases hp
end Go.Proofs.Yteadiejdhplokaa.K

/- Chapter 3: materials, in data. -/
namespace Go.Proofs.G5p
open Go Go.Abs Go.Proofs Go.Str
set_option maxRecDepth 100000
theorem conCI (lo hi n : Int) : C5 60 [.agg [dI lo, dI hi], dI n] [dI (wE lo hi [n])] := by
  refine con_flat hokP mixed Try.func60 rfl (by show 0 ≤ 400; omega) rfl (by kernel_rfl) (fun caps => ?_)
  show gCI _ _ lo hi n _
  rw [gCI_text]
  try simp only [Qv, eq_self, true_and, and_true]
  exact ⟨_, ⟨conCW lo hi [n] (by simp)⟩, rfl⟩
/-- the losses' error, with its index -/
def lsE : Int → List Fv → List Int → Int × Int
  | i, s :: ss, l :: ls => if s.d ≤ l ∧ l ≤ s.e then lsE (i + 1) ss ls else (i, 2)
  | _, _, _ => (0, 0)
def matB (r : Ru) (ms mf mh : Int) : Prop := (r.slo ≤ ms ∧ ms ≤ r.shi) ∧ (r.flo ≤ mf ∧ mf ≤ r.fhi) ∧ r.hlo ≤ mh ∧ mh ≤ r.hhi
instance (r : Ru) (ms mf mh : Int) : Decidable (matB r ms mf mh) := by unfold matB; infer_instance
def matE (r : Ru) (ms mf mh : Int) (ls : List Int) : Int × Int := if matB r ms mf mh then if ls.length = r.ss.length then lsE 0 r.ss ls else (0, 10) else (0, 2)
def matP (r : Ru) (ms mf mh : Int) (ls : List Int) : Int × Int := if (chk r).2 = 0 then matE r ms mf mh ls else (0, (chk r).2)
abbrev maD (ms mf mh : Int) (ls : List Int) : D := .agg [dI ms, dI mf, dI mh, .sl ls.length 1 (vi ls)]
abbrev maN (ms mf mh : Int) : D := .agg [dI ms, dI mf, dI mh, .nil]
theorem lsE_drop {ss : List Fv} {ls : List Int} {i : Nat} (h1 : i < ss.length) (h2 : i < ls.length) : lsE i (ss.drop i) (ls.drop i) = if ss[i].d ≤ ls[i] ∧ ls[i] ≤ ss[i].e then lsE ((i + 1 : Nat) : Int) (ss.drop (i + 1)) (ls.drop (i + 1)) else ((i : Int), 2) := by
  rw [List.drop_eq_getElem_cons h1, List.drop_eq_getElem_cons h2]; rfl
theorem vs5_two {l : List Fv} {i : Nat} (h : i < l.length) : At (vs5 l) (0 + i * 5 + 3) 2 [.int .i64 l[i].d, .int .i64 l[i].e] := by
  refine ⟨by rw [vs5_length]; omega, ?_⟩
  rw [Nat.zero_add, ← List.drop_drop, vs5_drop, List.drop_eq_getElem_cons h, vs5_cons]
  simp [Fv.row]
theorem lsE_end (i : Int) (ss : List Fv) : lsE i ss [] = (0, 0) := by cases ss <;> rfl
theorem conKM (r : Ru) (ms mf mh : Int) (ls : List Int) (hlen : r.ss.length < 1000000000) (_hls : ls.length < 1000000000) : C5 20 [r.d, maD ms mf mh ls] [dI (matP r ms mf mh ls).1, dI (matP r ms mf mh ls).2] := by
  let inv : Nat × Nat × Nat → Prop := fun x => x.1 ≤ ls.length ∧ ls.length = r.ss.length ∧ matP r ms mf mh ls = lsE x.1 (r.ss.drop x.1) (ls.drop x.1)
  let st : Nat × Nat × Nat → Slots × Blocks := fun x => zKM1 ls.length x.2.1 ls.length x.1 r.w r.st r.fi r.hlo r.hhi r.co r.ss.length x.2.2 r.slo r.shi r.flo r.fhi (vi ls) (vs5 r.ss)
  refine con_of (L := fun _ s b => ∃ x, inv x ∧ st x = (s, b)) hokP mixed Try.func20 rfl (by show 2 ≤ 400; omega) rfl (ids := [0]) (by kernel_rfl) rfl (fun caps => ?_) (fun id hid => ?_)
  · show gKM _ _ r.w r.st r.fi r.hlo r.hhi r.co r.ss.length (caps 500) (vs5 r.ss) r.slo r.shi r.flo r.fhi ms mf mh ls.length (caps 501) (vi ls) _
    rw [gKM_text]
    simp only [bc_t (v5le r.ss), v5_whole, Qv, eq_self, true_and, and_true]
    refine ⟨_, _, ⟨conKR r hlen⟩, bc_bne (fun h => ?_) (fun h => ?_)⟩
    · show [dI 0, dI _] = _
      rw [matP, if_neg h]
    · refine ⟨_, ⟨conCI r.slo r.shi ms⟩, _, ⟨conCI r.flo r.fhi mf⟩, _, ⟨conCI r.hlo r.hhi mh⟩, _, ⟨conFE [_, _, _] (by simp)⟩, ?_⟩
      rw [wE1, wE1, wE1]
      have e : fst0 [if r.slo ≤ ms ∧ ms ≤ r.shi then (0 : Int) else 2, if r.flo ≤ mf ∧ mf ≤ r.fhi then 0 else 2, if r.hlo ≤ mh ∧ mh ≤ r.hhi then 0 else 2] = if matB r ms mf mh then 0 else 2 := by
        have two : ∀ {c : Prop} [Decidable c] (l : List Int) , ¬ c → fst0 ((if c then 0 else 2) :: l) = 2 := fun l h => by rw [if_neg h]; rfl
        by_cases g1 : r.slo ≤ ms ∧ ms ≤ r.shi
        · rw [if_pos g1, fst0_z]
          by_cases g2 : r.flo ≤ mf ∧ mf ≤ r.fhi
          · rw [if_pos g2, fst0_z]
            by_cases g3 : r.hlo ≤ mh ∧ mh ≤ r.hhi
            · rw [if_pos g3, if_pos (show matB r ms mf mh from ⟨g1, g2, g3⟩)]; rfl
            · rw [two _ g3, if_neg (show ¬ matB r ms mf mh from fun h => g3 h.2.2)]
          · rw [two _ g2, if_neg (show ¬ matB r ms mf mh from fun h => g2 h.2.1)]
        · rw [two _ g1, if_neg (show ¬ matB r ms mf mh from fun h => g1 h.1)]
      rw [e]
      by_cases hm : matB r ms mf mh
      · rw [if_pos hm, bc_nf]
        refine bc_bne (fun h2 => ?_) (fun h2 => ?_)
        · show [dI 0, dI 10] = _
          rw [matP, if_pos h, matE, if_pos hm, if_neg (by omega)]
        · exact ⟨(0, caps 501, caps 500), ⟨Nat.zero_le _, by omega, by rw [matP, if_pos h, matE, if_pos hm, if_pos (by omega)]; rfl⟩, rfl⟩
      · rw [if_neg hm, bc_n (show (2 : Int) ≠ 0 by decide)]
        show [dI 0, dI 2] = _
        rw [matP, if_pos h, matE, if_neg hm]
  · obtain rfl := List.mem_singleton.1 hid
    refine ⟨Nat × Nat × Nat, st, inv, fun x => ls.length - x.1, ⟨fun s b h => h, by kernel_rfl, ?_⟩⟩
    rintro ⟨i, c1, c2⟩ ⟨hi', he, hr⟩
    simp only at hi' hr
    show rKM1 _ _ ls.length c1 ls.length i r.w r.st r.fi r.hlo r.hhi r.co r.ss.length c2 r.slo r.shi r.flo r.fhi (vi ls) (vs5 r.ss) _ _ _
    rw [rKM1_text]
    refine bc_dec (fun h => ?_) (fun h => ?_)
    · have hi2 : i < ls.length := by omega
      have hi3 : i < r.ss.length := by omega
      rw [lsE_drop hi3 hi2] at hr
      have a2 : At (vs5 r.ss) (Go.Addr.off { block := 500, off := 0 + i * 5 } + 3) 2 [.int .i64 r.ss[i].d, .int .i64 r.ss[i].e] := vs5_two hi3
      simp only [bc_t h, bc_t (show (0 : Int) ≤ (i : Int) by omega), bc_t (show (i : Int) < (r.ss.length : Int) by omega), Int.toNat_natCast, at1 (vi_at ls i hi2), at2 a2]
      refine ⟨_, ⟨conCI r.ss[i].d r.ss[i].e ls[i]⟩, ?_⟩
      rw [wE1]
      by_cases h3 : r.ss[i].d ≤ ls[i] ∧ ls[i] ≤ r.ss[i].e
      · rw [if_pos h3] at hr
        rw [if_pos h3, bc_nf]
        refine ⟨(i + 1, c1, c2), ⟨hi2, he, hr⟩, by show ls.length - (i + 1) < ls.length - i; omega, ?_⟩
        rw [w64 (by omega) (by omega)]; rfl
      · rw [if_neg h3] at hr
        rw [if_neg h3, bc_n (show (2 : Int) ≠ 0 by decide)]
        show [dI (i : Int), dI 2] = _
        rw [hr]
    · show (if 0 = 0 then _ else _)
      rw [if_pos rfl]
      show nKM2 _ _ _
      rw [nKM2_text]
      have : i = ls.length := by omega
      rw [this, List.drop_length, lsE_end] at hr
      show [dI 0, dI 0] = _
      rw [hr]
theorem conRC0 (r : Ru) (ms mf mh : Int) (ls : List Int) (hlen : r.ss.length < 1000000000) : C5 24 [r.d, maD ms mf mh ls] [dI (matE r ms mf mh ls).1, dI (matE r ms mf mh ls).2] := by
  let inv : Nat × Nat × Nat → Prop := fun x => x.1 ≤ ls.length ∧ ls.length = r.ss.length ∧ matE r ms mf mh ls = lsE x.1 (r.ss.drop x.1) (ls.drop x.1)
  let st : Nat × Nat × Nat → Slots × Blocks := fun x => zRC1 x.1 r.w r.st r.fi r.hlo r.hhi r.co r.ss.length x.2.1 r.slo r.shi r.flo r.fhi ms mf mh ls.length x.2.2 (vs5 r.ss) (vi ls)
  refine con_of (L := fun _ s b => ∃ x, inv x ∧ st x = (s, b)) hokP mixed Try.func24 rfl (by show 2 ≤ 400; omega) rfl (ids := [0]) (by kernel_rfl) rfl (fun caps => ?_) (fun id hid => ?_)
  · show gRC _ _ r.w r.st r.fi r.hlo r.hhi r.co r.ss.length (caps 500) (vs5 r.ss) r.slo r.shi r.flo r.fhi ms mf mh ls.length (caps 501) (vi ls) _
    rw [gRC_text]
    have bad : ¬ matB r ms mf mh → [dI 0, dI 2] = [dI (matE r ms mf mh ls).1, dI (matE r ms mf mh ls).2] := fun h => by rw [matE, if_neg h]
    refine sayW (fun h1 => ?_) (fun h1 => bad (fun h => h1 h.1))
    refine sayW (fun h2 => ?_) (fun h2 => bad (fun h => h2 h.2.1))
    refine sayW (fun h3 => ?_) (fun h3 => bad (fun h => h3 h.2.2))
    have hm : matB r ms mf mh := ⟨h1, h2, h3⟩
    refine bc_bne (fun h4 => ?_) (fun h4 => ?_)
    · show [dI 0, dI 10] = _
      rw [matE, if_pos hm, if_neg (by omega)]
    · exact ⟨(0, caps 500, caps 501), ⟨Nat.zero_le _, by omega, by rw [matE, if_pos hm, if_pos (by omega)]; rfl⟩, rfl⟩
  · obtain rfl := List.mem_singleton.1 hid
    refine ⟨Nat × Nat × Nat, st, inv, fun x => ls.length - x.1, ⟨fun s b h => h, by kernel_rfl, ?_⟩⟩
    rintro ⟨i, c1, c2⟩ ⟨hi', he, hr⟩
    simp only at hi' hr
    show rRC1 _ _ i r.w r.st r.fi r.hlo r.hhi r.co r.ss.length c1 r.slo r.shi r.flo r.fhi ms mf mh ls.length c2 (vs5 r.ss) (vi ls) _ _ _
    rw [rRC1_text]
    refine bc_dec (fun h => ?_) (fun h => ?_)
    · have hi2 : i < ls.length := by omega
      have hi3 : i < r.ss.length := by omega
      rw [lsE_drop hi3 hi2] at hr
      have a2 : At (vs5 r.ss) (Go.Addr.off { block := 500, off := 0 + i * 5 } + 3) 1 [.int .i64 r.ss[i].d] := vs5_one r.ss i hi3 3 _ rfl
      have a3 : At (vs5 r.ss) (Go.Addr.off (Go.Addr.add { block := 500, off := 0 + i * 5 } 3) + 1) 1 [.int .i64 r.ss[i].e] := vs5_one r.ss i hi3 4 _ rfl
      have a4 : At (vs5 r.ss) (Go.Addr.off { block := 500, off := Go.Addr.off { block := 500, off := 0 + i * 5 } + 3 } + 1) 1 [.int .i64 r.ss[i].e] := a3
      have pe : (Value.pointer (some (Go.Addr.mk 500 (Go.Addr.off { block := 500, off := Go.Addr.off { block := 500, off := 0 + i * 5 } + 3 } + 1) none)) = Value.pointer (some (Go.Addr.mk 500 (Go.Addr.off (Go.Addr.add { block := 500, off := 0 + i * 5 } 3) + 1) none))) = True := eq_true rfl
      simp only [bc_t h, bc_t (show (0 : Int) ≤ (i : Int) by omega), bc_t (show (i : Int) < (r.ss.length : Int) by omega), Int.toNat_natCast, at1 (vi_at ls i hi2), at1 a2, at1 a3, pe, Qv, eq_self, true_and, and_true]
      refine sayW (fun h3 => ?_) (fun h3 => ?_)
      · rw [if_pos h3] at hr
        refine ⟨(i + 1, c1, c2), ⟨hi2, he, hr⟩, by show ls.length - (i + 1) < ls.length - i; omega, ?_⟩
        rw [w64 (by omega) (by omega)]; rfl
      · rw [if_neg h3] at hr
        show [dI (i : Int), dI 2] = _
        rw [hr]
    · show (if 0 = 0 then _ else _)
      rw [if_pos rfl]
      show nRC2 _ _ _
      rw [nRC2_text]
      have : i = ls.length := by omega
      rw [this, List.drop_length, lsE_end] at hr
      show [dI 0, dI 0] = _
      rw [hr]
theorem conRCn (r : Ru) (ms mf mh : Int) (h0 : 0 < r.ss.length) (hlen : r.ss.length < 1000000000) : C5 24 [r.d, maN ms mf mh] [dI (matE r ms mf mh []).1, dI (matE r ms mf mh []).2] := by
  refine con_of (L := fun _ s b => False) hokP mixed Try.func24 rfl (by show 1 ≤ 400; omega) rfl (ids := [0]) (by kernel_rfl) rfl (fun caps => ?_) (fun id hid => ?_)
  · show gRCn _ _ r.w r.st r.fi r.hlo r.hhi r.co r.ss.length (caps 500) (vs5 r.ss) r.slo r.shi r.flo r.fhi ms mf mh _
    rw [gRCn_text]
    have bad : ¬ matB r ms mf mh → [dI 0, dI 2] = [dI (matE r ms mf mh []).1, dI (matE r ms mf mh []).2] := fun h => by rw [matE, if_neg h]
    refine sayW (fun h1 => ?_) (fun h1 => bad (fun h => h1 h.1))
    refine sayW (fun h2 => ?_) (fun h2 => bad (fun h => h2 h.2.1))
    refine sayW (fun h3 => ?_) (fun h3 => bad (fun h => h3 h.2.2))
    have hm : matB r ms mf mh := ⟨h1, h2, h3⟩
    refine bc_bne (fun h4 => ?_) (fun h4 => absurd h4 (by omega))
    show [dI 0, dI 10] = _
    rw [matE, if_pos hm, if_neg (by simp; omega)]
  · obtain rfl := List.mem_singleton.1 hid
    exact ⟨Unit, fun _ => ([], []), fun _ => False, fun _ => 0, ⟨fun s b h => h.elim, by kernel_rfl, fun _ h => h.elim⟩⟩
end Go.Proofs.G5p

/- Chapter 3: whether a schedule holds, in data. -/
namespace Go.Proofs.G5p
open Go Go.Abs Go.Proofs Go.Str
set_option maxRecDepth 100000
/-- one draught's margins: none is surely not -/
def ansR (a : Int) : List (Int × Int) → Option Int
  | [] => some a
  | p :: r => if p.2 < 0 then none else ansR (if p.1 < 0 then 1 else a) r
def ansD (r : Ru) : Nat → Int → Int → List Int → Int
  | _, _, a, [] => a
  | k, b, a, h :: l => match ansR a (mar r k b h) with
    | none => 0
    | some a' => ansD r (k + 1) h a' l
theorem ansD_drop (r : Ru) {k : Nat} {a b : Int} {th : List Int} (hk : k < th.length) : ansD r k b a (th.drop k) = match ansR a (mar r k b th[k]) with | none => 0 | some a' => ansD r (k + 1) th[k] a' (th.drop (k + 1)) := by
  rw [List.drop_eq_getElem_cons hk]; rfl
structure VR (r : Ru) (th : List Int) : Prop where
  v : VS r th
  sts : ∀ s ∈ r.ss, stB s
theorem VR.dr {r : Ru} {th : List Int} (v : VR r th) {i : Nat} (hi : i < th.length) : DrOK r i (bfr r.st th i) th[i] := by
  have h := v.v.at hi
  have hl := v.v.len
  exact ⟨v.v.rng, v.sts, by omega, v.v.n6, by omega, by omega, by omega⟩
theorem conaF (r : Ru) (nm : List UInt8) (th : List Int) (v : VR r th) : C5 64 [r.d, scD nm th] [dI (ansD r 0 r.st 2 th)] := by
  have hl := v.v.len
  have h6 := v.v.n6
  have h0 := v.v.n0
  refine con_JR hokRP mixed [] (L := fun _ s b => ∃ c0 c1, R.zaF1 r.w r.st r.fi r.hlo r.hhi r.co r.ss.length c0 r.slo r.shi r.flo r.fhi 0 2 r.w r.st r.fi r.hlo r.hhi r.co r.ss.length c0 r.slo r.shi r.flo r.fhi (bs nm) th.length c1 (vs5 r.ss) (vi th) = (s, b)) Try.func64 rfl (by show 2 ≤ 400; omega) rfl (pts := [50003]) (loops := [50003]) (by kernel_rfl) (by kernel_rfl) (fun caps _ => ?_) (fun id q1 q2 => absurd q1 q2) (fun id hid hlt => absurd hlt (by obtain rfl := List.mem_singleton.1 hid; decide)) (fun id hid hlt => ?_)
  · show R.gaF C5 _ r.w r.st r.fi r.hlo r.hhi r.co r.ss.length (caps 500) (vs5 r.ss) r.slo r.shi r.flo r.fhi (bs nm) th.length (caps 501) (vi th) _
    rw [R.gaF_text]
    exact ⟨caps 500, caps 501, rfl⟩
  · obtain rfl := List.mem_singleton.1 hid
    refine ⟨⟨?_⟩⟩
    rintro s b ⟨c0, c1, e⟩
    cases e
    show R.haF1 r.w r.st r.fi r.hlo r.hhi r.co r.ss.length c0 r.slo r.shi r.flo r.fhi 0 2 r.w r.st r.fi r.hlo r.hhi r.co r.ss.length c0 r.slo r.shi r.flo r.fhi (bs nm) th.length c1 (vs5 r.ss) (vi th) _
    rw [R.haF1_text]
    let st : Int → Slots × Blocks := fun a => R.zaF2 r.w r.st r.fi r.hlo r.hhi r.co r.ss.length c0 r.slo r.shi r.flo r.fhi 0 a (vs5 r.ss)
    refine ⟨drows r.st 0 th, fun rest s b => ∃ i a, i ≤ th.length ∧ rest = drows (bfr r.st th i) i (th.drop i) ∧ ansD r 0 r.st 2 th = ansD r i (bfr r.st th i) a (th.drop i) ∧ st a = (s, b), runDo r c0 c1 nm th (by omega), ⟨0, 2, Nat.zero_le _, rfl, rfl, rfl⟩, ?_, ?_⟩
    · rintro row rest s b ⟨i, a, hi, e1, ha, e2⟩
      have hi2 : i < th.length := by
        refine Nat.lt_of_le_of_ne hi (fun h => ?_)
        rw [h, List.drop_length] at e1; cases e1
      rw [drows_drop hi2] at e1
      obtain ⟨rfl, rfl⟩ := List.cons.inj e1
      rw [ansD_drop r hi2] at ha
      cases e2
      have hd := v.dr hi2
      show R.waF2 C5 r.w r.st r.fi r.hlo r.hhi r.co r.ss.length c0 r.slo r.shi r.flo r.fhi 0 a (vs5 r.ss) (i : Int) (bfr r.st th i) th[i] _ _
      rw [R.waF2_text]
      intro caps
      rw [bc_t (v5le r.ss), v5_whole]
      have go : ∀ a', ansR a (mar r i (bfr r.st th i) th[i]) = some a' → ∃ j x, j ≤ th.length ∧ drows th[i] (i + 1) (th.drop (i + 1)) = drows (bfr r.st th j) j (th.drop j) ∧ ansD r 0 r.st 2 th = ansD r j (bfr r.st th j) x (th.drop j) ∧ st x = st a' := fun a' h => by
        rw [h] at ha
        exact ⟨i + 1, a', hi2, by rw [bfr_succ hi2], by rw [bfr_succ hi2]; exact ha, rfl⟩
      have no : ansR a (mar r i (bfr r.st th i) th[i]) = none → [dI 0] = [dI (ansD r 0 r.st 2 th)] := fun h => by
        rw [h] at ha; rw [ha]
      refine ⟨_, _, _, _, _, _, _, _, ⟨conma r i (bfr r.st th i) th[i] hd⟩, ?_⟩
      simp only [mar, ansR] at go no
      repeat' refine bc_dec (fun _ => ?_) (fun _ => ?_)
      all_goals first
        | (refine go _ ?_; simp [*]; done)
        | (show R.naF4 C5 _ r.w r.st r.fi r.hlo r.hhi r.co r.ss.length c0 r.slo r.shi r.flo r.fhi 0 _ (vs5 r.ss) _; rw [R.naF4_text]; refine no ?_; simp [*]; done)
    · rintro s b ⟨i, a, hi, e1, ha, e2⟩
      have hi2 : i = th.length := Decidable.byContradiction fun h => by
        rw [drows_drop (show i < th.length by omega)] at e1; cases e1
      cases e2
      rw [hi2, List.drop_length, ansD] at ha
      show R.naF3 C5 _ r.w r.st r.fi r.hlo r.hhi r.co r.ss.length c0 r.slo r.shi r.flo r.fhi 0 a (vs5 r.ss) _
      rw [R.naF3_text, ha]
end Go.Proofs.G5p

/- Chapter 3: the mill for one material, in data. -/
namespace Go.Proofs.G5p
open Go Go.Abs Go.Proofs Go.Str
set_option maxRecDepth 100000
/-- the stands with one material's losses -/
def rolL : List Fv → List Int → List Fv
  | s :: ss, l :: ls => ⟨s.a, s.b, s.c, l, l⟩ :: rolL ss ls
  | ss, _ => ss
theorem rolL_len : ∀ (ss : List Fv) (ls : List Int), (rolL ss ls).length = ss.length
  | [], [] => rfl
  | [], _ :: _ => rfl
  | _ :: _, [] => rfl
  | s :: ss, l :: ls => by simp only [rolL, List.length_cons, rolL_len ss ls]
theorem rolL_nil (ss : List Fv) : rolL ss [] = ss := by cases ss <;> rfl
theorem listSet_v5 : ∀ (l : List Fv) (k : Nat) (w : Int) (h : k < l.length), listSet (vs5 l) (0 + k * 5 + 3) [vI w, vI w] = vs5 (l.set k ⟨l[k].a, l[k].b, l[k].c, w, w⟩)
  | p :: r, 0, w, _ => by simp [listSet, vs5_cons, Fv.row]
  | p :: r, k + 1, w, h => by
    have ih := listSet_v5 r k w (by simpa using h)
    rw [Nat.zero_add] at ih ⊢
    have e : (k + 1) * 5 + 3 = (k * 5 + 3) + 5 := by omega
    rw [e, List.set_cons_succ, vs5_cons, vs5_cons]
    simp only [List.getElem_cons_succ]
    rw [← ih]
    simp [listSet, Fv.row, Nat.add_assoc]
theorem rolL_set : ∀ (ss : List Fv) (ls : List Int) (i : Nat) (h1 : i < ls.length) (h2 : i < ss.length), (rolL ss (ls.take i)).set i ⟨((rolL ss (ls.take i))[i]'(by rw [rolL_len]; exact h2)).a, ((rolL ss (ls.take i))[i]'(by rw [rolL_len]; exact h2)).b, ((rolL ss (ls.take i))[i]'(by rw [rolL_len]; exact h2)).c, ls[i], ls[i]⟩ = rolL ss (ls.take (i + 1))
  | s :: ss, l :: ls, 0, _, _ => by simp [rolL, rolL_nil]
  | s :: ss, l :: ls, i + 1, h1, h2 => by
    have ih := rolL_set ss ls i (by simpa using h1) (by simpa using h2)
    simp only [List.take_succ_cons, rolL, List.set_cons_succ, List.getElem_cons_succ]
    rw [ih]
/-- the mill for one material alone -/
def rolR (r : Ru) (ms mf mh : Int) (ls : List Int) : Ru := ⟨r.w, r.st, r.fi, mh, mh, r.co, rolL r.ss ls, ms, ms, mf, mf⟩
theorem conro (r : Ru) (ms mf mh : Int) (ls : List Int) (h0 : 0 < r.ss.length) (h8 : r.ss.length ≤ 8) (hls : ls.length = r.ss.length) : C5 61 [r.d, maD ms mf mh ls] [(rolR r ms mf mh ls).d] := by
  let inv : Nat × Nat → Prop := fun x => x.1 ≤ ls.length
  let st : Nat × Nat → Slots × Blocks := fun x => zro1 ls.length x.2 ls.length x.1 r.w r.st r.fi mh mh r.co r.ss.length ms ms mf mf 0 0 0 0 0 0 0 0 0 0 (vi ls) (vs5 (rolL r.ss (ls.take x.1)))
  refine con_of (L := fun _ s b => ∃ x, inv x ∧ st x = (s, b)) hokP mixed Try.func61 rfl (by show 2 ≤ 400; omega) rfl (ids := [0]) (by kernel_rfl) rfl (fun caps => ?_) (fun id hid => ?_)
  · show gro _ _ r.w r.st r.fi r.hlo r.hhi r.co r.ss.length (caps 500) (vs5 r.ss) r.slo r.shi r.flo r.fhi ms mf mh ls.length (caps 501) (vi ls) _
    rw [gro_text]
    simp only [bc_t (v5le r.ss), v5_whole, Qv, eq_self, true_and, and_true]
    refine bc_beq (fun h => by omega) (fun _ => ?_)
    rw [bc_t (by omega), bc_t (by omega), bc_t (by omega)]
    refine ⟨(0, caps 501), Nat.zero_le _, ?_⟩
    show zro1 _ _ _ _ _ _ _ _ _ _ _ _ _ _ _ _ _ _ _ _ _ _ _ _ _ _ _ = _
    simp only [List.take_zero, rolL_nil, Nat.zero_add, List.nil_append]; rfl
  · obtain rfl := List.mem_singleton.1 hid
    refine ⟨Nat × Nat, st, inv, fun x => ls.length - x.1, ⟨fun s b h => h, by kernel_rfl, ?_⟩⟩
    rintro ⟨i, c1⟩ hi
    have hi : i ≤ ls.length := hi
    show rro1 _ _ ls.length c1 ls.length i r.w r.st r.fi mh mh r.co r.ss.length ms ms mf mf 0 0 0 0 0 0 0 0 0 0 (vi ls) (vs5 (rolL r.ss (ls.take i))) _ _ _
    rw [rro1_text]
    have el : (vs5 (rolL r.ss (ls.take i))).length = r.ss.length * 5 := by rw [vs5_length, rolL_len]
    refine bc_dec (fun h => ?_) (fun h => ?_)
    · have hi2 : i < ls.length := by omega
      have hi3 : i < r.ss.length := by omega
      have hi4 : i < (rolL r.ss (ls.take i)).length := by rw [rolL_len]; exact hi3
      have hs : Go.Addr.off { block := 1002, off := 0 + i * 5 } + 3 + 2 ≤ (vs5 (rolL r.ss (ls.take i))).length := by
        show 0 + i * 5 + 3 + 2 ≤ _
        rw [el]; omega
      simp only [bc_t h, bc_t (show (0 : Int) ≤ (i : Int) by omega), bc_t (show (i : Int) < (r.ss.length : Int) by omega), Int.toNat_natCast, at1 (vi_at ls i hi2), bc_t hs, Qv, eq_self, true_and, and_true]
      refine ⟨(i + 1, c1), hi2, by show ls.length - (i + 1) < ls.length - i; omega, ?_⟩
      have e : listSet (vs5 (rolL r.ss (ls.take i))) (0 + i * 5 + 3) [vI ls[i], vI ls[i]] = vs5 (rolL r.ss (ls.take (i + 1))) := by
        rw [listSet_v5 _ _ _ hi4, rolL_set _ _ _ hi2 hi3]
      show zro1 _ _ _ _ _ _ _ _ _ _ _ _ _ _ _ _ _ _ _ _ _ _ _ _ _ _ _ = _
      rw [← e, w64 (by omega) (by omega)]; rfl
    · show (if 0 = 0 then _ else _)
      rw [if_pos rfl]
      have hl : i = ls.length := by omega
      show nro2 _ _ r.w r.st r.fi mh mh r.co r.ss.length ms ms mf mf 0 0 0 0 0 0 0 0 0 0 (vs5 (rolL r.ss (ls.take i))) _
      rw [nro2_text]
      simp only [Qv, true_and]
      refine ⟨el, ?_⟩
      rw [hl, List.take_of_length_le (Nat.le_refl _)]
      simp only [rolR, Ru.d, rolL_len]
end Go.Proofs.G5p

/- What is left to show of each function, written out; the kernel reckons it. -/
namespace Go.Proofs.G5p.R2
open Go Go.Abs Go.Proofs
set_option maxRecDepth 100000
set_option linter.unusedVariables false
abbrev vI (n : Int) : Value := .int .i64 n
abbrev Ct := FuncId → List D → List D → Prop
abbrev Bx := Slots → Blocks → Prop
abbrev Xx := Nat → Slots → Blocks → Prop
abbrev Ex := Exit → Slots → Blocks → Prop
abbrev Kh := FuncId → List Value → Blocks → Slots → Blocks → Prop
abbrev hE (C : Ct) : Handler := handlerX Try.prog (fun _ => none) 12 6
def preP (C : Ct) : FuncId → Option Handler := fun g => if [42, 43, 44, 53, 63, 86, 98, 89, 99, 97, 105].contains g then some (saidH Try.prog C) else none
abbrev hP (C : Ct) : Handler := handlerX Try.prog (preP C) 12 6
def gDp (C : Ct) (L : AtLoop) (rs : List (List D)) (w : Int) (st : Int) (fi : Int) (ha : Int) (hb : Int) (co : Int) (sa : Int) (sb : Int) (fa : Int) (fb : Int) (n0 : Nat) (c0 : Nat) (l0 : List Value) (nm : ByteArray) (n1 : Nat) (c1 : Nat) (l1 : List Value) (K : Value → Blocks → Prop) : Prop := jFn Try.prog (hE C) L [] 96 #[.func (.yield 915) #[] #[], .pointer (some ⟨500, 0, none⟩), .pointer (some ⟨501, 0, none⟩)] (heapOf [(915, .yld false (some rs)), (500, .cells [.int .i64 w, .int .i64 st, .int .i64 fi, .int .i64 ha, .int .i64 hb, .int .i64 co, .slice (some ⟨502, 0, none⟩) n0 c0, .int .i64 sa, .int .i64 sb, .int .i64 fa, .int .i64 fb] 95 false 1), (501, .cells [.string nm, .slice (some ⟨503, 0, none⟩) n1 c1] 29 false 1), (502, .sym l0 true 5), (503, .sym l1 false 1)]) (stateK K)
theorem gDp_text (C : Ct) (L : AtLoop) (rs : List (List D)) (w : Int) (st : Int) (fi : Int) (ha : Int) (hb : Int) (co : Int) (sa : Int) (sb : Int) (fa : Int) (fb : Int) (n0 : Nat) (c0 : Nat) (l0 : List Go.Value) (nm : ByteArray) (n1 : Nat) (c1 : Nat) (l1 : List Go.Value) (K : Go.Value → Blocks → Prop) : gDp C L rs w st fi ha hb co sa sb fa fb n0 c0 l0 nm n1 c1 l1 K =
 (L 0 [(Prod.mk 0 (Value.func (Go.Fn.yield 915) [].toArray [].toArray)), (Prod.mk 4 (vI st)), (Prod.mk 11 (Sl 503 (n1) (c1))), (Prod.mk 12 (vI ((↑n1 : Int)))), (Prod.mk 13 (vI 0))] [(Prod.mk 915 (AObj.yld false (some (rs)))), (Prod.mk 503 (AObj.sym (l1) false 1))]) := by kernel_rfl
abbrev zDp1 (x0 : Int) (n1 : Nat) (c2 : Nat) (x3 : Int) (x4 : Int) (rs5 : List (List D)) (l6 : List Value) : Slots × Blocks := ([(0, (Value.func (.yield 915) #[] #[])), (4, (Value.int .i64 x0)), (11, (Value.slice (some ⟨503, 0, none⟩) n1 c2)), (12, (Value.int .i64 x3)), (13, (Value.int .i64 x4))], [(915, (AObj.yld false (some rs5))), (503, (AObj.sym l6 false 1))])
def rDp1 (C : Ct) (L : AtLoop) (x0 : Int) (n1 : Nat) (c2 : Nat) (x3 : Int) (x4 : Int) (rs5 : List (List D)) (l6 : List Value) (B : Bx) (X : Xx) (K : Value → Blocks → Prop) : Prop := jRound Try.prog (hE C) L [] 96 0 [(0, (Value.func (.yield 915) #[] #[])), (4, (Value.int .i64 x0)), (11, (Value.slice (some ⟨503, 0, none⟩) n1 c2)), (12, (Value.int .i64 x3)), (13, (Value.int .i64 x4))] [(915, (AObj.yld false (some rs5))), (503, (AObj.sym l6 false 1))] B X (stateK K)
theorem rDp1_text (C : Ct) (L : AtLoop) (x0 : Int) (n1 : Nat) (c2 : Nat) (x3 : Int) (x4 : Int) (rs5 : List (List D)) (l6 : List Go.Value) (B : Bx) (X : Xx) (K : Go.Value → Blocks → Prop) : rDp1 C L x0 n1 c2 x3 x4 rs5 l6 B X K =
 (bcase (decide (x4 < x3))
 (bcase (decide (0 ≤ x4))
 (bcase (decide (x4 < (↑n1 : Int)))
 (∃ n2 : Int,
 ((At (l6) (0 + Int.toNat x4 * 1) 1 [(vI n2)]) ∧
 (∃ rest'1 : List (List D),
 ((NextIs (rs5) [(D.agg [(D.val (vI x4)), (D.val (vI x0)), (D.val (vI n2))])] (rest'1)) ∧
 ((B [(Prod.mk 0 (Value.func (Go.Fn.yield 915) [].toArray [].toArray)), (Prod.mk 4 (vI n2)), (Prod.mk 11 (Sl 503 (n1) (c2))), (Prod.mk 12 (vI x3)), (Prod.mk 13 (vI (IntKind.wrap .i64 (x4 + 1))))] [(Prod.mk 915 (AObj.yld false (some (rest'1)))), (Prod.mk 503 (AObj.sym (l6) false 1))]) ∧
 (K (Value.tuple [].toArray) [(Prod.mk 915 (AObj.yld false none))]))))))
 False)
 False)
 (X 0 [] [(Prod.mk 915 (AObj.yld false (some (rs5))))])) := by kernel_rfl
def nDp2 (C : Ct) (L : AtLoop) (rs0 : List (List D)) (K : Value → Blocks → Prop) : Prop := jNext Try.prog (hE C) L [] 96 0 .normal [] [(915, (AObj.yld false (some rs0)))] (stateK K)
theorem nDp2_text (C : Ct) (L : AtLoop) (rs0 : List (List D)) (K : Go.Value → Blocks → Prop) : nDp2 C L rs0 K =
 (K (Value.tuple [].toArray) [(Prod.mk 915 (AObj.yld false (some (rs0))))]) := by kernel_rfl
def geT (C : Ct) (L : AtLoop) (w : Int) (st : Int) (fi : Int) (ha : Int) (hb : Int) (co : Int) (sa : Int) (sb : Int) (fa : Int) (fb : Int) (n0 : Nat) (c0 : Nat) (l0 : List Value) (nm : ByteArray) (n1 : Nat) (c1 : Nat) (l1 : List Value) (K : Value → Blocks → Prop) : Prop := jFn Try.prog (hP C) L [] 51 #[.agg #[.int .i64 w, .int .i64 st, .int .i64 fi, .int .i64 ha, .int .i64 hb, .int .i64 co, .slice (some ⟨500, 0, none⟩) n0 c0, .int .i64 sa, .int .i64 sb, .int .i64 fa, .int .i64 fb], .agg #[.string nm, .slice (some ⟨501, 0, none⟩) n1 c1], .func (.func 62) #[] #[.pointer (some ⟨502, 0, none⟩)]] (heapOf [(500, .sym l0 true 5), (501, .sym l1 false 1), (502, .cells [.int .i64 w, .int .i64 st, .int .i64 fi, .int .i64 ha, .int .i64 hb, .int .i64 co, .slice (some ⟨500, 0, none⟩) n0 c0, .int .i64 sa, .int .i64 sb, .int .i64 fa, .int .i64 fb] 95 false 11)]) (stateK K)
theorem geT_text (C : Ct) (L : AtLoop) (w : Int) (st : Int) (fi : Int) (ha : Int) (hb : Int) (co : Int) (sa : Int) (sb : Int) (fa : Int) (fb : Int) (n0 : Nat) (c0 : Nat) (l0 : List Go.Value) (nm : ByteArray) (n1 : Nat) (c1 : Nat) (l1 : List Go.Value) (K : Go.Value → Blocks → Prop) : geT C L w st fi ha hb co sa sb fa fb n0 c0 l0 nm n1 c1 l1 K =
 (L 50003 [(Prod.mk 5 (Pt 1000 0)), (Prod.mk 6 (Value.slice none 0 0)), (Prod.mk 7 (Pt 1001 0)), (Prod.mk 11 (Value.func (Go.Fn.func 96) [].toArray [(Pt 1002 0), (Pt 1003 0)].toArray))] [(Prod.mk 1000 (AObj.cells [(Value.func (Go.Fn.func 62) [].toArray [(Pt 502 0)].toArray)] 102 false 1)), (Prod.mk 1001 (AObj.cells [(Value.slice none 0 0)] 38 false 1)), (Prod.mk 1002 (AObj.cells [(vI w), (vI st), (vI fi), (vI ha), (vI hb), (vI co), (Sl 500 (n0) (c0)), (vI sa), (vI sb), (vI fa), (vI fb)] 95 false 1)), (Prod.mk 1003 (AObj.cells [(Value.string (nm)), (Sl 501 (n1) (c1))] 29 false 1)), (Prod.mk 502 (AObj.cells [(vI w), (vI st), (vI fi), (vI ha), (vI hb), (vI co), (Sl 500 (n0) (c0)), (vI sa), (vI sb), (vI fa), (vI fb)] 95 false 11)), (Prod.mk 500 (AObj.sym (l0) true 5)), (Prod.mk 501 (AObj.sym (l1) false 1))]) := by kernel_rfl
abbrev zeT1 (x0 : Int) (x1 : Int) (x2 : Int) (x3 : Int) (x4 : Int) (x5 : Int) (n6 : Nat) (c7 : Nat) (x8 : Int) (x9 : Int) (x10 : Int) (x11 : Int) (s12 : ByteArray) (n13 : Nat) (c14 : Nat) (x15 : Int) (x16 : Int) (x17 : Int) (x18 : Int) (x19 : Int) (x20 : Int) (n21 : Nat) (c22 : Nat) (x23 : Int) (x24 : Int) (x25 : Int) (x26 : Int) (l27 : List Value) (l28 : List Value) : Slots × Blocks := ([(5, (Value.pointer (some ⟨1000, 0, none⟩))), (6, (Value.slice none 0 0)), (7, (Value.pointer (some ⟨1001, 0, none⟩))), (11, (Value.func (.func 96) #[] #[(Value.pointer (some ⟨1002, 0, none⟩)), (Value.pointer (some ⟨1003, 0, none⟩))]))], [(1000, (AObj.cells [(Value.func (.func 62) #[] #[(Value.pointer (some ⟨502, 0, none⟩))])] 102 false 1)), (1001, (AObj.cells [(Value.slice none 0 0)] 38 false 1)), (1002, (AObj.cells [(Value.int .i64 x0), (Value.int .i64 x1), (Value.int .i64 x2), (Value.int .i64 x3), (Value.int .i64 x4), (Value.int .i64 x5), (Value.slice (some ⟨500, 0, none⟩) n6 c7), (Value.int .i64 x8), (Value.int .i64 x9), (Value.int .i64 x10), (Value.int .i64 x11)] 95 false 1)), (1003, (AObj.cells [(Value.string s12), (Value.slice (some ⟨501, 0, none⟩) n13 c14)] 29 false 1)), (502, (AObj.cells [(Value.int .i64 x15), (Value.int .i64 x16), (Value.int .i64 x17), (Value.int .i64 x18), (Value.int .i64 x19), (Value.int .i64 x20), (Value.slice (some ⟨500, 0, none⟩) n21 c22), (Value.int .i64 x23), (Value.int .i64 x24), (Value.int .i64 x25), (Value.int .i64 x26)] 95 false 11)), (500, (AObj.sym l27 true 5)), (501, (AObj.sym l28 false 1))])
def heT1 (x0 : Int) (x1 : Int) (x2 : Int) (x3 : Int) (x4 : Int) (x5 : Int) (n6 : Nat) (c7 : Nat) (x8 : Int) (x9 : Int) (x10 : Int) (x11 : Int) (s12 : ByteArray) (n13 : Nat) (c14 : Nat) (x15 : Int) (x16 : Int) (x17 : Int) (x18 : Int) (x19 : Int) (x20 : Int) (n21 : Nat) (c22 : Nat) (x23 : Int) (x24 : Int) (x25 : Int) (x26 : Int) (l27 : List Value) (l28 : List Value) (Kr : Kh) : Prop := rHead Try.prog 51 50003 [(5, (Value.pointer (some ⟨1000, 0, none⟩))), (6, (Value.slice none 0 0)), (7, (Value.pointer (some ⟨1001, 0, none⟩))), (11, (Value.func (.func 96) #[] #[(Value.pointer (some ⟨1002, 0, none⟩)), (Value.pointer (some ⟨1003, 0, none⟩))]))] [(1000, (AObj.cells [(Value.func (.func 62) #[] #[(Value.pointer (some ⟨502, 0, none⟩))])] 102 false 1)), (1001, (AObj.cells [(Value.slice none 0 0)] 38 false 1)), (1002, (AObj.cells [(Value.int .i64 x0), (Value.int .i64 x1), (Value.int .i64 x2), (Value.int .i64 x3), (Value.int .i64 x4), (Value.int .i64 x5), (Value.slice (some ⟨500, 0, none⟩) n6 c7), (Value.int .i64 x8), (Value.int .i64 x9), (Value.int .i64 x10), (Value.int .i64 x11)] 95 false 1)), (1003, (AObj.cells [(Value.string s12), (Value.slice (some ⟨501, 0, none⟩) n13 c14)] 29 false 1)), (502, (AObj.cells [(Value.int .i64 x15), (Value.int .i64 x16), (Value.int .i64 x17), (Value.int .i64 x18), (Value.int .i64 x19), (Value.int .i64 x20), (Value.slice (some ⟨500, 0, none⟩) n21 c22), (Value.int .i64 x23), (Value.int .i64 x24), (Value.int .i64 x25), (Value.int .i64 x26)] 95 false 11)), (500, (AObj.sym l27 true 5)), (501, (AObj.sym l28 false 1))] Kr
theorem heT1_text (x0 : Int) (x1 : Int) (x2 : Int) (x3 : Int) (x4 : Int) (x5 : Int) (n6 : Nat) (c7 : Nat) (x8 : Int) (x9 : Int) (x10 : Int) (x11 : Int) (s12 : ByteArray) (n13 : Nat) (c14 : Nat) (x15 : Int) (x16 : Int) (x17 : Int) (x18 : Int) (x19 : Int) (x20 : Int) (n21 : Nat) (c22 : Nat) (x23 : Int) (x24 : Int) (x25 : Int) (x26 : Int) (l27 : List Go.Value) (l28 : List Go.Value) (Kr : Kh) : heT1 x0 x1 x2 x3 x4 x5 n6 c7 x8 x9 x10 x11 s12 n13 c14 x15 x16 x17 x18 x19 x20 n21 c22 x23 x24 x25 x26 l27 l28 Kr =
 (Kr 96 [(Value.func (Go.Fn.yield 915) [].toArray [].toArray), (Pt 500 0), (Pt 501 0)] [(Prod.mk 500 (AObj.cells [(vI x0), (vI x1), (vI x2), (vI x3), (vI x4), (vI x5), (Sl 502 (n6) (c7)), (vI x8), (vI x9), (vI x10), (vI x11)] 95 false 1)), (Prod.mk 501 (AObj.cells [(Value.string (s12)), (Sl 503 (n13) (c14))] 29 false 1)), (Prod.mk 502 (AObj.sym (l27) true 5)), (Prod.mk 503 (AObj.sym (l28) false 1))] [(Prod.mk 5 (Pt 1000 0)), (Prod.mk 6 (Value.slice none 0 0)), (Prod.mk 7 (Pt 1001 0)), (Prod.mk 1000000 (Value.map (some 1002)))] [(Prod.mk 1000 (AObj.cells [(Value.func (Go.Fn.func 62) [].toArray [(Pt 502 0)].toArray)] 102 false 1)), (Prod.mk 1001 (AObj.cells [(Value.slice none 0 0)] 38 false 1)), (Prod.mk 1002 AObj.deferred), (Prod.mk 502 (AObj.cells [(vI x15), (vI x16), (vI x17), (vI x18), (vI x19), (vI x20), (Sl 500 (n21) (c22)), (vI x23), (vI x24), (vI x25), (vI x26)] 95 false 11)), (Prod.mk 500 (AObj.sym (l27) true 5))]) := by kernel_rfl
abbrev zeT2 (x0 : Int) (x1 : Int) (x2 : Int) (x3 : Int) (x4 : Int) (x5 : Int) (n6 : Nat) (c7 : Nat) (x8 : Int) (x9 : Int) (x10 : Int) (x11 : Int) (l12 : List Value) : Slots × Blocks := ([(5, (Value.pointer (some ⟨1000, 0, none⟩))), (6, (Value.slice none 0 0)), (7, (Value.pointer (some ⟨1001, 0, none⟩))), (1000000, (Go.Value.map (Option.some 1002)))], [(1000, (AObj.cells [(Value.func (.func 62) #[] #[(Value.pointer (some ⟨502, 0, none⟩))])] 102 false 1)), (1001, (AObj.cells [(Value.slice none 0 0)] 38 false 1)), (1002, AObj.deferred), (502, (AObj.cells [(Value.int .i64 x0), (Value.int .i64 x1), (Value.int .i64 x2), (Value.int .i64 x3), (Value.int .i64 x4), (Value.int .i64 x5), (Value.slice (some ⟨500, 0, none⟩) n6 c7), (Value.int .i64 x8), (Value.int .i64 x9), (Value.int .i64 x10), (Value.int .i64 x11)] 95 false 11)), (500, (AObj.sym l12 true 5))])
def weT2 (C : Ct) (x0 : Int) (x1 : Int) (x2 : Int) (x3 : Int) (x4 : Int) (x5 : Int) (n6 : Nat) (c7 : Nat) (x8 : Int) (x9 : Int) (x10 : Int) (x11 : Int) (l12 : List Value) (y0 : Int) (y1 : Int) (y2 : Int) (B : Bx) (X : Ex) : Prop := rRound Try.prog (hP C) 51 50003 [(5, (Value.pointer (some ⟨1000, 0, none⟩))), (6, (Value.slice none 0 0)), (7, (Value.pointer (some ⟨1001, 0, none⟩))), (1000000, (Go.Value.map (Option.some 1002)))] [(1000, (AObj.cells [(Value.func (.func 62) #[] #[(Value.pointer (some ⟨502, 0, none⟩))])] 102 false 1)), (1001, (AObj.cells [(Value.slice none 0 0)] 38 false 1)), (1002, AObj.deferred), (502, (AObj.cells [(Value.int .i64 x0), (Value.int .i64 x1), (Value.int .i64 x2), (Value.int .i64 x3), (Value.int .i64 x4), (Value.int .i64 x5), (Value.slice (some ⟨500, 0, none⟩) n6 c7), (Value.int .i64 x8), (Value.int .i64 x9), (Value.int .i64 x10), (Value.int .i64 x11)] 95 false 11)), (500, (AObj.sym l12 true 5))] [(.agg [(.val (.int .i64 y0)), (.val (.int .i64 y1)), (.val (.int .i64 y2))])] B X
theorem weT2_text (C : Ct) (x0 : Int) (x1 : Int) (x2 : Int) (x3 : Int) (x4 : Int) (x5 : Int) (n6 : Nat) (c7 : Nat) (x8 : Int) (x9 : Int) (x10 : Int) (x11 : Int) (l12 : List Go.Value) (y0 : Int) (y1 : Int) (y2 : Int) (B : Bx) (X : Ex) : weT2 C x0 x1 x2 x3 x4 x5 n6 c7 x8 x9 x10 x11 l12 y0 y1 y2 B X =
 (∀ caps : Nat → Nat,
 (((Qv (Value.agg [(vI y0), (vI y1), (vI y2)].toArray)) ∧
 ((Qv (Value.func (Go.Fn.func 62) [].toArray [(Pt 502 0)].toArray)) ∧
 ((Qv (Value.slice none 0 0)) ∧
 True))) ∧
 (bcase (decide (0 + n6 * 5 ≤ List.length l12))
 (∃ n1 : Int,
 (∃ n2 : Int,
 ((Says C 63 [(D.agg [(D.val (vI x0)), (D.val (vI x1)), (D.val (vI x2)), (D.val (vI x3)), (D.val (vI x4)), (D.val (vI x5)), (D.sl (n6) 5 (List.take (n6 * 5) (List.drop 0 l12))), (D.val (vI x8)), (D.val (vI x9)), (D.val (vI x10)), (D.val (vI x11))]), (D.agg [(D.val (vI y0)), (D.val (vI y1)), (D.val (vI y2))])] [(D.agg [(D.val (vI n1)), (D.val (vI n2))])]) ∧
 (∃ n3 : Int,
 (∃ n4 : Int,
 ((Says C 53 [(D.val (vI n1)), (D.val (vI 100))] [(D.agg [(D.val (vI n3)), (D.val (vI n4))])]) ∧
 ((((Qv (Sl 1006 1 1)) ∧
 (Qv (some (AObj.cells [(vI n3), (vI n4)] 68 false 2)))) ∧
 ((Qv (Value.slice none 0 0)) ∧
 True)) ∧
 (True ∧
 (True ∧
 (B [(Prod.mk 5 (Pt 1000 0)), (Prod.mk 6 (Value.slice none 0 0)), (Prod.mk 7 (Pt 1001 0)), (Prod.mk 1000000 (Value.map (some 1002)))] [(Prod.mk 1000 (AObj.cells [(Value.func (Go.Fn.func 62) [].toArray [(Pt 502 0)].toArray)] 102 false 1)), (Prod.mk 1001 (AObj.cells [(Sl 1003 1 1)] 38 false 1)), (Prod.mk 1002 AObj.deferred), (Prod.mk 502 (AObj.cells [(vI x0), (vI x1), (vI x2), (vI x3), (vI x4), (vI x5), (Sl 500 (n6) (c7)), (vI x8), (vI x9), (vI x10), (vI x11)] 95 false 11)), (Prod.mk 1003 (AObj.sym [(vI n3), (vI n4)] true 2)), (Prod.mk 500 (AObj.sym (l12) true 5))]))))))))))
 False))) := by kernel_rfl
abbrev zeT4 (n0 : Nat) (x1 : Int) (x2 : Int) (x3 : Int) (x4 : Int) (x5 : Int) (x6 : Int) (n7 : Nat) (c8 : Nat) (x9 : Int) (x10 : Int) (x11 : Int) (x12 : Int) (l13 : List Value) (l14 : List Value) : Slots × Blocks := ([(5, (Value.pointer (some ⟨1000, 0, none⟩))), (6, (Value.slice none 0 0)), (7, (Value.pointer (some ⟨1001, 0, none⟩))), (1000000, (Go.Value.map (Option.some 1002)))], [(1000, (AObj.cells [(Value.func (.func 62) #[] #[(Value.pointer (some ⟨502, 0, none⟩))])] 102 false 1)), (1001, (AObj.cells [(Value.slice (some ⟨1003, 0, none⟩) n0 n0)] 38 false 1)), (1002, AObj.deferred), (502, (AObj.cells [(Value.int .i64 x1), (Value.int .i64 x2), (Value.int .i64 x3), (Value.int .i64 x4), (Value.int .i64 x5), (Value.int .i64 x6), (Value.slice (some ⟨500, 0, none⟩) n7 c8), (Value.int .i64 x9), (Value.int .i64 x10), (Value.int .i64 x11), (Value.int .i64 x12)] 95 false 11)), (1003, (AObj.sym l13 true 2)), (500, (AObj.sym l14 true 5))])
def weT4 (C : Ct) (n0 : Nat) (x1 : Int) (x2 : Int) (x3 : Int) (x4 : Int) (x5 : Int) (x6 : Int) (n7 : Nat) (c8 : Nat) (x9 : Int) (x10 : Int) (x11 : Int) (x12 : Int) (l13 : List Value) (l14 : List Value) (y0 : Int) (y1 : Int) (y2 : Int) (B : Bx) (X : Ex) : Prop := rRound Try.prog (hP C) 51 50003 [(5, (Value.pointer (some ⟨1000, 0, none⟩))), (6, (Value.slice none 0 0)), (7, (Value.pointer (some ⟨1001, 0, none⟩))), (1000000, (Go.Value.map (Option.some 1002)))] [(1000, (AObj.cells [(Value.func (.func 62) #[] #[(Value.pointer (some ⟨502, 0, none⟩))])] 102 false 1)), (1001, (AObj.cells [(Value.slice (some ⟨1003, 0, none⟩) n0 n0)] 38 false 1)), (1002, AObj.deferred), (502, (AObj.cells [(Value.int .i64 x1), (Value.int .i64 x2), (Value.int .i64 x3), (Value.int .i64 x4), (Value.int .i64 x5), (Value.int .i64 x6), (Value.slice (some ⟨500, 0, none⟩) n7 c8), (Value.int .i64 x9), (Value.int .i64 x10), (Value.int .i64 x11), (Value.int .i64 x12)] 95 false 11)), (1003, (AObj.sym l13 true 2)), (500, (AObj.sym l14 true 5))] [(.agg [(.val (.int .i64 y0)), (.val (.int .i64 y1)), (.val (.int .i64 y2))])] B X
theorem weT4_text (C : Ct) (n0 : Nat) (x1 : Int) (x2 : Int) (x3 : Int) (x4 : Int) (x5 : Int) (x6 : Int) (n7 : Nat) (c8 : Nat) (x9 : Int) (x10 : Int) (x11 : Int) (x12 : Int) (l13 : List Go.Value) (l14 : List Go.Value) (y0 : Int) (y1 : Int) (y2 : Int) (B : Bx) (X : Ex) : weT4 C n0 x1 x2 x3 x4 x5 x6 n7 c8 x9 x10 x11 x12 l13 l14 y0 y1 y2 B X =
 (∀ caps : Nat → Nat,
 (((Qv (Value.agg [(vI y0), (vI y1), (vI y2)].toArray)) ∧
 ((Qv (Value.func (Go.Fn.func 62) [].toArray [(Pt 502 0)].toArray)) ∧
 ((Qv (Sl 1003 (n0) (n0))) ∧
 True))) ∧
 (bcase (decide (0 + n7 * 5 ≤ List.length l14))
 (∃ n1 : Int,
 (∃ n2 : Int,
 ((Says C 63 [(D.agg [(D.val (vI x1)), (D.val (vI x2)), (D.val (vI x3)), (D.val (vI x4)), (D.val (vI x5)), (D.val (vI x6)), (D.sl (n7) 5 (List.take (n7 * 5) (List.drop 0 l14))), (D.val (vI x9)), (D.val (vI x10)), (D.val (vI x11)), (D.val (vI x12))]), (D.agg [(D.val (vI y0)), (D.val (vI y1)), (D.val (vI y2))])] [(D.agg [(D.val (vI n1)), (D.val (vI n2))])]) ∧
 (∃ n3 : Int,
 (∃ n4 : Int,
 ((Says C 53 [(D.val (vI n1)), (D.val (vI 100))] [(D.agg [(D.val (vI n3)), (D.val (vI n4))])]) ∧
 ((((Qv (Sl 1007 1 1)) ∧
 (Qv (some (AObj.cells [(vI n3), (vI n4)] 68 false 2)))) ∧
 ((Qv (Sl 1003 (n0) (n0))) ∧
 True)) ∧
 (bcase (decide (n0 < n0 + 1))
 (bcase (decide ((2 * (n0 + 1) + 768) * 16 ≤ 281474976710656))
 (bcase (decide (n0 + 1 ≤ 1099511627776))
 (bcase (decide (0 + n0 * 2 ≤ List.length l13))
 (bcase (decide (0 + n0 * 2 = List.length l13))
 (True ∧
 (True ∧
 (B [(Prod.mk 5 (Pt 1000 0)), (Prod.mk 6 (Value.slice none 0 0)), (Prod.mk 7 (Pt 1001 0)), (Prod.mk 1000000 (Value.map (some 1002)))] [(Prod.mk 1000 (AObj.cells [(Value.func (Go.Fn.func 62) [].toArray [(Pt 502 0)].toArray)] 102 false 1)), (Prod.mk 1001 (AObj.cells [(Sl 1003 (n0 + 1) (n0 + 1))] 38 false 1)), (Prod.mk 1002 AObj.deferred), (Prod.mk 502 (AObj.cells [(vI x1), (vI x2), (vI x3), (vI x4), (vI x5), (vI x6), (Sl 500 (n7) (c8)), (vI x9), (vI x10), (vI x11), (vI x12)] 95 false 11)), (Prod.mk 1003 (AObj.sym ((List.take (n0 * 2) (List.drop 0 l13)) ++ [(vI n3), (vI n4)]) true 2)), (Prod.mk 500 (AObj.sym (l14) true 5))])))
 False)
 False)
 False)
 False)
 False))))))))
 False))) := by kernel_rfl
def neT5 (C : Ct) (L : AtLoop) (n0 : Nat) (x1 : Int) (x2 : Int) (x3 : Int) (x4 : Int) (x5 : Int) (x6 : Int) (n7 : Nat) (c8 : Nat) (x9 : Int) (x10 : Int) (x11 : Int) (x12 : Int) (l13 : List Value) (l14 : List Value) (K : Value → Blocks → Prop) : Prop := jNext Try.prog (hP C) L [] 51 50003 .normal [(5, (Value.pointer (some ⟨1000, 0, none⟩))), (6, (Value.slice none 0 0)), (7, (Value.pointer (some ⟨1001, 0, none⟩))), (1000000, (Go.Value.map (Option.some 1002)))] [(1000, (AObj.cells [(Value.func (.func 62) #[] #[(Value.pointer (some ⟨502, 0, none⟩))])] 102 false 1)), (1001, (AObj.cells [(Value.slice (some ⟨1003, 0, none⟩) n0 n0)] 38 false 1)), (1002, AObj.deferred), (502, (AObj.cells [(Value.int .i64 x1), (Value.int .i64 x2), (Value.int .i64 x3), (Value.int .i64 x4), (Value.int .i64 x5), (Value.int .i64 x6), (Value.slice (some ⟨500, 0, none⟩) n7 c8), (Value.int .i64 x9), (Value.int .i64 x10), (Value.int .i64 x11), (Value.int .i64 x12)] 95 false 11)), (1003, (AObj.sym l13 true 2)), (500, (AObj.sym l14 true 5))] (stateK K)
theorem neT5_text (C : Ct) (L : AtLoop) (n0 : Nat) (x1 : Int) (x2 : Int) (x3 : Int) (x4 : Int) (x5 : Int) (x6 : Int) (n7 : Nat) (c8 : Nat) (x9 : Int) (x10 : Int) (x11 : Int) (x12 : Int) (l13 : List Go.Value) (l14 : List Go.Value) (K : Go.Value → Blocks → Prop) : neT5 C L n0 x1 x2 x3 x4 x5 x6 n7 c8 x9 x10 x11 x12 l13 l14 K =
 (K (Sl 1000 (n0) (n0)) [(Prod.mk 1000 (AObj.sym (l13) true 2))]) := by kernel_rfl
end Go.Proofs.G5p.R2

/- Chapter 3: the temperatures of one material, collected. -/
namespace Go.Proofs.G5p
open Go Go.Abs Go.Proofs Go.Str
set_option maxRecDepth 100000
theorem hokRE2 : HandlerOK Try.prog (R2.hE C5) := handlerX_ok mixed (fun g h he => by cases he) (by decide) 6
theorem preR2OK : PreOK Try.prog (R2.preP C5) := by
  intro g h he args ats H k hk
  unfold R2.preP at he
  rcases ite_so he with ⟨_, rfl⟩ | he
  · exact saidH_ok (fun _ _ _ h => h) _ _ _ _ _ hk
  · cases he
theorem hokRP2 : HandlerOK Try.prog (R2.hP C5) := handlerX_ok mixed preR2OK (by decide) 6
/-- the temperatures of one material after each stand -/
def hts (r : Ru) (th : List Int) : List (Int × Int) := (List.range th.length).map fun i => low (hL r i (th.getD i 0)) 100
theorem hts_len (r : Ru) (th : List Int) : (hts r th).length = th.length := by simp [hts]
theorem hts_at {r : Ru} {th : List Int} {i : Nat} (hi : i < th.length) : (hts r th)[i]'(by rw [hts_len]; exact hi) = low (hL r i th[i]) 100 := by
  simp only [hts, List.getElem_map, List.getElem_range, getD_at hi]
theorem runDp (r : Ru) (c0 c1 : Nat) (nm : List UInt8) (th : List Int) (hth : th.length < 1000000000) :
    CallS Try.prog 96 [.func (.yield 915) #[] #[], .pointer (some ⟨500, 0, none⟩), .pointer (some ⟨501, 0, none⟩)] [(915, .yld false (some (drows r.st 0 th))), (500, .cells [.int .i64 r.w, .int .i64 r.st, .int .i64 r.fi, .int .i64 r.hlo, .int .i64 r.hhi, .int .i64 r.co, .slice (some ⟨502, 0, none⟩) r.ss.length c0, .int .i64 r.slo, .int .i64 r.shi, .int .i64 r.flo, .int .i64 r.fhi] 95 false 1), (501, .cells [.string (bs nm), .slice (some ⟨503, 0, none⟩) th.length c1] 29 false 1), (502, .sym (vs5 r.ss) true 5), (503, .sym (vi th) false 1)] EndY := by
  let st : Nat → Slots × Blocks := fun i => R2.zDp1 (bfr r.st th i) th.length c1 th.length i (drows (bfr r.st th i) i (th.drop i)) (vi th)
  refine callS_JR hokRE2 mixed [] (L := fun _ x bl => ∃ i, i ≤ th.length ∧ st i = (x, bl)) Try.func96 rfl (.inr rfl) (pts := [0]) (loops := [0]) (by kernel_rfl) (by kernel_rfl) ?_ (fun id q1 q2 => absurd q1 q2) (fun id hid hlt => ?_) (fun id hid hlt => absurd (by obtain rfl := List.mem_singleton.1 hid; decide) hlt)
  · show R2.gDp C5 _ (drows r.st 0 th) r.w r.st r.fi r.hlo r.hhi r.co r.slo r.shi r.flo r.fhi r.ss.length c0 (vs5 r.ss) (bs nm) th.length c1 (vi th) _
    rw [R2.gDp_text]
    exact ⟨0, Nat.zero_le _, rfl⟩
  · obtain rfl := List.mem_singleton.1 hid
    refine ⟨⟨Nat, st, fun i => i ≤ th.length, fun i => th.length - i, fun s bl h => h, [], [], by kernel_rfl, by kernel_rfl, by decide, ?_⟩⟩
    intro i hi
    refine ⟨fun _ _ _ => False, ?_, (fun id2 q1 _ => by cases q1), (fun id2 q1 => by cases q1), (fun id2 q1 => by cases q1)⟩
    show R2.rDp1 C5 _ (bfr r.st th i) th.length c1 th.length i (drows (bfr r.st th i) i (th.drop i)) (vi th) _ _ _
    rw [R2.rDp1_text]
    refine bc_dec (fun h => ?_) (fun h => ?_)
    · have hi2 : i < th.length := by omega
      simp only [bc_t h, bc_t (show (0 : Int) ≤ (i : Int) by omega), Int.toNat_natCast, at1 (vi_at th i hi2)]
      refine ⟨_, ⟨drows_drop hi2⟩, ⟨i + 1, hi2, by omega, ?_⟩, ⟨none, rfl, .inr rfl⟩⟩
      show R2.zDp1 _ _ _ _ _ _ _ = _
      rw [bfr_succ hi2, w64 (by omega) (by omega)]; rfl
    · show (if 0 = 0 then _ else _)
      rw [if_pos rfl]
      show R2.nDp2 C5 _ (drows (bfr r.st th i) i (th.drop i)) _
      rw [R2.nDp2_text]
      have : i = th.length := by omega
      have e : drows (bfr r.st th i) i (th.drop i) = [] := by rw [this, List.drop_length, drows]
      rw [e]
      exact ⟨some [], rfl, .inl rfl⟩
theorem runET (r : Ru) (c0 c1 : Nat) (nm : List UInt8) (th : List Int) (w : VR r th) :
    freshS Try.prog 51 2 [.agg #[.int .i64 r.w, .int .i64 r.st, .int .i64 r.fi, .int .i64 r.hlo, .int .i64 r.hhi, .int .i64 r.co, .slice (some ⟨500, 0, none⟩) r.ss.length c0, .int .i64 r.slo, .int .i64 r.shi, .int .i64 r.flo, .int .i64 r.fhi], .agg #[.string (bs nm), .slice (some ⟨501, 0, none⟩) th.length c1], .func (.func 62) #[] #[.pointer (some ⟨502, 0, none⟩)]] [(500, .sym (vs5 r.ss) true 5), (501, .sym (vi th) false 1), (502, .cells [.int .i64 r.w, .int .i64 r.st, .int .i64 r.fi, .int .i64 r.hlo, .int .i64 r.hhi, .int .i64 r.co, .slice (some ⟨500, 0, none⟩) r.ss.length c0, .int .i64 r.slo, .int .i64 r.shi, .int .i64 r.flo, .int .i64 r.fhi] 95 false 11)] th.length (vp (hts r th)) := by
  have v := w.v
  have hl := v.len
  have h6 := v.n6
  have h0 := v.n0
  let st : Nat → Slots × Blocks := fun i => match i with
    | 0 => R2.zeT2 r.w r.st r.fi r.hlo r.hhi r.co r.ss.length c0 r.slo r.shi r.flo r.fhi (vs5 r.ss)
    | i + 1 => R2.zeT4 (i + 1) r.w r.st r.fi r.hlo r.hhi r.co r.ss.length c0 r.slo r.shi r.flo r.fhi (vp ((hts r th).take (i + 1))) (vs5 r.ss)
  refine callS_JR hokRP2 mixed [] (L := fun _ s b => R2.zeT1 r.w r.st r.fi r.hlo r.hhi r.co r.ss.length c0 r.slo r.shi r.flo r.fhi (bs nm) th.length c1 r.w r.st r.fi r.hlo r.hhi r.co r.ss.length c0 r.slo r.shi r.flo r.fhi (vs5 r.ss) (vi th) = (s, b)) Try.func51 rfl (.inl rfl) (pts := [50003]) (loops := [50003]) (by kernel_rfl) (by kernel_rfl) ?_ (fun id q1 q2 => absurd q1 q2) (fun id hid hlt => absurd hlt (by obtain rfl := List.mem_singleton.1 hid; decide)) (fun id hid hlt => ?_)
  · show R2.geT C5 _ r.w r.st r.fi r.hlo r.hhi r.co r.slo r.shi r.flo r.fhi r.ss.length c0 (vs5 r.ss) (bs nm) th.length c1 (vi th) _
    rw [R2.geT_text]
  · obtain rfl := List.mem_singleton.1 hid
    refine ⟨⟨?_⟩⟩
    rintro s b e
    cases e
    show R2.heT1 r.w r.st r.fi r.hlo r.hhi r.co r.ss.length c0 r.slo r.shi r.flo r.fhi (bs nm) th.length c1 r.w r.st r.fi r.hlo r.hhi r.co r.ss.length c0 r.slo r.shi r.flo r.fhi (vs5 r.ss) (vi th) _
    rw [R2.heT1_text]
    refine ⟨drows r.st 0 th, fun rest s b => ∃ i, i ≤ th.length ∧ rest = drows (bfr r.st th i) i (th.drop i) ∧ st i = (s, b), runDp r c0 c1 nm th (by omega), ⟨0, Nat.zero_le _, rfl, rfl⟩, ?_, ?_⟩
    · rintro row rest s b ⟨i, hi, e1, e2⟩
      have hi2 : i < th.length := by
        refine Nat.lt_of_le_of_ne hi (fun h => ?_)
        rw [h, List.drop_length] at e1; cases e1
      rw [drows_drop hi2] at e1
      obtain ⟨rfl, rfl⟩ := List.cons.inj e1
      have hd := w.dr hi2
      have hh := hd.ht
      have go : C5 53 [dI (hL r i th[i]), dI 100] [.agg [dI (low (hL r i th[i]) 100).1, dI (low (hL r i th[i]) 100).2]] := conlT _ _ (by omega) (by omega)
      have e := vp_snoc (l := hts r th) (i := i) (by rw [hts_len]; exact hi2) (hts_at hi2)
      cases i with
      | zero =>
        cases e2
        show R2.weT2 C5 r.w r.st r.fi r.hlo r.hhi r.co r.ss.length c0 r.slo r.shi r.flo r.fhi (vs5 r.ss) ((0 : Nat) : Int) (bfr r.st th 0) th[0] _ _
        rw [R2.weT2_text]
        intro caps
        rw [bc_t (v5le r.ss), v5_whole]
        simp only [Qv, eq_self, true_and, and_true]
        refine ⟨_, _, ⟨conhe r 0 (bfr r.st th 0) th[0] hd⟩, _, _, ⟨go⟩, 1, hi2, by rw [bfr_succ hi2], ?_⟩
        show R2.zeT4 _ _ _ _ _ _ _ _ _ _ _ _ _ _ _ = _
        rw [← e]; rfl
      | succ i =>
        cases e2
        show R2.weT4 C5 (i + 1) r.w r.st r.fi r.hlo r.hhi r.co r.ss.length c0 r.slo r.shi r.flo r.fhi (vp ((hts r th).take (i + 1))) (vs5 r.ss) ((i + 1 : Nat) : Int) (bfr r.st th (i + 1)) th[i + 1] _ _
        rw [R2.weT4_text]
        intro caps
        rw [bc_t (v5le r.ss), v5_whole]
        simp only [Qv, eq_self, true_and, and_true]
        have el : (vp ((hts r th).take (i + 1))).length = (i + 1) * 2 := by
          rw [vp_length, List.length_take, hts_len]; omega
        refine ⟨_, _, ⟨conhe r (i + 1) (bfr r.st th (i + 1)) th[i + 1] hd⟩, _, _, ⟨go⟩, ?_⟩
        rw [bc_t (show i + 1 < i + 1 + 1 by omega), bc_t (show (2 * (i + 1 + 1) + 768) * 16 ≤ 281474976710656 by omega), bc_t (show i + 1 + 1 ≤ 1099511627776 by omega), bc_t (show 0 + (i + 1) * 2 ≤ (vp ((hts r th).take (i + 1))).length by omega), bc_t (show 0 + (i + 1) * 2 = (vp ((hts r th).take (i + 1))).length by omega)]
        refine ⟨i + 2, hi2, by rw [bfr_succ hi2], ?_⟩
        show R2.zeT4 _ _ _ _ _ _ _ _ _ _ _ _ _ _ _ = _
        rw [← e]; rfl
    · rintro s b ⟨i, hi, e1, e2⟩
      have hi2 : i = th.length := Decidable.byContradiction fun h => by
        rw [drows_drop (show i < th.length by omega)] at e1; cases e1
      obtain ⟨j, rfl⟩ : ∃ j, i = j + 1 := ⟨i - 1, by omega⟩
      cases e2
      show R2.neT5 C5 _ (j + 1) r.w r.st r.fi r.hlo r.hhi r.co r.ss.length c0 r.slo r.shi r.flo r.fhi (vp ((hts r th).take (j + 1))) (vs5 r.ss) _
      rw [R2.neT5_text, List.take_of_length_le (by rw [hts_len]; omega), hi2]
      exact ⟨rfl, rfl⟩
end Go.Proofs.G5p

/- Chapter 3: what is rolled, in data. -/
namespace Go.Proofs.G5p
open Go Go.Abs Go.Proofs Go.Str
set_option maxRecDepth 100000
/-! ### valid rules, schedules, materials -/
theorem stE_ok {s : Fv} (h : stE s = 0) : stB s ∧ s.d ≤ s.e := by
  unfold stE at h
  split at h
  · split at h
    · exact ⟨by assumption, by assumption⟩
    · simp at h
  · simp at h
theorem stsE_ok : ∀ {l : List Fv} {i : Int}, (stsE i l).2 = 0 → ∀ s ∈ l, stB s ∧ s.d ≤ s.e
  | [], _, _ => fun s hs => by cases hs
  | s :: r, i, h => by
    rw [stsE] at h
    split at h
    · rename_i h0
      intro t ht
      rcases List.mem_cons.1 ht with rfl | ht
      · exact stE_ok h0
      · exact stsE_ok h t ht
    · rename_i h0; exact absurd h h0
theorem vr_of {r : Ru} {nm : List UInt8} {th : List Int} (h1 : (chk r).2 = 0) (h2 : (schE r nm th).2 = 0) : VR r th := by
  have v := vs_of h1 h2
  refine ⟨v, fun s hs => ?_⟩
  rw [chk_cnt v.rng v.ord] at h1
  have hc : cntE r.ss.length = 0 := by
    have := v.n0; have := v.n6
    rw [cntE, if_neg (by omega), if_neg (by omega)]
  rw [if_pos hc] at h1
  exact (stsE_ok h1 s hs).1
theorem rolL_stB : ∀ {ss : List Fv} {ls : List Int} {i : Int}, ls.length = ss.length → (∀ s ∈ ss, stB s) → (lsE i ss ls).2 = 0 → ∀ s ∈ rolL ss ls, stB s
  | [], [], _, _, _, _, _, h => by cases h
  | s :: ss, l :: ls, i, hl, hs, h, t, ht => by
    rw [lsE] at h
    split at h
    · rename_i hb
      rcases List.mem_cons.1 ht with rfl | ht
      · have := hs s List.mem_cons_self
        obtain ⟨a, b, c, d⟩ := this
        exact ⟨a, b, ⟨by show 0 ≤ l; omega, by show l ≤ 1000; omega⟩, ⟨by show 0 ≤ l; omega, by show l ≤ 1000; omega⟩⟩
      · exact rolL_stB (by simpa using hl) (fun s h => hs s (List.mem_cons_of_mem _ h)) h t ht
    · simp at h
theorem matE_ok {r : Ru} {ms mf mh : Int} {ls : List Int} (h : (matE r ms mf mh ls).2 = 0) : matB r ms mf mh ∧ ls.length = r.ss.length ∧ (lsE 0 r.ss ls).2 = 0 := by
  rw [matE] at h
  split at h
  · split at h
    · exact ⟨by assumption, by assumption, h⟩
    · simp at h
  · simp at h
theorem vr_mat {r : Ru} {th : List Int} {ms mf mh : Int} {ls : List Int} (v : VR r th) (h : (matE r ms mf mh ls).2 = 0) : VR (rolR r ms mf mh ls) th := by
  obtain ⟨hm, hl, hs⟩ := matE_ok h
  have hr := v.v.rng
  have ho := v.v.ord
  refine ⟨⟨?_, ?_, ?_, ?_, ?_, v.v.desc⟩, rolL_stB hl v.sts hs⟩
  · unfold rngB at hr ⊢; unfold ordB at ho; unfold matB at hm
    simp only [rolR]; omega
  · unfold ordB at ho ⊢
    simp only [rolR]; omega
  · show 0 < (rolL r.ss ls).length; rw [rolL_len]; exact v.v.n0
  · show (rolL r.ss ls).length ≤ 6; rw [rolL_len]; exact v.v.n6
  · show th.length = (rolL r.ss ls).length; rw [rolL_len]; exact v.v.len
theorem schP_bad' {r : Ru} {nm : List UInt8} {th : List Int} (h : (chk r).2 ≠ 0) : schP r nm th = (0, (chk r).2) := by rw [schP, if_neg h]
theorem conRo (r : Ru) (nm : List UInt8) (th : List Int) (ms mf mh : Int) (ls : List Int) (h1 : (schP r nm th).2 = 0) (h2 : (matP r ms mf mh ls).2 = 0) : C5 22 [r.d, scD nm th, maD ms mf mh ls] [.sl th.length 2 (vp (hts (rolR r ms mf mh ls) th)), dB (ansD (rolR r ms mf mh ls) 0 r.st 2 th == 2), dI 0] := by
  have hc : (chk r).2 = 0 := Decidable.byContradiction fun h => by rw [schP_bad' h] at h1; exact h h1
  have hs : (schE r nm th).2 = 0 := by rw [schP, if_pos hc] at h1; exact h1
  have hm : (matE r ms mf mh ls).2 = 0 := by rw [matP, if_pos hc] at h2; exact h2
  have v := vr_of hc hs
  have w := vr_mat v hm
  have hl := v.v.len
  have h6 := v.v.n6
  have h0 := v.v.n0
  have hls := (matE_ok hm).2.1
  refine con_flat hokP mixed Try.func22 rfl (by show 3 ≤ 400; omega) rfl (by kernel_rfl) (fun caps => ?_)
  show gRo _ _ r.w r.st r.fi r.hlo r.hhi r.co r.ss.length (caps 500) (vs5 r.ss) r.slo r.shi r.flo r.fhi (bs nm) th.length (caps 501) (vi th) ms mf mh ls.length (caps 502) (vi ls) _
  rw [gRo_text]
  simp only [bc_t (v5le r.ss), bc_t (v1le th), bc_t (v1le ls), v5_whole, v1_whole, Qv, eq_self, true_and]
  refine ⟨_, _, ⟨conKS r nm th (by omega) (by omega)⟩, bc_bne (fun hz => absurd h1 hz) (fun _ => ?_)⟩
  refine ⟨_, _, ⟨conKM r ms mf mh ls (by omega) (by omega)⟩, _, ⟨conFE [0, _] (by simp)⟩, ?_⟩
  have e : fst0 [0, (matP r ms mf mh ls).2] = 0 := by rw [fst0_z, h2]; rfl
  refine bc_bne (fun hz => absurd e hz) (fun _ => ?_)
  refine ⟨_, _, _, _, _, _, .inr ⟨_, _, _, _, _, _, ⟨conro r ms mf mh ls h0 (by omega) hls⟩, th.length, vp (hts (rolR r ms mf mh ls) th), ⟨runET (rolR r ms mf mh ls) _ _ nm th w⟩, ?_⟩⟩
  rw [bc_t (v5le (rolR r ms mf mh ls).ss), v5_whole]
  refine ⟨_, ⟨conaF (rolR r ms mf mh ls) nm th w⟩, ?_⟩
  have el : (vp (hts (rolR r ms mf mh ls) th)).length = th.length * 2 := by rw [vp_length, hts_len]
  refine bc_beq (fun h => ⟨el, ?_⟩) (fun h => ⟨el, ?_⟩)
  · have hb : (ansD (rolR r ms mf mh ls) 0 r.st 2 th == 2) = true := by rw [beq_iff_eq]; exact h
    rw [hb]
  · have hb : (ansD (rolR r ms mf mh ls) 0 r.st 2 th == 2) = false := by rw [beq_eq_false_iff_ne]; exact h
    rw [hb]
end Go.Proofs.G5p

/- Chapter 3: what the reference rolls, in data. -/
namespace Go.Proofs.G5p
open Go Go.Abs Go.Proofs Go.Str
set_option maxRecDepth 100000
theorem rolL_at : ∀ {ss : List Fv} {ls : List Int} {i : Nat} (h1 : i < ss.length) (h2 : i < ls.length), (rolL ss ls)[i]'(by rw [rolL_len]; exact h1) = ⟨ss[i].a, ss[i].b, ss[i].c, ls[i], ls[i]⟩
  | s :: ss, l :: ls, 0, _, _ => rfl
  | s :: ss, l :: ls, i + 1, h1, h2 => by
    have := rolL_at (ss := ss) (ls := ls) (i := i) (by simpa using h1) (by simpa using h2)
    simpa [rolL] using this
/-- does a draught keep all limits, for one material -/
def kpD (r : Ru) (k : Nat) (b h : Int) : Bool := decide (frc r.w b h r.slo r.flo ≤ (stA r k).b) && decide (frc r.w b h r.slo r.flo * (b - h) ≤ (stA r k).c) && decide (bit r k b h r.flo ≥ 0) && decide (hL r k h ≥ 100 * r.co)
def kpL (r : Ru) : Nat → Int → List Int → Bool
  | _, _, [] => true
  | k, b, h :: l => kpD r k b h && kpL r (k + 1) h l
/-- for one material alone: surely, or surely not -/
theorem ansR_one {r : Ru} {k : Nat} {b h : Int} (e1 : r.shi = r.slo) (e2 : r.fhi = r.flo) (e3 : hH r k h = hL r k h) : ansR 2 (mar r k b h) = if kpD r k b h = true then some 2 else none := by
  simp only [mar, ansR, kpD, fl, fh, e1, e2, e3, Bool.and_eq_true, decide_eq_true_eq]
  generalize frc r.w b h r.slo r.flo = F
  generalize F * (b - h) = T
  generalize bit r k b h r.flo = B
  generalize hL r k h = H
  by_cases h1 : F ≤ (stA r k).b
  · rw [if_neg (show ¬ 100 * ((stA r k).b - F) < 0 by omega), if_neg (show ¬ 100 * ((stA r k).b - F) < 0 by omega)]
    by_cases h2 : T ≤ (stA r k).c
    · rw [if_neg (show ¬ 100 * ((stA r k).c - T) < 0 by omega), if_neg (show ¬ 100 * ((stA r k).c - T) < 0 by omega)]
      by_cases h3 : B ≥ 0
      · rw [if_neg (show ¬ B < 0 by omega), if_neg (show ¬ B < 0 by omega)]
        by_cases h4 : H ≥ 100 * r.co
        · rw [if_neg (show ¬ H - 100 * r.co < 0 by omega), if_neg (show ¬ H - 100 * r.co < 0 by omega), if_pos ⟨⟨⟨h1, h2⟩, h3⟩, h4⟩]
        · rw [if_pos (show H - 100 * r.co < 0 by omega), if_neg (fun h => h4 h.2)]
      · rw [if_pos (show B < 0 by omega), if_neg (fun h => h3 h.1.2)]
    · rw [if_pos (show 100 * ((stA r k).c - T) < 0 by omega), if_neg (fun h => h2 h.1.1.2)]
  · rw [if_pos (show 100 * ((stA r k).b - F) < 0 by omega), if_neg (fun h => h1 h.1.1.1)]
theorem sum_eq : ∀ {ss : List Fv} {ls : List Int} (i : Nat), ls.length = ss.length → sumD ((rolL ss ls).take i) = sumE ((rolL ss ls).take i)
  | _, _, 0, _ => rfl
  | [], [], i + 1, _ => rfl
  | s :: ss, l :: ls, i + 1, h => by
    simp only [rolL, List.take_succ_cons, sumD, sumE, sum_eq (ss := ss) (ls := ls) i (by simpa using h)]
theorem ansD_one {r : Ru} {ms mf mh : Int} {ls : List Int} (hl : ls.length = r.ss.length) : ∀ (l : List Int) (k : Nat) (b : Int), ansD (rolR r ms mf mh ls) k b 2 l = if kpL (rolR r ms mf mh ls) k b l = true then 2 else 0
  | [], k, b => rfl
  | h :: l, k, b => by
    have e3 : hH (rolR r ms mf mh ls) k h = hL (rolR r ms mf mh ls) k h := by
      unfold hH hL
      simp only [rolR]
      rw [sum_eq _ hl]
    rw [ansD, ansR_one rfl rfl e3, kpL]
    by_cases c : kpD (rolR r ms mf mh ls) k b h = true
    · rw [if_pos c, c, Bool.true_and]; exact ansD_one hl l (k + 1) h
    · rw [if_neg c, show kpD (rolR r ms mf mh ls) k b h = false by simpa using c]; rfl
theorem ans_kp {r : Ru} {ms mf mh : Int} {ls th : List Int} (hl : ls.length = r.ss.length) : (ansD (rolR r ms mf mh ls) 0 r.st 2 th == 2) = kpL (rolR r ms mf mh ls) 0 r.st th := by
  rw [ansD_one hl]
  cases kpL (rolR r ms mf mh ls) 0 r.st th <;> rfl
end Go.Proofs.G5p
