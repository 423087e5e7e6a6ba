/- Texts of the proof, put together: GoP1, GoP2, GoP3, GoO4, GoO5, GoPR. -/
import Derived.Test.YteadiejdhplokaaGreatP5
import Derived.Test.YteadiejdhplokaaGreatP4
import Derived.Test.YteadiejdhplokaaGreatProg
/- Chapter 3: how functions are met, and small functions, in data. -/
namespace Go.Proofs.G5o
open Go Go.Abs Go.Proofs Go.Str
set_option maxRecDepth 100000
theorem mixed : Tryz.prog.follows .mixedOrders = true := by kernel_rfl
abbrev C5 : FuncId → List D → List D → Prop := Con Tryz.prog
abbrev dI (a : Int) : D := .val (.int .i64 a)
abbrev dB (b : Bool) : D := .val (.bool b)
abbrev dS (l : List UInt8) : D := .val (.string (bs l))
theorem hokE : HandlerOK Tryz.prog (hE C5) := handlerX_ok mixed (fun g h he => by cases he) (by decide) 6
theorem ite_so {c : Prop} [Decidable c] {α : Type} {x h : α} {r : Option α} (e : (if c then some x else r) = some h) : (c ∧ x = h) ∨ r = some h := by
  by_cases hc : c
  · rw [if_pos hc] at e; exact .inl ⟨hc, Option.some.inj e⟩
  · rw [if_neg hc] at e; exact .inr e
theorem prePOK : PreOK Tryz.prog (preP C5) := by
  intro g h he args ats H k hk
  unfold preP at he
  rcases ite_so he with ⟨_, rfl⟩ | he
  · exact freshH_ok hk
  rcases ite_so he with ⟨_, rfl⟩ | he
  · exact freshH_ok hk
  rcases ite_so he with ⟨_, rfl⟩ | he
  · exact saidH_ok (fun _ _ _ h => h) _ _ _ _ _ hk
  · cases he
theorem hokP : HandlerOK Tryz.prog (hP C5) := handlerX_ok mixed prePOK (by decide) 6
theorem v1le (l : List Int) : 0 + l.length * 1 ≤ (vi l).length := by simp
theorem bc_nf {a : Int} {x y : Prop} : bcase (a != a) x y = y := by rw [show (a != a) = false by simp]; rfl
theorem bc_qt {a : Int} {x y : Prop} : bcase (a == a) x y = x := by rw [show (a == a) = true by simp]; rfl
theorem bcF {x y : Prop} : bcase false x y = y := rfl
theorem bcT {x y : Prop} : bcase true x y = x := rfl
theorem conFE (l : List Int) (hlen : l.length < 1000000000) : C5 48 [.sl l.length 1 (vi l)] [dI (fst0 l)] := by
  let inv : Nat × Nat → Prop := fun x => x.1 ≤ l.length ∧ fst0 l = fst0 (l.drop x.1)
  let st : Nat × Nat → Slots × Blocks := fun x => zFE1 l.length x.2 l.length x.1 (vi l)
  refine con_of (L := fun _ s b => ∃ x, inv x ∧ st x = (s, b)) hokE mixed Tryz.func48 rfl (by show 1 ≤ 400; omega) rfl (ids := [0]) (by kernel_rfl) rfl (fun caps => ?_) (fun id hid => ?_)
  · show gFE _ _ l.length (caps 500) (vi l) _
    rw [gFE_text]
    exact ⟨(0, caps 500), ⟨by simp, rfl⟩, rfl⟩
  · obtain rfl := List.mem_singleton.1 hid
    refine ⟨Nat × Nat, st, inv, fun x => l.length - x.1, ⟨fun s b h => h, by kernel_rfl, ?_⟩⟩
    rintro ⟨i, cap⟩ ⟨hi, hr⟩
    simp only at hi hr
    show rFE1 _ _ l.length cap l.length i (vi l) _ _ _
    rw [rFE1_text]
    refine bc_dec (fun h => ?_) (fun h => ?_)
    · have hi' : i < l.length := by omega
      rw [List.drop_eq_getElem_cons hi', fst0] at hr
      simp only [bc_t h, bc_t (show (0 : Int) ≤ (i : Int) by omega), Int.toNat_natCast, at1 (vi_at l i hi')]
      refine bc_bne (fun hc => ?_) (fun hc => ?_)
      · rw [if_neg hc] at hr
        show [dI l[i]] = [dI (fst0 l)]
        rw [hr]
      · rw [if_pos hc] at hr
        refine ⟨(i + 1, cap), ⟨by show i + 1 ≤ l.length; omega, hr⟩, by show l.length - (i + 1) < l.length - i; omega, ?_⟩
        rw [w64 (by omega) (by omega)]; rfl
    · show (if 0 = 0 then _ else _)
      rw [if_pos rfl]
      show nFE2 _ _ _
      rw [nFE2_text]
      have : i = l.length := by omega
      rw [this, List.drop_length] at hr
      show [dI 0] = [dI (fst0 l)]
      rw [hr]; rfl
theorem conWj (a b c : Int) : C5 9 [dI a, dI b, dI c] [.val (.bool (decide (b ≤ a ∧ a ≤ c)))] := by
  refine con_flat hokE mixed Tryz.func9 rfl (by show 0 ≤ 400; omega) rfl (by kernel_rfl) (fun caps => ?_)
  show gWj _ _ a b c _
  rw [gWj_text]
  refine bc_dec (fun h => bc_dec (fun h2 => ?_) (fun h2 => ?_)) (fun h => ?_)
  · show _ = _; rw [decide_eq_true (show b ≤ a ∧ a ≤ c from ⟨h, h2⟩)]
  · show _ = _; rw [decide_eq_false (show ¬ (b ≤ a ∧ a ≤ c) by omega)]
  · show _ = _; rw [decide_eq_false (show ¬ (b ≤ a ∧ a ≤ c) by omega)]
theorem sayWt {a b c : Int} (h : b ≤ a ∧ a ≤ c) : Says C5 9 [dI a, dI b, dI c] [.val (.bool true)] := by
  have := conWj a b c
  rw [decide_eq_true h] at this
  exact ⟨this⟩
theorem sayWf {a b c : Int} (h : ¬ (b ≤ a ∧ a ≤ c)) : Says C5 9 [dI a, dI b, dI c] [.val (.bool false)] := by
  have := conWj a b c
  rw [decide_eq_false h] at this
  exact ⟨this⟩
theorem sayOr {f : FuncId} {args : List D} {b : Bool} {A B : Prop} (h : C5 f args [dB b]) (h1 : b = true → A) (h2 : b = false → B) : (Says C5 f args [.val (.bool true)] ∧ A) ∨ (Says C5 f args [.val (.bool false)] ∧ B) := by
  cases b with
  | true => exact .inl ⟨⟨h⟩, h1 rfl⟩
  | false => exact .inr ⟨⟨h⟩, h2 rfl⟩
theorem coniL (b : UInt8) : C5 142 [.val (.int .u8 (b.toNat : Int))] [dB (isLet b)] := by
  refine con_flat hokP mixed Tryz.func142 rfl (by show 0 ≤ 400; omega) rfl (by kernel_rfl) (fun caps => ?_)
  show giL _ _ (b.toNat : Int) _
  rw [giL_text]
  repeat' refine bc_dec (fun _ => ?_) (fun _ => ?_)
  all_goals first
    | (show [D.val (Value.bool true)] = [dB (isLet b)]; rw [let_t (by omega)])
    | (show [D.val (Value.bool false)] = [dB (isLet b)]; rw [let_f (by omega)])
theorem coniD (b : UInt8) : C5 143 [.val (.int .u8 (b.toNat : Int))] [dB (isDig b)] := by
  refine con_flat hokP mixed Tryz.func143 rfl (by show 0 ≤ 400; omega) rfl (by kernel_rfl) (fun caps => ?_)
  show giD _ _ (b.toNat : Int) _
  rw [giD_text]
  repeat' refine bc_dec (fun _ => ?_) (fun _ => ?_)
  all_goals first
    | (show [D.val (Value.bool true)] = [dB (isDig b)]; rw [dig_t (by omega)])
    | (show [D.val (Value.bool false)] = [dB (isDig b)]; rw [dig_f (by omega)])
theorem conIN (l : List UInt8) : C5 124 [dS l] [dB (nameOK l)] := by
  let inv : Nat → Prop := fun i => goesN l i
  let st : Nat → Slots × Blocks := fun i => zIN1 (bs l) i
  refine con_of (L := fun _ s b => ∃ x, inv x ∧ st x = (s, b)) hokP mixed Tryz.func124 rfl (by show 0 ≤ 400; omega) rfl (ids := [0]) (by kernel_rfl) rfl (fun caps => ?_) (fun id hid => ?_)
  · show gIN _ _ (bs l) _
    rw [gIN_text]
    simp only [bs_size]
    refine bc_dec (fun h => ?_) (fun h => bc_dec (fun h2 => ?_) (fun h2 => ⟨0, goesN_0 (by omega), rfl⟩))
    · show [D.val (Value.bool false)] = [dB (nameOK l)]
      rw [nameOK_len (by omega)]
    · show [D.val (Value.bool false)] = [dB (nameOK l)]
      rw [nameOK_len (by omega)]
  · obtain rfl := List.mem_singleton.1 hid
    refine ⟨Nat, st, inv, fun x => l.length - x, ⟨fun s b h => h, by kernel_rfl, ?_⟩⟩
    intro i hg
    have hb := hg.1
    have h12 := hg.2.1
    show rIN1 _ _ (bs l) i _ _ _
    rw [rIN1_text]
    simp only [bs_size]
    refine bc_dec (fun h => ?_) (fun h => ?_)
    · have hi : i < l.length := by omega
      simp only [bc_t (show (0 : Int) ≤ (i : Int) by omega), Int.toNat_natCast, byte1 (List.getElem?_eq_getElem hi), wi1 hi (by omega)]
      have good : nameC l[i] = true → (i = 0 → isLet l[i] = true) → ∃ x, inv x ∧ l.length - x < l.length - i ∧ st x = ([(0, Value.string (bs l)), (3, .int .i64 ((i + 1 : Nat) : Int))], []) := fun hc h0 =>
        ⟨i + 1, goesN_step hg hi hc h0, by omega, rfl⟩
      repeat' first
        | refine bc_dec (fun _ => ?_) (fun _ => ?_)
        | refine bc_beq (fun _ => ?_) (fun _ => ?_)
        | refine bc_bne (fun _ => ?_) (fun _ => ?_)
      all_goals first
        | exact good (name_t (by omega)) (fun _ => let_t (by omega))
        | exact good (name_t (by omega)) (fun h0 => absurd h0 (by omega))
        | (show [D.val (Value.bool false)] = [dB (nameOK l)]; rw [goesN_bad hg hi (name_f (by omega))])
        | (show [D.val (Value.bool false)] = [dB (nameOK l)]; rw [goesN_first hi (by omega) (let_f (by omega))])
    · show nIN2 _ _ _
      rw [nIN2_text]
      show [D.val (Value.bool true)] = [dB (nameOK l)]
      rw [goesN_end hg (by omega)]
def lowP (n d : Int) : Prop := 0 < d ∧ Int.gcd n d = 1
instance (n d : Int) : Decidable (lowP n d) := by unfold lowP; infer_instance
theorem v5le (l : List Fv) : 0 + l.length * 5 ≤ (vs5 l).length := by simp
theorem v5_whole (l : List Fv) : List.take (l.length * 5) (List.drop 0 (vs5 l)) = vs5 l := by simp [List.take_of_length_le]
theorem v1_whole (l : List Int) : List.take (l.length * 1) (List.drop 0 (vi l)) = vi l := by simp [List.take_of_length_le]
theorem coniN (l : List UInt8) : C5 125 [dS l] [dB (nameOK l)] := by
  let inv : Nat → Prop := fun i => goesN l i ∧ l.head?.any isLet = true
  let st : Nat → Slots × Blocks := fun i => ziN1 (bs l) l.length i
  refine con_of (L := fun _ s b => ∃ x, inv x ∧ st x = (s, b)) hokP mixed Tryz.func125 rfl (by show 0 ≤ 400; omega) rfl (ids := [0]) (by kernel_rfl) rfl (fun caps => ?_) (fun id hid => ?_)
  · show giN _ _ (bs l) _
    rw [giN_text]
    simp only [bs_size]
    refine bc_beq (fun h => ?_) (fun h => bc_dec (fun h2 => ?_) (fun h2 => ?_))
    · show [dB false] = [dB (nameOK l)]
      rw [nameOK_len (by omega)]
    · show [dB false] = [dB (nameOK l)]
      rw [nameOK_len (by omega)]
    · have hl : 0 < l.length := by omega
      simp only [byte1 (List.getElem?_eq_getElem hl)]
      refine sayOr (coniL _) (fun h3 => ⟨0, ⟨goesN_0 (by omega), ?_⟩, rfl⟩) (fun h3 => ?_)
      · rw [head_of hl]; simpa using h3
      · show [dB false] = [dB (nameOK l)]
        rw [nameOK_head hl h3]
  · obtain rfl := List.mem_singleton.1 hid
    refine ⟨Nat, st, inv, fun x => l.length - x, ⟨fun s b h => h, by kernel_rfl, ?_⟩⟩
    rintro i ⟨hg, hh⟩
    have hb := hg.1
    have h12 := hg.2.1
    show riN1 _ _ (bs l) l.length i _ _ _
    rw [riN1_text]
    refine bc_dec (fun h => ?_) (fun h => ?_)
    · have hi : i < l.length := by omega
      have h0 : i = 0 → isLet l[i] = true := by
        rintro rfl
        rw [head_of hi] at hh; simpa using hh
      simp only [bc_t (show (0 : Int) ≤ (i : Int) by omega), Int.toNat_natCast, byte1 (List.getElem?_eq_getElem hi), wi1 hi (by omega)]
      have good : nameC l[i] = true → ∃ x, inv x ∧ l.length - x < l.length - i ∧ st x = ([(0, Value.string (bs l)), (19, .int .i64 (l.length : Int)), (20, .int .i64 ((i + 1 : Nat) : Int))], []) := fun hc =>
        ⟨i + 1, ⟨goesN_step hg hi hc h0, hh⟩, by omega, rfl⟩
      refine sayOr (coniL _) (fun h1 => good (by unfold nameC; rw [h1]; rfl)) (fun h1 => ?_)
      refine sayOr (coniD _) (fun h2 => good (by unfold nameC; rw [h2]; simp)) (fun h2 => ?_)
      refine bc_bne (fun h3 => ?_) (fun h3 => good (by unfold nameC; rw [show l[i].toNat = 45 by omega]; simp))
      show [dB false] = [dB (nameOK l)]
      rw [goesN_bad hg hi (by unfold nameC; rw [h1, h2]; simp; omega)]
    · show (if 0 = 0 then _ else _)
      rw [if_pos rfl]
      show niN2 _ _ _
      rw [niN2_text]
      show [dB true] = [dB (nameOK l)]
      rw [goesN_end hg (by omega)]
theorem conlT (n d : Int) (hn : -4611686018427387904 ≤ n ∧ n ≤ 4611686018427387904) (hd : 0 < d ∧ d ≤ 4611686018427387904) : C5 52 [dI n, dI d] [.agg [dI (low n d).1, dI (low n d).2]] := by
  have hg := gcd_pos (a := n) (b := d) (.inr (by omega))
  let inv : Int × Int → Prop := fun x => 0 ≤ x.1 ∧ 0 ≤ x.2 ∧ Int.gcd x.1 x.2 = Int.gcd n d
  let st : Int × Int → Slots × Blocks := fun x => zlT1 n d x.1 x.2 0 0
  refine con_of (L := fun _ s b => ∃ x, inv x ∧ st x = (s, b)) hokP mixed Tryz.func52 rfl (by show 0 ≤ 400; omega) rfl (ids := [0]) (by kernel_rfl) rfl (fun caps => ?_) (fun id hid => ?_)
  · show glT _ _ n d _
    rw [glT_text, w64 (by omega) (by omega)]
    refine ⟨(if 0 - n > n then 0 - n else n, d), ⟨by show 0 ≤ (if 0 - n > n then 0 - n else n); split <;> omega, by show 0 ≤ d; omega, ?_⟩, rfl⟩
    show Int.gcd (if 0 - n > n then 0 - n else n) d = _
    split
    · rw [show (0 : Int) - n = -n by omega, Int.neg_gcd]
    · rfl
  · obtain rfl := List.mem_singleton.1 hid
    refine ⟨Int × Int, st, inv, fun x => x.2.natAbs, ⟨fun s b h => h, by kernel_rfl, ?_⟩⟩
    rintro ⟨x, y⟩ ⟨hx, hy, hgx⟩
    simp only at hx hy hgx
    show rlT1 _ _ n d x y 0 0 _ _ _
    rw [rlT1_text]
    refine bc_dec (fun h => ?_) (fun h => ?_)
    · have hne : y ≠ 0 := by omega
      simp only [bc_n hne, true_and, and_true]
      have hlt := gcd_step_lt (a := x) hne
      have hst := gcd_step x y
      exact ⟨(y, x.tmod y), ⟨hy, Int.tmod_nonneg _ hx, by show Int.gcd y (x.tmod y) = _; omega⟩, hlt, rfl⟩
    · show (if 0 = 0 then _ else _)
      rw [if_pos rfl]
      show nlT2 _ _ n d x 0 0 _
      obtain rfl : y = 0 := by omega
      have he := gcd_end x
      rw [if_neg (by omega)] at he
      rw [nlT2_text]
      obtain rfl : x = (Int.gcd n d : Nat) := by omega
      have hne : ((Int.gcd n d : Nat) : Int) ≠ 0 := by omega
      simp only [bc_n hne, true_and, and_true]
      have b1 := tdiv_small (n := n) (g := Int.gcd n d) (by omega) hg
      have b2 := tdiv_small (n := d) (g := Int.gcd n d) (by omega) hg
      rw [w64 (by omega) (by omega), w64 (by omega) (by omega)]
      show [D.agg _] = [D.agg _]
      rw [low, if_neg (by omega)]
end Go.Proofs.G5o

/- Chapter 3: what rules and schedules are valid, in data. -/
namespace Go.Proofs.G5o
open Go Go.Abs Go.Proofs Go.Str
set_option maxRecDepth 100000
/-- rules: the stands are radius, force, torque, and the two ends of the loss -/
structure Ru where
  w : Int
  st : Int
  fi : Int
  hlo : Int
  hhi : Int
  co : Int
  ss : List Fv
  slo : Int
  shi : Int
  flo : Int
  fhi : Int
abbrev Ru.d (r : Ru) : D := .agg [dI r.w, dI r.st, dI r.fi, dI r.hlo, dI r.hhi, dI r.co, .sl r.ss.length 5 (vs5 r.ss), dI r.slo, dI r.shi, dI r.flo, dI r.fhi]
abbrev Ru.dn (r : Ru) : D := .agg [dI r.w, dI r.st, dI r.fi, dI r.hlo, dI r.hhi, dI r.co, .nil, dI r.slo, dI r.shi, dI r.flo, dI r.fhi]
def wE (lo hi : Int) : List Int → Int
  | [] => 0
  | x :: r => if x < lo ∨ x > hi then 2 else wE lo hi r
def eE : List (Int × Int) → Int
  | [] => 0
  | p :: r => if p.1 > p.2 then 9 else eE r
def cntE (n : Nat) : Int := if n = 0 then 10 else if n > 6 then 8 else 0
def rngB (r : Ru) : Prop := (1 ≤ r.w ∧ r.w ≤ 2500) ∧ ((1 ≤ r.st ∧ r.st ≤ 1000) ∧ 1 ≤ r.fi ∧ r.fi ≤ 1000) ∧ ((0 ≤ r.hlo ∧ r.hlo ≤ 20000) ∧ (0 ≤ r.hhi ∧ r.hhi ≤ 20000) ∧ 0 ≤ r.co ∧ r.co ≤ 20000) ∧ ((1 ≤ r.slo ∧ r.slo ≤ 100) ∧ 1 ≤ r.shi ∧ r.shi ≤ 100) ∧ (0 ≤ r.flo ∧ r.flo ≤ 100) ∧ 0 ≤ r.fhi ∧ r.fhi ≤ 100
def ordB (r : Ru) : Prop := r.fi ≤ r.st ∧ r.hlo ≤ r.hhi ∧ r.slo ≤ r.shi ∧ r.flo ≤ r.fhi
instance (r : Ru) : Decidable (rngB r) := by unfold rngB; infer_instance
instance (r : Ru) : Decidable (ordB r) := by unfold ordB; infer_instance
def headE (r : Ru) : Int := if rngB r then if ordB r then cntE r.ss.length else 9 else 2
def stB (s : Fv) : Prop := (1 ≤ s.a ∧ s.a ≤ 1000) ∧ ((0 ≤ s.b ∧ s.b ≤ 1000000000000) ∧ 0 ≤ s.c ∧ s.c ≤ 1000000000000) ∧ (0 ≤ s.d ∧ s.d ≤ 1000) ∧ 0 ≤ s.e ∧ s.e ≤ 1000
instance (s : Fv) : Decidable (stB s) := by unfold stB; infer_instance
def stE (s : Fv) : Int := if stB s then if s.d ≤ s.e then 0 else 9 else 2
def stsE : Int → List Fv → Int × Int
  | _, [] => (0, 0)
  | i, s :: r => if stE s = 0 then stsE (i + 1) r else (i, stE s)
def chk (r : Ru) : Int × Int := if headE r = 0 then stsE 0 r.ss else (0, headE r)
theorem fst0_z (r : List Int) : fst0 (0 :: r) = fst0 r := by rw [fst0, if_pos rfl]
theorem fst0_n {a : Int} (h : a ≠ 0) (r : List Int) : fst0 (a :: r) = a := by rw [fst0, if_neg h]
theorem wE1 (lo hi a : Int) : wE lo hi [a] = if lo ≤ a ∧ a ≤ hi then 0 else 2 := by
  simp only [wE]; split <;> split <;> first | rfl | omega
theorem wE2 (lo hi a b : Int) : wE lo hi [a, b] = if (lo ≤ a ∧ a ≤ hi) ∧ lo ≤ b ∧ b ≤ hi then 0 else 2 := by
  simp only [wE]; repeat' split
  all_goals first | rfl | omega
theorem wE3 (lo hi a b c : Int) : wE lo hi [a, b, c] = if (lo ≤ a ∧ a ≤ hi) ∧ (lo ≤ b ∧ b ≤ hi) ∧ lo ≤ c ∧ c ≤ hi then 0 else 2 := by
  simp only [wE]; repeat' split
  all_goals first | rfl | omega
theorem eE1 (a b : Int) : eE [(a, b)] = if a ≤ b then 0 else 9 := by
  simp only [eE]; repeat' split
  all_goals first | rfl | omega
theorem eE4 (a b c d e f g h : Int) : eE [(a, b), (c, d), (e, f), (g, h)] = if a ≤ b ∧ c ≤ d ∧ e ≤ f ∧ g ≤ h then 0 else 9 := by
  simp only [eE]; repeat' split
  all_goals first | rfl | omega
theorem headE_eq (r : Ru) : fst0 [wE 1 2500 [r.w], wE 1 1000 [r.st, r.fi], wE 0 20000 [r.hlo, r.hhi, r.co], wE 1 100 [r.slo, r.shi], wE 0 100 [r.flo, r.fhi], eE [(r.fi, r.st), (r.hlo, r.hhi), (r.slo, r.shi), (r.flo, r.fhi)], cntE r.ss.length] = headE r := by
  rw [wE1, wE2, wE3, wE2, wE2, eE4]
  have two : ∀ {c : Prop} [Decidable c] (l : List Int) , ¬ c → fst0 ((if c then 0 else 2) :: l) = 2 := fun l h => by rw [if_neg h]; rfl
  have bad : ¬ rngB r → headE r = 2 := fun h => by rw [headE, if_neg h]
  by_cases h1 : 1 ≤ r.w ∧ r.w ≤ 2500
  · rw [if_pos h1, fst0_z]
    by_cases h2 : (1 ≤ r.st ∧ r.st ≤ 1000) ∧ 1 ≤ r.fi ∧ r.fi ≤ 1000
    · rw [if_pos h2, fst0_z]
      by_cases h3 : (0 ≤ r.hlo ∧ r.hlo ≤ 20000) ∧ (0 ≤ r.hhi ∧ r.hhi ≤ 20000) ∧ 0 ≤ r.co ∧ r.co ≤ 20000
      · rw [if_pos h3, fst0_z]
        by_cases h4 : (1 ≤ r.slo ∧ r.slo ≤ 100) ∧ 1 ≤ r.shi ∧ r.shi ≤ 100
        · rw [if_pos h4, fst0_z]
          by_cases h5 : (0 ≤ r.flo ∧ r.flo ≤ 100) ∧ 0 ≤ r.fhi ∧ r.fhi ≤ 100
          · rw [if_pos h5, fst0_z, headE, if_pos (show rngB r from ⟨h1, h2, h3, h4, h5⟩)]
            by_cases h6 : r.fi ≤ r.st ∧ r.hlo ≤ r.hhi ∧ r.slo ≤ r.shi ∧ r.flo ≤ r.fhi
            · rw [if_pos h6, fst0_z, if_pos (show ordB r from h6)]
              by_cases h7 : cntE r.ss.length = 0
              · rw [h7]; rfl
              · rw [fst0_n h7]
            · rw [if_neg h6, if_neg (show ¬ ordB r from h6)]; rfl
          · rw [two _ h5, bad (fun h => h5 h.2.2.2.2)]
        · rw [two _ h4, bad (fun h => h4 h.2.2.2.1)]
      · rw [two _ h3, bad (fun h => h3 h.2.2.1)]
    · rw [two _ h2, bad (fun h => h2 h.2.1)]
  · rw [two _ h1, bad (fun h => h1 h.1)]
theorem stE_eq (s : Fv) : fst0 [wE 1 1000 [s.a], wE 0 1000000000000 [s.b, s.c], wE 0 1000 [s.d, s.e], eE [(s.d, s.e)]] = stE s := by
  rw [wE1, wE2, wE2, eE1]
  have two : ∀ {c : Prop} [Decidable c] (l : List Int) , ¬ c → fst0 ((if c then 0 else 2) :: l) = 2 := fun l h => by rw [if_neg h]; rfl
  have bad : ¬ stB s → stE s = 2 := fun h => by rw [stE, if_neg h]
  by_cases h1 : 1 ≤ s.a ∧ s.a ≤ 1000
  · rw [if_pos h1, fst0_z]
    by_cases h2 : (0 ≤ s.b ∧ s.b ≤ 1000000000000) ∧ 0 ≤ s.c ∧ s.c ≤ 1000000000000
    · rw [if_pos h2, fst0_z]
      by_cases h3 : (0 ≤ s.d ∧ s.d ≤ 1000) ∧ 0 ≤ s.e ∧ s.e ≤ 1000
      · rw [if_pos h3, fst0_z, stE, if_pos (show stB s from ⟨h1, h2, h3⟩)]
        by_cases h4 : s.d ≤ s.e
        · rw [if_pos h4]; rfl
        · rw [if_neg h4]; rfl
      · rw [two _ h3, bad (fun h => h3 h.2.2)]
    · rw [two _ h2, bad (fun h => h2 h.2.1)]
  · rw [two _ h1, bad (fun h => h1 h.1)]
theorem wE_drop {lo hi : Int} (l : List Int) (i : Nat) (h : i < l.length) : wE lo hi (l.drop i) = if l[i] < lo ∨ l[i] > hi then 2 else wE lo hi (l.drop (i + 1)) := by
  rw [List.drop_eq_getElem_cons h]; rfl
theorem conCW (lo hi : Int) (l : List Int) (hlen : l.length < 1000000000) : C5 49 [dI lo, dI hi, .sl l.length 1 (vi l)] [dI (wE lo hi l)] := by
  let inv : Nat × Nat → Prop := fun x => x.1 ≤ l.length ∧ wE lo hi l = wE lo hi (l.drop x.1)
  let st : Nat × Nat → Slots × Blocks := fun x => zCW1 lo hi l.length x.2 l.length x.1 (vi l)
  refine con_of (L := fun _ s b => ∃ x, inv x ∧ st x = (s, b)) hokE mixed Tryz.func49 rfl (by show 1 ≤ 400; omega) rfl (ids := [0]) (by kernel_rfl) rfl (fun caps => ?_) (fun id hid => ?_)
  · show gCW _ _ lo hi l.length (caps 500) (vi l) _
    rw [gCW_text]
    exact ⟨(0, caps 500), ⟨by simp, rfl⟩, rfl⟩
  · obtain rfl := List.mem_singleton.1 hid
    refine ⟨Nat × Nat, st, inv, fun x => l.length - x.1, ⟨fun s b h => h, by kernel_rfl, ?_⟩⟩
    rintro ⟨i, cap⟩ ⟨hi', hr⟩
    simp only at hi' hr
    show rCW1 _ _ lo hi l.length cap l.length i (vi l) _ _ _
    rw [rCW1_text]
    refine bc_dec (fun h => ?_) (fun h => ?_)
    · have hi2 : i < l.length := by omega
      rw [wE_drop l i hi2] at hr
      simp only [bc_t h, bc_t (show (0 : Int) ≤ (i : Int) by omega), Int.toNat_natCast, at1 (vi_at l i hi2)]
      refine bc_dec (fun h1 => ?_) (fun h1 => bc_dec (fun h2 => ?_) (fun h2 => ?_))
      · rw [if_pos (.inl h1)] at hr; show [dI 2] = _; rw [hr]
      · rw [if_pos (.inr h2)] at hr; show [dI 2] = _; rw [hr]
      · rw [if_neg (by omega)] at hr
        refine ⟨(i + 1, cap), ⟨hi2, hr⟩, by show l.length - (i + 1) < l.length - i; omega, ?_⟩
        rw [w64 (by omega) (by omega)]; rfl
    · show (if 0 = 0 then _ else _)
      rw [if_pos rfl]
      show nCW2 _ _ _
      rw [nCW2_text]
      have : i = l.length := by omega
      rw [this, List.drop_length] at hr
      show [dI 0] = _
      rw [hr]; rfl
theorem eE_drop (l : List (Int × Int)) (i : Nat) (h : i < l.length) : eE (l.drop i) = if l[i].1 > l[i].2 then 9 else eE (l.drop (i + 1)) := by
  rw [List.drop_eq_getElem_cons h]; rfl
theorem conCN (l : List (Int × Int)) (hlen : l.length < 1000000000) : C5 137 [.sl l.length 2 (vp l)] [dI (eE l)] := by
  let inv : Nat × Nat → Prop := fun x => x.1 ≤ l.length ∧ eE l = eE (l.drop x.1)
  let st : Nat × Nat → Slots × Blocks := fun x => zCN1 l.length x.2 l.length x.1 (vp l)
  refine con_of (L := fun _ s b => ∃ x, inv x ∧ st x = (s, b)) hokE mixed Tryz.func137 rfl (by show 1 ≤ 400; omega) rfl (ids := [0]) (by kernel_rfl) rfl (fun caps => ?_) (fun id hid => ?_)
  · show gCN _ _ l.length (caps 500) (vp l) _
    rw [gCN_text]
    exact ⟨(0, caps 500), ⟨by simp, rfl⟩, rfl⟩
  · obtain rfl := List.mem_singleton.1 hid
    refine ⟨Nat × Nat, st, inv, fun x => l.length - x.1, ⟨fun s b h => h, by kernel_rfl, ?_⟩⟩
    rintro ⟨i, cap⟩ ⟨hi', hr⟩
    simp only at hi' hr
    show rCN1 _ _ l.length cap l.length i (vp l) _ _ _
    rw [rCN1_text]
    refine bc_dec (fun h => ?_) (fun h => ?_)
    · have hi2 : i < l.length := by omega
      rw [eE_drop l i hi2] at hr
      simp only [bc_t h, bc_t (show (0 : Int) ≤ (i : Int) by omega), Int.toNat_natCast, at2 (vp_two l i hi2)]
      refine bc_dec (fun h1 => ?_) (fun h1 => ?_)
      · rw [if_pos h1] at hr; show [dI 9] = _; rw [hr]
      · rw [if_neg h1] at hr
        refine ⟨(i + 1, cap), ⟨hi2, hr⟩, by show l.length - (i + 1) < l.length - i; omega, ?_⟩
        rw [w64 (by omega) (by omega)]; rfl
    · show (if 0 = 0 then _ else _)
      rw [if_pos rfl]
      show nCN2 _ _ _
      rw [nCN2_text]
      have : i = l.length := by omega
      rw [this, List.drop_length] at hr
      show [dI 0] = _
      rw [hr]; rfl
theorem conCC (l : List Fv) : C5 138 [.sl l.length 5 (vs5 l)] [dI (cntE l.length)] := by
  refine con_flat hokE mixed Tryz.func138 rfl (by show 1 ≤ 400; omega) rfl (by kernel_rfl) (fun caps => ?_)
  show gCC _ _ l.length (caps 500) (vs5 l) _
  rw [gCC_text]; unfold cntE
  refine bc_beq (fun h => ?_) (fun h => bc_dec (fun h2 => ?_) (fun h2 => ?_))
  · show _ = _; rw [if_pos (by omega)]
  · show _ = _; rw [if_neg (by omega), if_pos (by omega)]
  · show _ = _; rw [if_neg (by omega), if_neg (by omega)]
theorem conCS (s : Fv) : C5 139 [.agg [dI s.a, dI s.b, dI s.c, dI s.d, dI s.e]] [dI (stE s)] := by
  refine con_flat hokP mixed Tryz.func139 rfl (by show 0 ≤ 400; omega) rfl (by kernel_rfl) (fun caps => ?_)
  show gCS _ _ s.a s.b s.c s.d s.e _
  rw [gCS_text]
  simp only [Qv, eq_self, true_and, and_true]
  refine ⟨_, ⟨conCW 1 1000 [s.a] (by simp)⟩, _, ⟨conCW 0 1000000000000 [s.b, s.c] (by simp)⟩, _, ⟨conCW 0 1000 [s.d, s.e] (by simp)⟩, _, ⟨conCN [(s.d, s.e)] (by simp)⟩, _, ⟨conFE [_, _, _, _] (by simp)⟩, ?_⟩
  show [dI _] = [dI _]
  rw [stE_eq]
theorem conCT (h : Int) : C5 126 [dI h] [dI (wE 1 1000 [h])] := by
  refine con_flat hokP mixed Tryz.func126 rfl (by show 0 ≤ 400; omega) rfl (by kernel_rfl) (fun caps => ?_)
  show gCT _ _ h _
  rw [gCT_text]
  exact ⟨_, ⟨conCW 1 1000 [h] (by simp)⟩, rfl⟩
theorem stsE_drop (l : List Fv) (i : Nat) (h : i < l.length) : stsE i (l.drop i) = if stE l[i] = 0 then stsE ((i + 1 : Nat) : Int) (l.drop (i + 1)) else ((i : Int), stE l[i]) := by
  rw [List.drop_eq_getElem_cons h]; rfl
theorem conKR (r : Ru) (hlen : r.ss.length < 1000000000) : C5 114 [r.d] [dI (chk r).1, dI (chk r).2] := by
  let inv : Nat × Nat → Prop := fun x => x.1 ≤ r.ss.length ∧ chk r = stsE x.1 (r.ss.drop x.1)
  let st : Nat × Nat → Slots × Blocks := fun x => zKR1 r.ss.length x.2 r.ss.length x.1 (vs5 r.ss)
  refine con_of (L := fun _ s b => ∃ x, inv x ∧ st x = (s, b)) hokP mixed Tryz.func114 rfl (by show 1 ≤ 400; omega) rfl (ids := [0]) (by kernel_rfl) rfl (fun caps => ?_) (fun id hid => ?_)
  · show gKR _ _ r.w r.st r.fi r.hlo r.hhi r.co r.ss.length (caps 500) (vs5 r.ss) r.slo r.shi r.flo r.fhi _
    rw [gKR_text]
    simp only [Qv, eq_self, true_and, and_true]
    refine ⟨_, ⟨conCW 1 2500 [r.w] (by simp)⟩, _, ⟨conCW 1 1000 [r.st, r.fi] (by simp)⟩, _, ⟨conCW 0 20000 [r.hlo, r.hhi, r.co] (by simp)⟩, _, ⟨conCW 1 100 [r.slo, r.shi] (by simp)⟩, _, ⟨conCW 0 100 [r.flo, r.fhi] (by simp)⟩, _, ⟨conCN [(r.fi, r.st), (r.hlo, r.hhi), (r.slo, r.shi), (r.flo, r.fhi)] (by simp)⟩, ?_⟩
    rw [bc_t (v5le r.ss), v5_whole]
    refine ⟨_, ⟨conCC r.ss⟩, _, ⟨conFE [_, _, _, _, _, _, _] (by simp)⟩, ?_⟩
    rw [headE_eq]
    refine bc_bne (fun h => ?_) (fun h => ⟨(0, caps 500), ⟨Nat.zero_le _, by rw [chk, if_pos h]; rfl⟩, rfl⟩)
    show [dI 0, dI (headE r)] = _
    rw [chk, if_neg h]
  · obtain rfl := List.mem_singleton.1 hid
    refine ⟨Nat × Nat, st, inv, fun x => r.ss.length - x.1, ⟨fun s b h => h, by kernel_rfl, ?_⟩⟩
    rintro ⟨i, cap⟩ ⟨hi', hr⟩
    simp only at hi' hr
    show rKR1 _ _ r.ss.length cap r.ss.length i (vs5 r.ss) _ _ _
    rw [rKR1_text]
    refine bc_dec (fun h => ?_) (fun h => ?_)
    · have hi2 : i < r.ss.length := by omega
      rw [stsE_drop r.ss i hi2] at hr
      simp only [bc_t h, bc_t (show (0 : Int) ≤ (i : Int) by omega), Int.toNat_natCast, at5 (vs5_all r.ss i hi2)]
      refine ⟨_, ⟨conCS r.ss[i]⟩, bc_bne (fun h1 => ?_) (fun h1 => ?_)⟩
      · rw [if_neg h1] at hr; show [dI (i : Int), dI (stE _)] = _; rw [hr]
      · rw [if_pos h1] at hr
        refine ⟨(i + 1, cap), ⟨hi2, hr⟩, by show r.ss.length - (i + 1) < r.ss.length - i; omega, ?_⟩
        rw [w64 (by omega) (by omega)]; rfl
    · show (if 0 = 0 then _ else _)
      rw [if_pos rfl]
      show nKR2 _ _ _
      rw [nKR2_text]
      have : i = r.ss.length := by omega
      rw [this, List.drop_length] at hr
      show [dI 0, dI 0] = _
      rw [hr]; rfl
/-- a schedule's errors, for rules without one -/
def thE (n : Nat) (fi : Int) : Int → Int → List Int → Int × Int
  | _, before, [] => if before ≠ fi then ((n : Int) - 1, 14) else (0, 0)
  | i, before, h :: l => if ¬ (1 ≤ h ∧ h ≤ 1000) then (i, 2) else if h > before then (i, 9) else thE n fi (i + 1) h l
def schE (r : Ru) (nm : List UInt8) (th : List Int) : Int × Int := if nameOK nm = true then if th.length = r.ss.length then thE r.ss.length r.fi 0 r.st th else (0, 10) else (0, 4)
def schP (r : Ru) (nm : List UInt8) (th : List Int) : Int × Int := if (chk r).2 = 0 then schE r nm th else (0, (chk r).2)
abbrev scD (nm : List UInt8) (th : List Int) : D := .agg [dS nm, .sl th.length 1 (vi th)]
theorem thE_drop {n : Nat} {fi b : Int} (l : List Int) (i : Nat) (h : i < l.length) : thE n fi i b (l.drop i) = if ¬ (1 ≤ l[i] ∧ l[i] ≤ 1000) then ((i : Int), 2) else if l[i] > b then ((i : Int), 9) else thE n fi ((i + 1 : Nat) : Int) l[i] (l.drop (i + 1)) := by
  rw [List.drop_eq_getElem_cons h]; rfl
theorem conKS (r : Ru) (nm : List UInt8) (th : List Int) (hlen : r.ss.length < 1000000000) (hth : th.length < 1000000000) : C5 95 [r.d, scD nm th] [dI (schP r nm th).1, dI (schP r nm th).2] := by
  let inv : Nat × Nat × Nat × Int → Prop := fun x => x.1 ≤ th.length ∧ schP r nm th = thE r.ss.length r.fi x.1 x.2.2.2 (th.drop x.1)
  let st : Nat × Nat × Nat × Int → Slots × Blocks := fun x => zKS1 x.2.2.2 th.length x.2.1 th.length x.1 r.w r.st r.fi r.hlo r.hhi r.co r.ss.length x.2.2.1 r.slo r.shi r.flo r.fhi (vi th) (vs5 r.ss)
  refine con_of (L := fun _ s b => ∃ x, inv x ∧ st x = (s, b)) hokP mixed Tryz.func95 rfl (by show 2 ≤ 400; omega) rfl (ids := [1]) (by kernel_rfl) rfl (fun caps => ?_) (fun id hid => ?_)
  · show gKS _ _ r.w r.st r.fi r.hlo r.hhi r.co r.ss.length (caps 500) (vs5 r.ss) r.slo r.shi r.flo r.fhi (bs nm) th.length (caps 501) (vi th) _
    rw [gKS_text, bc_t (v5le r.ss), v5_whole]
    refine ⟨_, _, ⟨conKR r hlen⟩, bc_bne (fun h => ?_) (fun h => ?_)⟩
    · show [dI 0, dI _] = _
      rw [schP, if_neg h]
    · refine sayOr (coniN nm) (fun hn => bc_bne (fun h2 => ?_) (fun h2 => ?_)) (fun hn => ?_)
      · show [dI 0, dI 10] = _
        rw [schP, if_pos h, schE, if_pos hn, if_neg (by omega)]
      · exact ⟨(0, caps 501, caps 500, r.st), ⟨Nat.zero_le _, by rw [schP, if_pos h, schE, if_pos hn, if_pos (by omega)]; rfl⟩, rfl⟩
      · show [dI 0, dI 4] = _
        rw [schP, if_pos h, schE, if_neg (by rw [hn]; simp)]
  · obtain rfl := List.mem_singleton.1 hid
    refine ⟨Nat × Nat × Nat × Int, st, inv, fun x => th.length - x.1, ⟨fun s b h => h, by kernel_rfl, ?_⟩⟩
    rintro ⟨i, c1, c2, b⟩ ⟨hi', hr⟩
    simp only at hi' hr
    show rKS1 _ _ b th.length c1 th.length i r.w r.st r.fi r.hlo r.hhi r.co r.ss.length c2 r.slo r.shi r.flo r.fhi (vi th) (vs5 r.ss) _ _ _
    rw [rKS1_text]
    refine bc_dec (fun h => ?_) (fun h => ?_)
    · have hi2 : i < th.length := by omega
      rw [thE_drop th i hi2] at hr
      simp only [bc_t h, bc_t (show (0 : Int) ≤ (i : Int) by omega), Int.toNat_natCast, at1 (vi_at th i hi2)]
      refine ⟨_, ⟨conCT th[i]⟩, ?_⟩
      rw [wE1]
      by_cases h3 : 1 ≤ th[i] ∧ th[i] ≤ 1000
      · rw [if_neg (fun hh => hh h3)] at hr
        rw [if_pos h3]
        show bcase _ _ _
        refine bc_dec (fun h4 => ?_) (fun h4 => ?_)
        · rw [if_pos h4] at hr; show [dI (i : Int), dI 9] = _; rw [hr]
        · rw [if_neg h4] at hr
          refine ⟨(i + 1, c1, c2, th[i]), ⟨hi2, hr⟩, by show th.length - (i + 1) < th.length - i; omega, ?_⟩
          rw [w64 (by omega) (by omega)]; rfl
      · rw [if_pos h3] at hr
        rw [if_neg h3]
        show [dI (i : Int), dI 2] = _
        rw [hr]
    · show (if 1 = 1 then _ else _)
      rw [if_pos rfl]
      show nKS2 _ _ b r.w r.st r.fi r.hlo r.hhi r.co r.ss.length c2 r.slo r.shi r.flo r.fhi (vs5 r.ss) _
      rw [nKS2_text]
      have : i = th.length := by omega
      rw [this, List.drop_length, thE] at hr
      refine bc_bne (fun h2 => ?_) (fun h2 => ?_)
      · rw [if_pos h2] at hr; rw [hr, w64 (by omega) (by omega)]
      · rw [if_neg (by omega)] at hr; rw [hr]
end Go.Proofs.G5o

/- Chapter 3: the reference's checks, in data. -/
namespace Go.Proofs.G5o
open Go Go.Abs Go.Proofs Go.Str
set_option maxRecDepth 100000
theorem sayW {a b c : Int} {A B : Prop} (h1 : b ≤ a ∧ a ≤ c → A) (h2 : ¬ (b ≤ a ∧ a ≤ c) → B) : (Says C5 9 [dI a, dI b, dI c] [.val (.bool true)] ∧ A) ∨ (Says C5 9 [dI a, dI b, dI c] [.val (.bool false)] ∧ B) := by
  by_cases h : b ≤ a ∧ a ≤ c
  · exact .inl ⟨sayWt h, h1 h⟩
  · exact .inr ⟨sayWf h, h2 h⟩
theorem chk_rng {r : Ru} (h : ¬ rngB r) : chk r = (0, 2) := by
  have : headE r = 2 := by rw [headE, if_neg h]
  rw [chk, this]; rfl
theorem chk_ord {r : Ru} (h1 : rngB r) (h2 : ¬ ordB r) : chk r = (0, 9) := by
  have : headE r = 9 := by rw [headE, if_pos h1, if_neg h2]
  rw [chk, this]; rfl
theorem chk_cnt {r : Ru} (h1 : rngB r) (h2 : ordB r) : chk r = if cntE r.ss.length = 0 then stsE 0 r.ss else (0, cntE r.ss.length) := by
  rw [chk, headE, if_pos h1, if_pos h2]
theorem conRK (r : Ru) (hlen : r.ss.length < 1000000000) : C5 93 [r.d] [dI (chk r).1, dI (chk r).2] := by
  let inv : Nat × Nat → Prop := fun x => x.1 ≤ r.ss.length ∧ chk r = stsE x.1 (r.ss.drop x.1)
  let st : Nat × Nat → Slots × Blocks := fun x => zRK1 x.1 r.w r.st r.fi r.hlo r.hhi r.co r.ss.length x.2 r.slo r.shi r.flo r.fhi (vs5 r.ss)
  refine con_of (L := fun _ s b => ∃ x, inv x ∧ st x = (s, b)) hokP mixed Tryz.func93 rfl (by show 1 ≤ 400; omega) rfl (ids := [0]) (by kernel_rfl) rfl (fun caps => ?_) (fun id hid => ?_)
  · show gRK _ _ r.w r.st r.fi r.hlo r.hhi r.co r.ss.length (caps 500) (vs5 r.ss) r.slo r.shi r.flo r.fhi _
    rw [gRK_text]
    have bad : ¬ rngB r → [dI 0, dI 2] = [dI (chk r).1, dI (chk r).2] := fun h => by rw [chk_rng h]
    refine sayW (fun h1 => ?_) (fun h1 => bad (fun h => h1 h.1))
    refine sayW (fun h2 => ?_) (fun h2 => bad (fun h => h2 h.2.1.1))
    refine sayW (fun h3 => ?_) (fun h3 => bad (fun h => h3 h.2.1.2))
    refine sayW (fun h4 => ?_) (fun h4 => bad (fun h => h4 h.2.2.1.1))
    refine sayW (fun h5 => ?_) (fun h5 => bad (fun h => h5 h.2.2.1.2.1))
    refine sayW (fun h6 => ?_) (fun h6 => bad (fun h => h6 h.2.2.1.2.2))
    refine sayW (fun h7 => ?_) (fun h7 => bad (fun h => h7 h.2.2.2.1.1))
    refine sayW (fun h8 => ?_) (fun h8 => bad (fun h => h8 h.2.2.2.1.2))
    refine sayW (fun h9 => ?_) (fun h9 => bad (fun h => h9 h.2.2.2.2.1))
    refine sayW (fun h10 => ?_) (fun h10 => bad (fun h => h10 h.2.2.2.2.2))
    have hr : rngB r := ⟨h1, ⟨h2, h3⟩, ⟨h4, h5, h6⟩, ⟨h7, h8⟩, h9, h10⟩
    have bad2 : ¬ ordB r → [dI 0, dI 9] = [dI (chk r).1, dI (chk r).2] := fun h => by rw [chk_ord hr h]
    refine bc_dec (fun g1 => bad2 (fun h => by have := h.1; omega)) (fun g1 => ?_)
    refine bc_dec (fun g2 => bad2 (fun h => by have := h.2.1; omega)) (fun g2 => ?_)
    refine bc_dec (fun g3 => bad2 (fun h => by have := h.2.2.1; omega)) (fun g3 => ?_)
    refine bc_dec (fun g4 => bad2 (fun h => by have := h.2.2.2; omega)) (fun g4 => ?_)
    have ho : ordB r := ⟨by omega, by omega, by omega, by omega⟩
    have hc := chk_cnt hr ho
    refine bc_beq (fun g5 => ?_) (fun g5 => bc_dec (fun g6 => ?_) (fun g6 => ?_))
    · have e : cntE r.ss.length = 10 := by rw [cntE, if_pos (by omega)]
      rw [hc, e]; rfl
    · have e : cntE r.ss.length = 8 := by rw [cntE, if_neg (by omega), if_pos (by omega)]
      rw [hc, e]; rfl
    · have e : cntE r.ss.length = 0 := by rw [cntE, if_neg (by omega), if_neg (by omega)]
      exact ⟨(0, caps 500), ⟨Nat.zero_le _, by rw [hc, e]; rfl⟩, rfl⟩
  · obtain rfl := List.mem_singleton.1 hid
    refine ⟨Nat × Nat, st, inv, fun x => r.ss.length - x.1, ⟨fun s b h => h, by kernel_rfl, ?_⟩⟩
    rintro ⟨i, cap⟩ ⟨hi', hr⟩
    simp only at hi' hr
    show rRK1 _ _ i r.w r.st r.fi r.hlo r.hhi r.co r.ss.length cap r.slo r.shi r.flo r.fhi (vs5 r.ss) _ _ _
    rw [rRK1_text]
    refine bc_dec (fun h => ?_) (fun h => ?_)
    · have hi2 : i < r.ss.length := by omega
      rw [stsE_drop r.ss i hi2] at hr
      simp only [bc_t h, bc_t (show (0 : Int) ≤ (i : Int) by omega), Int.toNat_natCast, at5 (vs5_all r.ss i hi2)]
      have bad : ¬ stB r.ss[i] → [dI (i : Int), dI 2] = [dI (chk r).1, dI (chk r).2] := fun h => by
        have e : stE r.ss[i] = 2 := by rw [stE, if_neg h]
        rw [e, if_neg (by omega)] at hr; rw [hr]
      refine sayW (fun h1 => ?_) (fun h1 => bad (fun h => h1 h.1))
      refine sayW (fun h2 => ?_) (fun h2 => bad (fun h => h2 h.2.1.1))
      refine sayW (fun h3 => ?_) (fun h3 => bad (fun h => h3 h.2.1.2))
      refine sayW (fun h4 => ?_) (fun h4 => bad (fun h => h4 h.2.2.1))
      refine sayW (fun h5 => ?_) (fun h5 => bad (fun h => h5 h.2.2.2))
      have hb : stB r.ss[i] := ⟨h1, ⟨h2, h3⟩, h4, h5⟩
      refine bc_dec (fun h6 => ?_) (fun h6 => ?_)
      · have e : stE r.ss[i] = 9 := by rw [stE, if_pos hb, if_neg (by omega)]
        rw [e, if_neg (by omega)] at hr
        show [dI (i : Int), dI 9] = _
        rw [hr]
      · have e : stE r.ss[i] = 0 := by rw [stE, if_pos hb, if_pos (by omega)]
        rw [if_pos e] at hr
        refine ⟨(i + 1, cap), ⟨hi2, hr⟩, by show r.ss.length - (i + 1) < r.ss.length - i; omega, ?_⟩
        rw [w64 (by omega) (by omega)]; rfl
    · show (if 0 = 0 then _ else _)
      rw [if_pos rfl]
      show nRK2 _ _ _
      rw [nRK2_text]
      have : i = r.ss.length := by omega
      rw [this, List.drop_length] at hr
      show [dI 0, dI 0] = _
      rw [hr]; rfl
theorem conRKn (r : Ru) (hnil : r.ss = []) : C5 93 [r.dn] [dI (chk r).1, dI (chk r).2] := by
  refine con_of (L := fun _ s b => False) hokP mixed Tryz.func93 rfl (by show 0 ≤ 400; omega) rfl (ids := [0]) (by kernel_rfl) rfl (fun caps => ?_) (fun id hid => ?_)
  · show gRKn _ _ r.w r.st r.fi r.hlo r.hhi r.co r.slo r.shi r.flo r.fhi _
    rw [gRKn_text]
    have bad : ¬ rngB r → [dI 0, dI 2] = [dI (chk r).1, dI (chk r).2] := fun h => by rw [chk_rng h]
    refine sayW (fun h1 => ?_) (fun h1 => bad (fun h => h1 h.1))
    refine sayW (fun h2 => ?_) (fun h2 => bad (fun h => h2 h.2.1.1))
    refine sayW (fun h3 => ?_) (fun h3 => bad (fun h => h3 h.2.1.2))
    refine sayW (fun h4 => ?_) (fun h4 => bad (fun h => h4 h.2.2.1.1))
    refine sayW (fun h5 => ?_) (fun h5 => bad (fun h => h5 h.2.2.1.2.1))
    refine sayW (fun h6 => ?_) (fun h6 => bad (fun h => h6 h.2.2.1.2.2))
    refine sayW (fun h7 => ?_) (fun h7 => bad (fun h => h7 h.2.2.2.1.1))
    refine sayW (fun h8 => ?_) (fun h8 => bad (fun h => h8 h.2.2.2.1.2))
    refine sayW (fun h9 => ?_) (fun h9 => bad (fun h => h9 h.2.2.2.2.1))
    refine sayW (fun h10 => ?_) (fun h10 => bad (fun h => h10 h.2.2.2.2.2))
    have hr : rngB r := ⟨h1, ⟨h2, h3⟩, ⟨h4, h5, h6⟩, ⟨h7, h8⟩, h9, h10⟩
    have bad2 : ¬ ordB r → [dI 0, dI 9] = [dI (chk r).1, dI (chk r).2] := fun h => by rw [chk_ord hr h]
    refine bc_dec (fun g1 => bad2 (fun h => by have := h.1; omega)) (fun g1 => ?_)
    refine bc_dec (fun g2 => bad2 (fun h => by have := h.2.1; omega)) (fun g2 => ?_)
    refine bc_dec (fun g3 => bad2 (fun h => by have := h.2.2.1; omega)) (fun g3 => ?_)
    refine bc_dec (fun g4 => bad2 (fun h => by have := h.2.2.2; omega)) (fun g4 => ?_)
    have ho : ordB r := ⟨by omega, by omega, by omega, by omega⟩
    have hc := chk_cnt hr ho
    have e : cntE r.ss.length = 10 := by rw [hnil]; rfl
    first
      | (refine bc_beq (fun g5 => ?_) (fun g5 => absurd rfl g5); rw [hc, e]; rfl)
      | (rw [hc, e]; rfl)
  · obtain rfl := List.mem_singleton.1 hid
    exact ⟨Unit, fun _ => ([], []), fun _ => False, fun _ => 0, ⟨fun s b h => h.elim, by kernel_rfl, fun _ h => h.elim⟩⟩
theorem conRE (r : Ru) (hlen : r.ss.length < 1000000000) : C5 45 [r.d] [dI (chk r).2] := by
  refine con_flat hokP mixed Tryz.func45 rfl (by show 1 ≤ 400; omega) rfl (by kernel_rfl) (fun caps => ?_)
  show gRE _ _ r.w r.st r.fi r.hlo r.hhi r.co r.ss.length (caps 500) (vs5 r.ss) r.slo r.shi r.flo r.fhi _
  rw [gRE_text, bc_t (v5le r.ss), v5_whole]
  exact ⟨_, _, ⟨conRK r hlen⟩, rfl⟩
theorem conREn (r : Ru) (hnil : r.ss = []) : C5 45 [r.dn] [dI (chk r).2] := by
  refine con_flat hokP mixed Tryz.func45 rfl (by show 0 ≤ 400; omega) rfl (by kernel_rfl) (fun caps => ?_)
  show gREn _ _ r.w r.st r.fi r.hlo r.hhi r.co r.slo r.shi r.flo r.fhi _
  rw [gREn_text]
  exact ⟨_, _, ⟨conRKn r hnil⟩, rfl⟩
theorem conRS (r : Ru) (nm : List UInt8) (th : List Int) (hlen : r.ss.length < 1000000000) (hth : th.length < 1000000000) : C5 94 [r.d, scD nm th] [dI (schE r nm th).1, dI (schE r nm th).2] := by
  let inv : Nat × Nat × Nat × Int → Prop := fun x => x.1 ≤ th.length ∧ schE r nm th = thE r.ss.length r.fi x.1 x.2.2.2 (th.drop x.1)
  let st : Nat × Nat × Nat × Int → Slots × Blocks := fun x => zRS1 x.2.2.2 x.1 r.w r.st r.fi r.hlo r.hhi r.co r.ss.length x.2.1 r.slo r.shi r.flo r.fhi (bs nm) th.length x.2.2.1 (vs5 r.ss) (vi th)
  refine con_of (L := fun _ s b => ∃ x, inv x ∧ st x = (s, b)) hokP mixed Tryz.func94 rfl (by show 2 ≤ 400; omega) rfl (ids := [0]) (by kernel_rfl) rfl (fun caps => ?_) (fun id hid => ?_)
  · show gRS _ _ r.w r.st r.fi r.hlo r.hhi r.co r.ss.length (caps 500) (vs5 r.ss) r.slo r.shi r.flo r.fhi (bs nm) th.length (caps 501) (vi th) _
    rw [gRS_text]
    refine sayOr (conIN nm) (fun hn => bc_bne (fun h2 => ?_) (fun h2 => ?_)) (fun hn => ?_)
    · show [dI 0, dI 10] = _
      rw [schE, if_pos hn, if_neg (by omega)]
    · exact ⟨(0, caps 500, caps 501, r.st), ⟨Nat.zero_le _, by rw [schE, if_pos hn, if_pos (by omega)]; rfl⟩, rfl⟩
    · show [dI 0, dI 4] = _
      rw [schE, if_neg (by rw [hn]; simp)]
  · obtain rfl := List.mem_singleton.1 hid
    refine ⟨Nat × Nat × Nat × Int, st, inv, fun x => th.length - x.1, ⟨fun s b h => h, by kernel_rfl, ?_⟩⟩
    rintro ⟨i, c1, c2, b⟩ ⟨hi', hr⟩
    simp only at hi' hr
    show rRS1 _ _ b i r.w r.st r.fi r.hlo r.hhi r.co r.ss.length c1 r.slo r.shi r.flo r.fhi (bs nm) th.length c2 (vs5 r.ss) (vi th) _ _ _
    rw [rRS1_text]
    refine bc_dec (fun h => ?_) (fun h => ?_)
    · have hi2 : i < th.length := by omega
      rw [thE_drop th i hi2] at hr
      simp only [bc_t h, bc_t (show (0 : Int) ≤ (i : Int) by omega), Int.toNat_natCast, at1 (vi_at th i hi2)]
      refine sayW (fun h3 => ?_) (fun h3 => ?_)
      · rw [if_neg (fun hh => hh h3)] at hr
        refine bc_dec (fun h4 => ?_) (fun h4 => ?_)
        · rw [if_pos h4] at hr; show [dI (i : Int), dI 9] = _; rw [hr]
        · rw [if_neg h4] at hr
          refine ⟨(i + 1, c1, c2, th[i]), ⟨hi2, hr⟩, by show th.length - (i + 1) < th.length - i; omega, ?_⟩
          rw [w64 (by omega) (by omega)]; rfl
      · rw [if_pos h3] at hr
        show [dI (i : Int), dI 2] = _
        rw [hr]
    · show (if 0 = 0 then _ else _)
      rw [if_pos rfl]
      show nRS2 _ _ b r.w r.st r.fi r.hlo r.hhi r.co r.ss.length c1 r.slo r.shi r.flo r.fhi (vs5 r.ss) _
      rw [nRS2_text]
      have : i = th.length := by omega
      rw [this, List.drop_length, thE] at hr
      refine bc_bne (fun h2 => ?_) (fun h2 => ?_)
      · rw [if_pos h2] at hr; rw [hr, w64 (by omega) (by omega)]
      · rw [if_neg (by omega)] at hr; rw [hr]
end Go.Proofs.G5o

/- Chapter 3: what the reference gives back, in data. -/
namespace Go.Proofs.G5o
open Go Go.Abs Go.Proofs Go.Str
set_option maxRecDepth 100000
abbrev scN (nm : List UInt8) : D := .agg [dS nm, .nil]
theorem conRSn (r : Ru) (nm : List UInt8) (h0 : 0 < r.ss.length) (hlen : r.ss.length < 1000000000) : C5 94 [r.d, scN nm] [dI (schE r nm []).1, dI (schE r nm []).2] := by
  refine con_of (L := fun _ s b => False) hokP mixed Tryz.func94 rfl (by show 1 ≤ 400; omega) rfl (ids := [0]) (by kernel_rfl) rfl (fun caps => ?_) (fun id hid => ?_)
  · show gRSn _ _ r.w r.st r.fi r.hlo r.hhi r.co r.ss.length (caps 500) (vs5 r.ss) r.slo r.shi r.flo r.fhi (bs nm) _
    rw [gRSn_text]
    refine sayOr (conIN nm) (fun hn => bc_bne (fun h2 => ?_) (fun h2 => absurd h2 (by omega))) (fun hn => ?_)
    · show [dI 0, dI 10] = _
      rw [schE, if_pos hn, if_neg (by simp; omega)]
    · show [dI 0, dI 4] = _
      rw [schE, if_neg (by rw [hn]; simp)]
  · obtain rfl := List.mem_singleton.1 hid
    exact ⟨Unit, fun _ => ([], []), fun _ => False, fun _ => 0, ⟨fun s b h => h.elim, by kernel_rfl, fun _ h => h.elim⟩⟩
/-- the thickness before a stand -/
def bfr (b : Int) (th : List Int) : Nat → Int
  | 0 => b
  | i + 1 => th.getD i 0
/-- thicknesses descend -/
def Desc : Int → List Int → Prop
  | _, [] => True
  | b, h :: l => (1 ≤ h ∧ h ≤ 1000) ∧ h ≤ b ∧ Desc h l
theorem thE_ok {n : Nat} {fi : Int} : ∀ (l : List Int) (i b : Int), 0 ≤ i → (thE n fi i b l).2 = 0 → Desc b l
  | [], _, _, _, _ => trivial
  | h :: l, i, b, hi, e => by
    rw [thE] at e
    split at e
    · simp at e
    · split at e
      · simp at e
      · rename_i h1 h2
        exact ⟨by omega, by omega, thE_ok l (i + 1) h (by omega) e⟩
theorem desc_at : ∀ {l : List Int} {b : Int} (i : Nat) (hi : i < l.length), Desc b l → 1 ≤ b ∧ b ≤ 1000 → (1 ≤ l[i] ∧ l[i] ≤ 1000) ∧ l[i] ≤ bfr b l i ∧ 1 ≤ bfr b l i ∧ bfr b l i ≤ 1000
  | h :: l, b, 0, _, d, hb => ⟨d.1, d.2.1, hb⟩
  | h :: l, b, i + 1, hi, d, hb => by
    have hi' : i < l.length := by simpa using hi
    have := desc_at i hi' d.2.2 d.1
    have e : bfr b (h :: l) (i + 1) = bfr h l i := by cases i <;> simp [bfr]
    rw [e]; exact this
structure VS (r : Ru) (th : List Int) : Prop where
  rng : rngB r
  ord : ordB r
  n0 : 0 < r.ss.length
  n6 : r.ss.length ≤ 6
  len : th.length = r.ss.length
  desc : Desc r.st th
theorem VS.at {r : Ru} {th : List Int} (v : VS r th) {i : Nat} (hi : i < th.length) : (1 ≤ th[i] ∧ th[i] ≤ 1000) ∧ th[i] ≤ bfr r.st th i ∧ 1 ≤ bfr r.st th i ∧ bfr r.st th i ≤ 1000 := desc_at i hi v.desc v.rng.2.1.1
theorem vs_of {r : Ru} {nm : List UInt8} {th : List Int} (h1 : (chk r).2 = 0) (h2 : (schE r nm th).2 = 0) : VS r th := by
  have hr : rngB r := Decidable.byContradiction fun h => by rw [chk_rng h] at h1; simp at h1
  have ho : ordB r := Decidable.byContradiction fun h => by rw [chk_ord hr h] at h1; simp at h1
  rw [chk_cnt hr ho] at h1
  have hc : cntE r.ss.length = 0 := Decidable.byContradiction fun h => by rw [if_neg h] at h1; exact h h1
  unfold cntE at hc
  rw [schE] at h2
  split at h2
  · split at h2
    · exact ⟨hr, ho, by split at hc <;> omega, by split at hc <;> first | omega | (split at hc <;> omega), by assumption, thE_ok _ _ _ (Int.le_refl 0) h2⟩
    · simp at h2
  · simp at h2
theorem conbf (r : Ru) (nm : List UInt8) (th : List Int) (k : Nat) (hk : k < th.length) (hth : th.length < 1000000000) : C5 70 [r.d, scD nm th, dI (k : Int)] [dI (bfr r.st th k)] := by
  refine con_flat hokP mixed Tryz.func70 rfl (by show 2 ≤ 400; omega) rfl (by kernel_rfl) (fun caps => ?_)
  show gbf _ _ r.w r.st r.fi r.hlo r.hhi r.co r.ss.length (caps 500) (vs5 r.ss) r.slo r.shi r.flo r.fhi (bs nm) th.length (caps 501) (vi th) (k : Int) _
  rw [gbf_text]
  refine bc_beq (fun h => ?_) (fun h => ?_)
  · obtain rfl : k = 0 := by omega
    rfl
  · obtain ⟨j, rfl⟩ : ∃ j, k = j + 1 := ⟨k - 1, by omega⟩
    have e : IntKind.wrap .i64 (((j + 1 : Nat) : Int) - 1) = (j : Int) := by rw [w64 (by omega) (by omega)]; omega
    have hj : j < th.length := by omega
    simp only [e, bc_t (show (0 : Int) ≤ (j : Int) by omega), bc_t (show (j : Int) < (th.length : Int) by omega), Int.toNat_natCast, at1 (vi_at th j hj)]
    show [dI th[j]] = [dI (th.getD j 0)]
    simp [List.getD, List.getElem?_eq_getElem hj]
theorem vp_snoc {l : List (Int × Int)} {i : Nat} (h : i < l.length) {a b : Int} (e : l[i] = (a, b)) : List.take (i * 2) (List.drop 0 (vp (l.take i))) ++ [.int .i64 a, .int .i64 b] = vp (l.take (i + 1)) := by
  rw [List.take_succ_eq_append_getElem h, List.drop_zero, List.take_of_length_le (by simp; omega), e]
  generalize l.take i = m
  induction m with
  | nil => rfl
  | cons p r ih => simp only [List.cons_append, vp, ih]
theorem getD_at {th : List Int} {i : Nat} (hi : i < th.length) : th.getD i 0 = th[i] := by simp [List.getD, List.getElem?_eq_getElem hi]
end Go.Proofs.G5o

/- Chapter 3: loads and margins of a draught, in data. -/
namespace Go.Proofs.G5o
open Go Go.Abs Go.Proofs Go.Str
set_option maxRecDepth 100000
/-- a draught of valid rules -/
structure DrOK (r : Ru) (k : Nat) (b h : Int) : Prop where
  rng : rngB r
  sts : ∀ s ∈ r.ss, stB s
  k : k < r.ss.length
  n : r.ss.length ≤ 6
  h1 : 1 ≤ h
  hb : h ≤ b
  b1 : b ≤ 1000
abbrev drD (k : Nat) (b h : Int) : D := .agg [dI k, dI b, dI h]
theorem mulB {a b : Int} (A B : Int) (ha : 0 ≤ a ∧ a ≤ A) (hb : 0 ≤ b ∧ b ≤ B) : 0 ≤ a * b ∧ a * b ≤ A * B :=
  ⟨Int.mul_nonneg ha.1 hb.1, Int.mul_le_mul ha.2 hb.2 hb.1 (by omega)⟩
theorem mulS {a b : Int} (A B : Int) (ha : -A ≤ a ∧ a ≤ A) (hb : 0 ≤ b ∧ b ≤ B) : -(A * B) ≤ a * b ∧ a * b ≤ A * B := by
  have hA : 0 ≤ A := by omega
  by_cases h : 0 ≤ a
  · have := mulB A B ⟨h, ha.2⟩ hb; have h2 : 0 ≤ A * B := Int.mul_nonneg hA (by omega); omega
  · have := mulB (a := -a) (b := b) A B ⟨by omega, by omega⟩ hb
    have h2 : 0 ≤ A * B := Int.mul_nonneg hA (by omega)
    rw [Int.neg_mul] at this; omega
def frc (w b h s f : Int) : Int := if b = h then 0 else w * (s * (b - h) + f * (b + h))
theorem frc_bd {w b h s f : Int} (hw : 1 ≤ w ∧ w ≤ 2500) (h1 : 1 ≤ h) (hb : h ≤ b) (b1 : b ≤ 1000) (hs : 0 ≤ s ∧ s ≤ 100) (hf : 0 ≤ f ∧ f ≤ 100) : (0 ≤ s * (b - h) ∧ s * (b - h) ≤ 100000) ∧ (0 ≤ f * (b + h) ∧ f * (b + h) ≤ 200000) ∧ (0 ≤ w * (s * (b - h) + f * (b + h)) ∧ w * (s * (b - h) + f * (b + h)) ≤ 750000000) ∧ 0 ≤ frc w b h s f ∧ frc w b h s f ≤ 750000000 := by
  have e1 := mulB (a := s) (b := b - h) 100 1000 hs (by omega)
  have e2 := mulB (a := f) (b := b + h) 100 2000 hf (by omega)
  have e3 := mulB (a := w) (b := s * (b - h) + f * (b + h)) 2500 300000 (by omega) (by omega)
  refine ⟨by omega, by omega, by omega, ?_⟩
  unfold frc; split <;> omega
theorem confB (r : Ru) (k : Nat) (b h s f : Int) (v : DrOK r k b h) (hs : 0 ≤ s ∧ s ≤ 100) (hf : 0 ≤ f ∧ f ≤ 100) : C5 104 [r.d, drD k b h, dI s, dI f] [dI (frc r.w b h s f)] := by
  refine con_flat hokP mixed Tryz.func104 rfl (by show 1 ≤ 400; omega) rfl (by kernel_rfl) (fun caps => ?_)
  show gfB _ _ r.w r.st r.fi r.hlo r.hhi r.co r.ss.length (caps 500) (vs5 r.ss) r.slo r.shi r.flo r.fhi (k : Int) b h s f _
  rw [gfB_text]
  have hw := v.rng.1
  have h1 := v.h1
  have h2 := v.hb
  have h3 := v.b1
  have e := frc_bd hw h1 h2 h3 hs hf
  refine bc_beq (fun g => ?_) (fun g => ?_)
  · show [dI 0] = _; rw [frc, if_pos g]
  · rw [w64 (z := b - h) (by omega) (by omega), w64 (z := s * (b - h)) (by omega) (by omega), w64 (z := b + h) (by omega) (by omega), w64 (z := f * (b + h)) (by omega) (by omega), w64 (z := s * (b - h) + f * (b + h)) (by omega) (by omega), w64 (by omega) (by omega)]
    simp only [Qv, true_and]
    rw [frc, if_neg g]
theorem DrOK.sl {r : Ru} {k : Nat} {b h : Int} (v : DrOK r k b h) : (0 ≤ r.slo ∧ r.slo ≤ 100) ∧ (0 ≤ r.shi ∧ r.shi ≤ 100) ∧ (0 ≤ r.flo ∧ r.flo ≤ 100) ∧ (0 ≤ r.fhi ∧ r.fhi ≤ 100) := by
  have := v.rng
  unfold rngB at this
  omega
abbrev fl (r : Ru) (b h : Int) : Int := frc r.w b h r.slo r.flo
abbrev fh (r : Ru) (b h : Int) : Int := frc r.w b h r.shi r.fhi
theorem DrOK.fl {r : Ru} {k : Nat} {b h : Int} (v : DrOK r k b h) : 0 ≤ fl r b h ∧ fl r b h ≤ 750000000 := (frc_bd v.rng.1 v.h1 v.hb v.b1 v.sl.1 v.sl.2.2.1).2.2.2
theorem DrOK.fh {r : Ru} {k : Nat} {b h : Int} (v : DrOK r k b h) : 0 ≤ fh r b h ∧ fh r b h ≤ 750000000 := (frc_bd v.rng.1 v.h1 v.hb v.b1 v.sl.2.1 v.sl.2.2.2).2.2.2
theorem confo (r : Ru) (k : Nat) (b h : Int) (v : DrOK r k b h) : C5 65 [r.d, drD k b h] [.agg [dI (fl r b h), dI (fh r b h)]] := by
  refine con_flat hokP mixed Tryz.func65 rfl (by show 1 ≤ 400; omega) rfl (by kernel_rfl) (fun caps => ?_)
  show gfo _ _ r.w r.st r.fi r.hlo r.hhi r.co r.ss.length (caps 500) (vs5 r.ss) r.slo r.shi r.flo r.fhi (k : Int) b h _
  rw [gfo_text]
  simp only [bc_t (v5le r.ss), v5_whole, Qv, true_and]
  exact ⟨_, ⟨confB r k b h r.slo r.flo v v.sl.1 v.sl.2.2.1⟩, _, ⟨confB r k b h r.shi r.fhi v v.sl.2.1 v.sl.2.2.2⟩, rfl⟩
theorem conto (r : Ru) (k : Nat) (b h : Int) (v : DrOK r k b h) : C5 66 [r.d, drD k b h] [.agg [dI (fl r b h * (b - h)), dI (fh r b h * (b - h))]] := by
  refine con_flat hokP mixed Tryz.func66 rfl (by show 1 ≤ 400; omega) rfl (by kernel_rfl) (fun caps => ?_)
  show gto _ _ r.w r.st r.fi r.hlo r.hhi r.co r.ss.length (caps 500) (vs5 r.ss) r.slo r.shi r.flo r.fhi (k : Int) b h _
  rw [gto_text, bc_t (v5le r.ss), v5_whole]
  have h1 := v.h1
  have h2 := v.hb
  have h3 := v.b1
  have e1 := mulB 750000000 1000 v.fl (show 0 ≤ b - h ∧ b - h ≤ 1000 by omega)
  have e2 := mulB 750000000 1000 v.fh (show 0 ≤ b - h ∧ b - h ≤ 1000 by omega)
  refine ⟨_, _, ⟨confo r k b h v⟩, ?_⟩
  rw [w64 (z := b - h) (by omega) (by omega), w64 (by omega) (by omega), w64 (by omega) (by omega)]
  simp only [Qv, true_and]
theorem conmT (l x y : Int) (hl : 0 ≤ l ∧ l ≤ 1000000000000) (hx : 0 ≤ x ∧ x ≤ 750000000000) (hy : 0 ≤ y ∧ y ≤ 750000000000) : C5 105 [dI l, .agg [dI x, dI y]] [.agg [dI (100 * (l - y)), dI (100 * (l - x))]] := by
  refine con_flat hokP mixed Tryz.func105 rfl (by show 0 ≤ 400; omega) rfl (by kernel_rfl) (fun caps => ?_)
  show gmT _ _ l x y _
  rw [gmT_text, w64 (z := l - y) (by omega) (by omega), w64 (z := l - x) (by omega) (by omega), w64 (by omega) (by omega), w64 (by omega) (by omega)]
def stA (r : Ru) (k : Nat) : Fv := r.ss.getD k ⟨0, 0, 0, 0, 0⟩
theorem stA_at {r : Ru} {k : Nat} (hk : k < r.ss.length) : stA r k = r.ss[k] := by simp [stA, List.getD, List.getElem?_eq_getElem hk]
def bit (r : Ru) (k : Nat) (b h f : Int) : Int := if b = h then 0 else f * (stA r k).a - 100 * (b - h)
theorem conbi (r : Ru) (k : Nat) (b h : Int) (v : DrOK r k b h) : C5 106 [r.d, drD k b h] [.agg [dI (bit r k b h r.flo), dI (bit r k b h r.fhi)]] := by
  refine con_flat hokP mixed Tryz.func106 rfl (by show 1 ≤ 400; omega) rfl (by kernel_rfl) (fun caps => ?_)
  show gbi _ _ r.w r.st r.fi r.hlo r.hhi r.co r.ss.length (caps 500) (vs5 r.ss) r.slo r.shi r.flo r.fhi (k : Int) b h _
  rw [gbi_text]
  simp only [Qv, eq_self, true_and, and_true]
  refine bc_beq (fun g => ?_) (fun g => ?_)
  · show [D.agg [dI 0, dI 0]] = _; rw [bit, bit, if_pos g, if_pos g]
  · have hk := v.k
    have h1 := v.h1
    have h2 := v.hb
    have h3 := v.b1
    have a1 := vs5_one r.ss k hk 0 (.int .i64 (r.ss[k]).a) rfl
    have hs := (v.sts _ (List.getElem_mem hk)).1
    simp only [Nat.add_zero] at a1
    simp only [bc_t (show (0 : Int) ≤ (k : Int) by omega), bc_t (show (k : Int) < (r.ss.length : Int) by omega), Int.toNat_natCast, at1 a1, eq_self, true_and, and_true, Int.one_mul]
    have e1 := mulB 100 1000 v.sl.2.2.1 (show 0 ≤ r.ss[k].a ∧ r.ss[k].a ≤ 1000 by omega)
    have e2 := mulB 100 1000 v.sl.2.2.2 (show 0 ≤ r.ss[k].a ∧ r.ss[k].a ≤ 1000 by omega)
    have b1 := v.sl.2.2
    rw [w64 (z := b - h) (by omega) (by omega), w64 (z := 100 * (b - h)) (by omega) (by omega), w64 (z := r.flo) (by omega) (by omega), w64 (z := r.fhi) (by omega) (by omega), w64 (z := r.flo * r.ss[k].a) (by omega) (by omega), w64 (z := r.fhi * r.ss[k].a) (by omega) (by omega), w64 (by omega) (by omega), w64 (by omega) (by omega)]
    rw [bit, bit, if_neg g, if_neg g, stA_at hk]
/-- the losses of some stands -/
def sumD : List Fv → Int
  | [] => 0
  | s :: r => s.d + sumD r
def sumE : List Fv → Int
  | [] => 0
  | s :: r => s.e + sumE r
theorem sumD_app (s : Fv) : ∀ l : List Fv, sumD (l ++ [s]) = sumD l + s.d
  | [] => by simp [sumD]
  | p :: r => by simp only [List.cons_append, sumD, sumD_app s r]; omega
theorem sumE_app (s : Fv) : ∀ l : List Fv, sumE (l ++ [s]) = sumE l + s.e
  | [] => by simp [sumE]
  | p :: r => by simp only [List.cons_append, sumE, sumE_app s r]; omega
theorem sumD_snoc {l : List Fv} {i : Nat} (h : i < l.length) : sumD (l.take (i + 1)) = sumD (l.take i) + l[i].d := by
  rw [List.take_succ_eq_append_getElem h, sumD_app]
theorem sumE_snoc {l : List Fv} {i : Nat} (h : i < l.length) : sumE (l.take (i + 1)) = sumE (l.take i) + l[i].e := by
  rw [List.take_succ_eq_append_getElem h, sumE_app]
theorem sum_bd {l : List Fv} (hs : ∀ s ∈ l, stB s) : ∀ i : Nat, i ≤ l.length → (0 ≤ sumD (l.take i) ∧ sumD (l.take i) ≤ 1000 * (i : Int)) ∧ 0 ≤ sumE (l.take i) ∧ sumE (l.take i) ≤ 1000 * (i : Int)
  | 0, _ => by simp [sumD, sumE]
  | i + 1, hi => by
    have := sum_bd hs i (by omega)
    have h2 := (hs _ (List.getElem_mem (show i < l.length by omega))).2.2
    rw [sumD_snoc (by omega), sumE_snoc (by omega)]
    omega
def hL (r : Ru) (k : Nat) (h : Int) : Int := 100 * (r.hlo - sumE (r.ss.take (k + 1))) + (r.st - h) * r.slo
def hH (r : Ru) (k : Nat) (h : Int) : Int := 100 * (r.hhi - sumD (r.ss.take (k + 1))) + (r.st - h) * r.shi
theorem DrOK.ht {r : Ru} {k : Nat} {b h : Int} (v : DrOK r k b h) : (-1000000000 ≤ hL r k h ∧ hL r k h ≤ 1000000000) ∧ -1000000000 ≤ hH r k h ∧ hH r k h ≤ 1000000000 := by
  have h1 := v.h1
  have h2 := v.hb
  have h3 := v.b1
  have hk := v.k
  have hn := v.n
  have hs := sum_bd v.sts (k + 1) (by omega)
  have hr := v.rng
  unfold rngB at hr
  have e1 := mulS (a := r.st - h) (b := r.slo) 1000 100 (by omega) (by omega)
  have e2 := mulS (a := r.st - h) (b := r.shi) 1000 100 (by omega) (by omega)
  unfold hL hH
  omega
theorem conhe (r : Ru) (k : Nat) (b h : Int) (v : DrOK r k b h) : C5 69 [r.d, drD k b h] [.agg [dI (hL r k h), dI (hH r k h)]] := by
  have hk := v.k
  have hn := v.n
  let inv : Nat × Nat × Nat → Prop := fun x => x.1 ≤ k + 1
  let st : Nat × Nat × Nat → Slots × Blocks := fun x => zhe1 (k + 1) x.2.1 ((k + 1 : Nat) : Int) x.1 r.w r.st r.fi r.hlo r.hhi r.co r.ss.length x.2.2 r.slo r.shi r.flo r.fhi (k : Int) b h 0 0 (sumD (r.ss.take x.1)) (sumE (r.ss.take x.1)) (vs5 r.ss)
  refine con_ofC (L := fun _ s b => ∃ x, inv x ∧ st x = (s, b)) hokP mixed Tryz.func69 rfl (by show 1 ≤ 400; omega) rfl (ids := [0]) (by kernel_rfl) rfl (fun caps hcap => ?_) (fun id hid => ?_)
  · show ghe _ _ r.w r.st r.fi r.hlo r.hhi r.co r.ss.length (caps 500) (vs5 r.ss) r.slo r.shi r.flo r.fhi (k : Int) b h _
    rw [ghe_text]
    have hc : r.ss.length ≤ caps 500 := by simp [capsL, layVals, layCells] at hcap; exact hcap
    rw [w64 (z := (k : Int) + 1) (by omega) (by omega), bc_t (show (0 : Int) ≤ (k : Int) + 1 by omega), bc_t (show (k : Int) + 1 ≤ (caps 500 : Int) by omega), show ((k : Int) + 1).toNat - 0 = k + 1 by omega]
    exact ⟨(0, caps 500 - 0, caps 500), Nat.zero_le _, rfl⟩
  · obtain rfl := List.mem_singleton.1 hid
    refine ⟨Nat × Nat × Nat, st, inv, fun x => k + 1 - x.1, ⟨fun s b h => h, by kernel_rfl, ?_⟩⟩
    rintro ⟨i, c1, c2⟩ hi
    have hi : i ≤ k + 1 := hi
    show rhe1 _ _ (k + 1) c1 ((k + 1 : Nat) : Int) i r.w r.st r.fi r.hlo r.hhi r.co r.ss.length c2 r.slo r.shi r.flo r.fhi (k : Int) b h 0 0 (sumD (r.ss.take i)) (sumE (r.ss.take i)) (vs5 r.ss) _ _ _
    rw [rhe1_text]
    refine bc_dec (fun g => ?_) (fun g => ?_)
    · have hi2 : i < r.ss.length := by omega
      simp only [bc_t (show (0 : Int) ≤ (i : Int) by omega), bc_t g, Int.toNat_natCast, at5 (vs5_all r.ss i hi2)]
      have hs := sum_bd v.sts (i + 1) (by omega)
      rw [sumD_snoc hi2, sumE_snoc hi2] at hs
      refine ⟨(i + 1, c1, c2), by show i + 1 ≤ k + 1; omega, by show k + 1 - (i + 1) < k + 1 - i; omega, ?_⟩
      show zhe1 _ _ _ _ _ _ _ _ _ _ _ _ _ _ _ _ _ _ _ _ _ _ _ _ = _
      rw [sumD_snoc hi2, sumE_snoc hi2, w64 (z := (i : Int) + 1) (by omega) (by omega), w64 (z := sumD _ + _) (by omega) (by omega), w64 (z := sumE _ + _) (by omega) (by omega)]; rfl
    · show (if 0 = 0 then _ else _)
      rw [if_pos rfl]
      obtain rfl : i = k + 1 := by omega
      show nhe2 _ _ r.w r.st r.fi r.hlo r.hhi r.co r.ss.length c2 r.slo r.shi r.flo r.fhi (k : Int) b h 0 0 (sumD (r.ss.take (k + 1))) (sumE (r.ss.take (k + 1))) (vs5 r.ss) _
      rw [nhe2_text]
      have h1 := v.h1
      have h2 := v.hb
      have h3 := v.b1
      have hs := sum_bd v.sts (k + 1) (by omega)
      have hr := v.rng
      unfold rngB at hr
      have e1 := mulS (a := r.st - h) (b := r.slo) 1000 100 (by omega) (by omega)
      have e2 := mulS (a := r.st - h) (b := r.shi) 1000 100 (by omega) (by omega)
      simp only [Int.one_mul]
      rw [w64 (z := r.hlo - _) (by omega) (by omega), w64 (z := r.hhi - _) (by omega) (by omega), w64 (z := 100 * (r.hlo - _)) (by omega) (by omega), w64 (z := 100 * (r.hhi - _)) (by omega) (by omega), w64 (z := r.st - h) (by omega) (by omega), w64 (z := r.st - h) (by omega) (by omega), w64 (z := (r.st - h) * r.slo) (by omega) (by omega), w64 (z := (r.st - h) * r.shi) (by omega) (by omega), w64 (by omega) (by omega), w64 (by omega) (by omega)]
      rfl
/-- the margins of a draught, by their limits -/
def mar (r : Ru) (k : Nat) (b h : Int) : List (Int × Int) := [(100 * ((stA r k).b - fh r b h), 100 * ((stA r k).b - fl r b h)), (100 * ((stA r k).c - fh r b h * (b - h)), 100 * ((stA r k).c - fl r b h * (b - h))), (bit r k b h r.flo, bit r k b h r.fhi), (hL r k h - 100 * r.co, hH r k h - 100 * r.co)]
def marD (l : List (Int × Int)) : D := .agg (l.flatMap fun p => [dI p.1, dI p.2])
theorem conma (r : Ru) (k : Nat) (b h : Int) (v : DrOK r k b h) : C5 76 [r.d, drD k b h] [marD (mar r k b h)] := by
  refine con_flat hokP mixed Tryz.func76 rfl (by show 1 ≤ 400; omega) rfl (by kernel_rfl) (fun caps => ?_)
  show gma _ _ r.w r.st r.fi r.hlo r.hhi r.co r.ss.length (caps 500) (vs5 r.ss) r.slo r.shi r.flo r.fhi (k : Int) b h _
  rw [gma_text]
  have hk := v.k
  have h1 := v.h1
  have h2 := v.hb
  have h3 := v.b1
  have hs := v.sts _ (List.getElem_mem hk)
  unfold stB at hs
  have hco := v.rng.2.2.1.2.2
  have e1 := mulB 750000000 1000 v.fl (show 0 ≤ b - h ∧ b - h ≤ 1000 by omega)
  have e2 := mulB 750000000 1000 v.fh (show 0 ≤ b - h ∧ b - h ≤ 1000 by omega)
  have hfl := v.fl
  have hfh := v.fh
  have hht := v.ht
  simp only [bc_t (show (0 : Int) ≤ (k : Int) by omega), bc_t (show (k : Int) < (r.ss.length : Int) by omega), Int.toNat_natCast, at5 (vs5_all r.ss k hk), Qv, eq_self, true_and, and_true, bc_t (v5le r.ss), v5_whole]
  refine ⟨_, _, ⟨conhe r k b h v⟩, _, _, ⟨confo r k b h v⟩, _, _, ⟨conmT _ _ _ (by omega) (by omega) (by omega)⟩, _, _, ⟨conto r k b h v⟩, _, _, ⟨conmT _ _ _ (by omega) (by omega) (by omega)⟩, _, _, ⟨conbi r k b h v⟩, ?_⟩
  rw [w64 (z := 100 * r.co) (by omega) (by omega), w64 (by omega) (by omega), w64 (by omega) (by omega)]
  simp only [marD, mar, stA_at hk, List.flatMap_cons, List.flatMap_nil, List.cons_append, List.nil_append]
end Go.Proofs.G5o

/- What is left to show of each function, written out; the kernel reckons it. -/
namespace Go.Proofs.G5o.R
open Go Go.Abs Go.Proofs
set_option maxRecDepth 100000
set_option linter.unusedVariables false
abbrev vI (n : Int) : Value := .int .i64 n
abbrev Ct := FuncId → List D → List D → Prop
abbrev Bx := Slots → Blocks → Prop
abbrev Xx := Nat → Slots → Blocks → Prop
abbrev Ex := Exit → Slots → Blocks → Prop
abbrev Kh := FuncId → List Value → Blocks → Slots → Blocks → Prop
abbrev hE (C : Ct) : Handler := handlerX Tryz.prog (fun _ => none) 12 6
def preP (C : Ct) : FuncId → Option Handler := fun g => if [95, 48, 49, 137, 52, 69, 76, 65, 66, 106, 105, 104].contains g then some (saidH Tryz.prog C) else none
abbrev hP (C : Ct) : Handler := handlerX Tryz.prog (preP C) 12 6
def gDo (C : Ct) (L : AtLoop) (rs : List (List D)) (w : Int) (st : Int) (fi : Int) (ha : Int) (hb : Int) (co : Int) (sa : Int) (sb : Int) (fa : Int) (fb : Int) (n0 : Nat) (c0 : Nat) (l0 : List Value) (nm : ByteArray) (n1 : Nat) (c1 : Nat) (l1 : List Value) (K : Value → Blocks → Prop) : Prop := jFn Tryz.prog (hE C) L [] 107 #[.func (.yield 915) #[] #[], .pointer (some ⟨500, 0, none⟩), .pointer (some ⟨501, 0, none⟩)] (heapOf [(915, .yld false (some rs)), (500, .cells [.int .i64 w, .int .i64 st, .int .i64 fi, .int .i64 ha, .int .i64 hb, .int .i64 co, .slice (some ⟨502, 0, none⟩) n0 c0, .int .i64 sa, .int .i64 sb, .int .i64 fa, .int .i64 fb] 89 false 1), (501, .cells [.string nm, .slice (some ⟨503, 0, none⟩) n1 c1] 29 false 1), (502, .sym l0 false 5), (503, .sym l1 false 1)]) (stateK K)
theorem gDo_text (C : Ct) (L : AtLoop) (rs : List (List D)) (w : Int) (st : Int) (fi : Int) (ha : Int) (hb : Int) (co : Int) (sa : Int) (sb : Int) (fa : Int) (fb : Int) (n0 : Nat) (c0 : Nat) (l0 : List Go.Value) (nm : ByteArray) (n1 : Nat) (c1 : Nat) (l1 : List Go.Value) (K : Go.Value → Blocks → Prop) : gDo C L rs w st fi ha hb co sa sb fa fb n0 c0 l0 nm n1 c1 l1 K =
 (L 0 [(Prod.mk 0 (Value.func (Go.Fn.yield 915) [].toArray [].toArray)), (Prod.mk 4 (vI st)), (Prod.mk 11 (Sl 503 (n1) (c1))), (Prod.mk 12 (vI ((↑n1 : Int)))), (Prod.mk 13 (vI 0))] [(Prod.mk 915 (AObj.yld false (some (rs)))), (Prod.mk 503 (AObj.sym (l1) false 1))]) := by kernel_rfl
abbrev zDo1 (x0 : Int) (n1 : Nat) (c2 : Nat) (x3 : Int) (x4 : Int) (rs5 : List (List D)) (l6 : List Value) : Slots × Blocks := ([(0, (Value.func (.yield 915) #[] #[])), (4, (Value.int .i64 x0)), (11, (Value.slice (some ⟨503, 0, none⟩) n1 c2)), (12, (Value.int .i64 x3)), (13, (Value.int .i64 x4))], [(915, (AObj.yld false (some rs5))), (503, (AObj.sym l6 false 1))])
def rDo1 (C : Ct) (L : AtLoop) (x0 : Int) (n1 : Nat) (c2 : Nat) (x3 : Int) (x4 : Int) (rs5 : List (List D)) (l6 : List Value) (B : Bx) (X : Xx) (K : Value → Blocks → Prop) : Prop := jRound Tryz.prog (hE C) L [] 107 0 [(0, (Value.func (.yield 915) #[] #[])), (4, (Value.int .i64 x0)), (11, (Value.slice (some ⟨503, 0, none⟩) n1 c2)), (12, (Value.int .i64 x3)), (13, (Value.int .i64 x4))] [(915, (AObj.yld false (some rs5))), (503, (AObj.sym l6 false 1))] B X (stateK K)
theorem rDo1_text (C : Ct) (L : AtLoop) (x0 : Int) (n1 : Nat) (c2 : Nat) (x3 : Int) (x4 : Int) (rs5 : List (List D)) (l6 : List Go.Value) (B : Bx) (X : Xx) (K : Go.Value → Blocks → Prop) : rDo1 C L x0 n1 c2 x3 x4 rs5 l6 B X K =
 (bcase (decide (x4 < x3))
 (bcase (decide (0 ≤ x4))
 (bcase (decide (x4 < (↑n1 : Int)))
 (∃ n2 : Int,
 ((At (l6) (0 + Int.toNat x4 * 1) 1 [(vI n2)]) ∧
 (∃ rest'1 : List (List D),
 ((NextIs (rs5) [(D.agg [(D.val (vI x4)), (D.val (vI x0)), (D.val (vI n2))])] (rest'1)) ∧
 ((B [(Prod.mk 0 (Value.func (Go.Fn.yield 915) [].toArray [].toArray)), (Prod.mk 4 (vI n2)), (Prod.mk 11 (Sl 503 (n1) (c2))), (Prod.mk 12 (vI x3)), (Prod.mk 13 (vI (IntKind.wrap .i64 (x4 + 1))))] [(Prod.mk 915 (AObj.yld false (some (rest'1)))), (Prod.mk 503 (AObj.sym (l6) false 1))]) ∧
 (K (Value.tuple [].toArray) [(Prod.mk 915 (AObj.yld false none))]))))))
 False)
 False)
 (X 0 [] [(Prod.mk 915 (AObj.yld false (some (rs5))))])) := by kernel_rfl
def nDo2 (C : Ct) (L : AtLoop) (rs0 : List (List D)) (K : Value → Blocks → Prop) : Prop := jNext Tryz.prog (hE C) L [] 107 0 .normal [] [(915, (AObj.yld false (some rs0)))] (stateK K)
theorem nDo2_text (C : Ct) (L : AtLoop) (rs0 : List (List D)) (K : Go.Value → Blocks → Prop) : nDo2 C L rs0 K =
 (K (Value.tuple [].toArray) [(Prod.mk 915 (AObj.yld false (some (rs0))))]) := by kernel_rfl
def gaF (C : Ct) (L : AtLoop) (x0 : Int) (x1 : Int) (x2 : Int) (x3 : Int) (x4 : Int) (x5 : Int) (n6 : Nat) (c6 : Nat) (l6 : List Value) (x7 : Int) (x8 : Int) (x9 : Int) (x10 : Int) (s11 : ByteArray) (n12 : Nat) (c12 : Nat) (l12 : List Value) (k : List D → Prop) : Prop := jFn Tryz.prog (hP C) L [] 77 #[.agg #[.int .i64 x0, .int .i64 x1, .int .i64 x2, .int .i64 x3, .int .i64 x4, .int .i64 x5, .slice (some ⟨500, 0, none⟩) n6 c6, .int .i64 x7, .int .i64 x8, .int .i64 x9, .int .i64 x10], .agg #[.string s11, .slice (some ⟨501, 0, none⟩) n12 c12]] (heapOf [(500, .sym l6 false 5), (501, .sym l12 false 1)]) (dataK k)
theorem gaF_text (C : Ct) (L : AtLoop) (x0 : Int) (x1 : Int) (x2 : Int) (x3 : Int) (x4 : Int) (x5 : Int) (n6 : Nat) (c6 : Nat) (l6 : List Go.Value) (x7 : Int) (x8 : Int) (x9 : Int) (x10 : Int) (s11 : ByteArray) (n12 : Nat) (c12 : Nat) (l12 : List Go.Value) (k : List D → Prop) : gaF C L x0 x1 x2 x3 x4 x5 n6 c6 l6 x7 x8 x9 x10 s11 n12 c12 l12 k =
 (L 50003 [(Prod.mk 2 (Pt 1000 0)), (Prod.mk 4 (Pt 1001 0)), (Prod.mk 5 (Pt 1002 0)), (Prod.mk 11 (Value.func (Go.Fn.func 107) [].toArray [(Pt 1003 0), (Pt 1004 0)].toArray))] [(Prod.mk 1000 (AObj.cells [(vI x0), (vI x1), (vI x2), (vI x3), (vI x4), (vI x5), (Sl 500 (n6) (c6)), (vI x7), (vI x8), (vI x9), (vI x10)] 89 false 1)), (Prod.mk 1001 (AObj.cells [(vI 0)] 3 false 1)), (Prod.mk 1002 (AObj.cells [(vI 2)] 3 false 1)), (Prod.mk 1003 (AObj.cells [(vI x0), (vI x1), (vI x2), (vI x3), (vI x4), (vI x5), (Sl 500 (n6) (c6)), (vI x7), (vI x8), (vI x9), (vI x10)] 89 false 1)), (Prod.mk 1004 (AObj.cells [(Value.string (s11)), (Sl 501 (n12) (c12))] 29 false 1)), (Prod.mk 500 (AObj.sym (l6) false 5)), (Prod.mk 501 (AObj.sym (l12) false 1))]) := by kernel_rfl
abbrev zaF1 (x0 : Int) (x1 : Int) (x2 : Int) (x3 : Int) (x4 : Int) (x5 : Int) (n6 : Nat) (c7 : Nat) (x8 : Int) (x9 : Int) (x10 : Int) (x11 : Int) (x12 : Int) (x13 : Int) (x14 : Int) (x15 : Int) (x16 : Int) (x17 : Int) (x18 : Int) (x19 : Int) (n20 : Nat) (c21 : Nat) (x22 : Int) (x23 : Int) (x24 : Int) (x25 : Int) (s26 : ByteArray) (n27 : Nat) (c28 : Nat) (l29 : List Value) (l30 : List Value) : Slots × Blocks := ([(2, (Value.pointer (some ⟨1000, 0, none⟩))), (4, (Value.pointer (some ⟨1001, 0, none⟩))), (5, (Value.pointer (some ⟨1002, 0, none⟩))), (11, (Value.func (.func 107) #[] #[(Value.pointer (some ⟨1003, 0, none⟩)), (Value.pointer (some ⟨1004, 0, none⟩))]))], [(1000, (AObj.cells [(Value.int .i64 x0), (Value.int .i64 x1), (Value.int .i64 x2), (Value.int .i64 x3), (Value.int .i64 x4), (Value.int .i64 x5), (Value.slice (some ⟨500, 0, none⟩) n6 c7), (Value.int .i64 x8), (Value.int .i64 x9), (Value.int .i64 x10), (Value.int .i64 x11)] 89 false 1)), (1001, (AObj.cells [(Value.int .i64 x12)] 3 false 1)), (1002, (AObj.cells [(Value.int .i64 x13)] 3 false 1)), (1003, (AObj.cells [(Value.int .i64 x14), (Value.int .i64 x15), (Value.int .i64 x16), (Value.int .i64 x17), (Value.int .i64 x18), (Value.int .i64 x19), (Value.slice (some ⟨500, 0, none⟩) n20 c21), (Value.int .i64 x22), (Value.int .i64 x23), (Value.int .i64 x24), (Value.int .i64 x25)] 89 false 1)), (1004, (AObj.cells [(Value.string s26), (Value.slice (some ⟨501, 0, none⟩) n27 c28)] 29 false 1)), (500, (AObj.sym l29 false 5)), (501, (AObj.sym l30 false 1))])
def haF1 (x0 : Int) (x1 : Int) (x2 : Int) (x3 : Int) (x4 : Int) (x5 : Int) (n6 : Nat) (c7 : Nat) (x8 : Int) (x9 : Int) (x10 : Int) (x11 : Int) (x12 : Int) (x13 : Int) (x14 : Int) (x15 : Int) (x16 : Int) (x17 : Int) (x18 : Int) (x19 : Int) (n20 : Nat) (c21 : Nat) (x22 : Int) (x23 : Int) (x24 : Int) (x25 : Int) (s26 : ByteArray) (n27 : Nat) (c28 : Nat) (l29 : List Value) (l30 : List Value) (Kr : Kh) : Prop := rHead Tryz.prog 77 50003 [(2, (Value.pointer (some ⟨1000, 0, none⟩))), (4, (Value.pointer (some ⟨1001, 0, none⟩))), (5, (Value.pointer (some ⟨1002, 0, none⟩))), (11, (Value.func (.func 107) #[] #[(Value.pointer (some ⟨1003, 0, none⟩)), (Value.pointer (some ⟨1004, 0, none⟩))]))] [(1000, (AObj.cells [(Value.int .i64 x0), (Value.int .i64 x1), (Value.int .i64 x2), (Value.int .i64 x3), (Value.int .i64 x4), (Value.int .i64 x5), (Value.slice (some ⟨500, 0, none⟩) n6 c7), (Value.int .i64 x8), (Value.int .i64 x9), (Value.int .i64 x10), (Value.int .i64 x11)] 89 false 1)), (1001, (AObj.cells [(Value.int .i64 x12)] 3 false 1)), (1002, (AObj.cells [(Value.int .i64 x13)] 3 false 1)), (1003, (AObj.cells [(Value.int .i64 x14), (Value.int .i64 x15), (Value.int .i64 x16), (Value.int .i64 x17), (Value.int .i64 x18), (Value.int .i64 x19), (Value.slice (some ⟨500, 0, none⟩) n20 c21), (Value.int .i64 x22), (Value.int .i64 x23), (Value.int .i64 x24), (Value.int .i64 x25)] 89 false 1)), (1004, (AObj.cells [(Value.string s26), (Value.slice (some ⟨501, 0, none⟩) n27 c28)] 29 false 1)), (500, (AObj.sym l29 false 5)), (501, (AObj.sym l30 false 1))] Kr
theorem haF1_text (x0 : Int) (x1 : Int) (x2 : Int) (x3 : Int) (x4 : Int) (x5 : Int) (n6 : Nat) (c7 : Nat) (x8 : Int) (x9 : Int) (x10 : Int) (x11 : Int) (x12 : Int) (x13 : Int) (x14 : Int) (x15 : Int) (x16 : Int) (x17 : Int) (x18 : Int) (x19 : Int) (n20 : Nat) (c21 : Nat) (x22 : Int) (x23 : Int) (x24 : Int) (x25 : Int) (s26 : ByteArray) (n27 : Nat) (c28 : Nat) (l29 : List Go.Value) (l30 : List Go.Value) (Kr : Kh) : haF1 x0 x1 x2 x3 x4 x5 n6 c7 x8 x9 x10 x11 x12 x13 x14 x15 x16 x17 x18 x19 n20 c21 x22 x23 x24 x25 s26 n27 c28 l29 l30 Kr =
 (Kr 107 [(Value.func (Go.Fn.yield 915) [].toArray [].toArray), (Pt 500 0), (Pt 501 0)] [(Prod.mk 500 (AObj.cells [(vI x14), (vI x15), (vI x16), (vI x17), (vI x18), (vI x19), (Sl 502 (n20) (c21)), (vI x22), (vI x23), (vI x24), (vI x25)] 89 false 1)), (Prod.mk 501 (AObj.cells [(Value.string (s26)), (Sl 503 (n27) (c28))] 29 false 1)), (Prod.mk 502 (AObj.sym (l29) false 5)), (Prod.mk 503 (AObj.sym (l30) false 1))] [(Prod.mk 2 (Pt 1000 0)), (Prod.mk 4 (Pt 1001 0)), (Prod.mk 5 (Pt 1002 0)), (Prod.mk 1000000 (Value.map (some 1003)))] [(Prod.mk 1000 (AObj.cells [(vI x0), (vI x1), (vI x2), (vI x3), (vI x4), (vI x5), (Sl 500 (n6) (c7)), (vI x8), (vI x9), (vI x10), (vI x11)] 89 false 1)), (Prod.mk 1001 (AObj.cells [(vI x12)] 3 false 1)), (Prod.mk 1002 (AObj.cells [(vI x13)] 3 false 1)), (Prod.mk 1003 AObj.deferred), (Prod.mk 500 (AObj.sym (l29) false 5))]) := by kernel_rfl
abbrev zaF2 (x0 : Int) (x1 : Int) (x2 : Int) (x3 : Int) (x4 : Int) (x5 : Int) (n6 : Nat) (c7 : Nat) (x8 : Int) (x9 : Int) (x10 : Int) (x11 : Int) (x12 : Int) (x13 : Int) (l14 : List Value) : Slots × Blocks := ([(2, (Value.pointer (some ⟨1000, 0, none⟩))), (4, (Value.pointer (some ⟨1001, 0, none⟩))), (5, (Value.pointer (some ⟨1002, 0, none⟩))), (1000000, (Go.Value.map (Option.some 1003)))], [(1000, (AObj.cells [(Value.int .i64 x0), (Value.int .i64 x1), (Value.int .i64 x2), (Value.int .i64 x3), (Value.int .i64 x4), (Value.int .i64 x5), (Value.slice (some ⟨500, 0, none⟩) n6 c7), (Value.int .i64 x8), (Value.int .i64 x9), (Value.int .i64 x10), (Value.int .i64 x11)] 89 false 1)), (1001, (AObj.cells [(Value.int .i64 x12)] 3 false 1)), (1002, (AObj.cells [(Value.int .i64 x13)] 3 false 1)), (1003, AObj.deferred), (500, (AObj.sym l14 false 5))])
def waF2 (C : Ct) (x0 : Int) (x1 : Int) (x2 : Int) (x3 : Int) (x4 : Int) (x5 : Int) (n6 : Nat) (c7 : Nat) (x8 : Int) (x9 : Int) (x10 : Int) (x11 : Int) (x12 : Int) (x13 : Int) (l14 : List Value) (y0 : Int) (y1 : Int) (y2 : Int) (B : Bx) (X : Ex) : Prop := rRound Tryz.prog (hP C) 77 50003 [(2, (Value.pointer (some ⟨1000, 0, none⟩))), (4, (Value.pointer (some ⟨1001, 0, none⟩))), (5, (Value.pointer (some ⟨1002, 0, none⟩))), (1000000, (Go.Value.map (Option.some 1003)))] [(1000, (AObj.cells [(Value.int .i64 x0), (Value.int .i64 x1), (Value.int .i64 x2), (Value.int .i64 x3), (Value.int .i64 x4), (Value.int .i64 x5), (Value.slice (some ⟨500, 0, none⟩) n6 c7), (Value.int .i64 x8), (Value.int .i64 x9), (Value.int .i64 x10), (Value.int .i64 x11)] 89 false 1)), (1001, (AObj.cells [(Value.int .i64 x12)] 3 false 1)), (1002, (AObj.cells [(Value.int .i64 x13)] 3 false 1)), (1003, AObj.deferred), (500, (AObj.sym l14 false 5))] [(.agg [(.val (.int .i64 y0)), (.val (.int .i64 y1)), (.val (.int .i64 y2))])] B X
theorem waF2_text (C : Ct) (x0 : Int) (x1 : Int) (x2 : Int) (x3 : Int) (x4 : Int) (x5 : Int) (n6 : Nat) (c7 : Nat) (x8 : Int) (x9 : Int) (x10 : Int) (x11 : Int) (x12 : Int) (x13 : Int) (l14 : List Go.Value) (y0 : Int) (y1 : Int) (y2 : Int) (B : Bx) (X : Ex) : waF2 C x0 x1 x2 x3 x4 x5 n6 c7 x8 x9 x10 x11 x12 x13 l14 y0 y1 y2 B X =
 (∀ caps : Nat → Nat,
 (bcase (decide (0 + n6 * 5 ≤ List.length l14))
 (∃ n1 : Int,
 (∃ n2 : Int,
 (∃ n3 : Int,
 (∃ n4 : Int,
 (∃ n5 : Int,
 (∃ n7 : Int,
 (∃ n8 : Int,
 (∃ n9 : Int,
 ((Says C 76 [(D.agg [(D.val (vI x0)), (D.val (vI x1)), (D.val (vI x2)), (D.val (vI x3)), (D.val (vI x4)), (D.val (vI x5)), (D.sl (n6) 5 (List.take (n6 * 5) (List.drop 0 l14))), (D.val (vI x8)), (D.val (vI x9)), (D.val (vI x10)), (D.val (vI x11))]), (D.agg [(D.val (vI y0)), (D.val (vI y1)), (D.val (vI y2))])] [(D.agg [(D.val (vI n1)), (D.val (vI n2)), (D.val (vI n3)), (D.val (vI n4)), (D.val (vI n5)), (D.val (vI n7)), (D.val (vI n8)), (D.val (vI n9))])]) ∧
 (bcase (decide (n2 < 0))
 (X Go.Exit.ret [(Prod.mk 2 (Pt 1000 0)), (Prod.mk 4 (Pt 1001 0)), (Prod.mk 5 (Pt 1002 0)), (Prod.mk 1000000 (Value.map (some 1003)))] [(Prod.mk 1000 (AObj.cells [(vI x0), (vI x1), (vI x2), (vI x3), (vI x4), (vI x5), (Sl 500 (n6) (c7)), (vI x8), (vI x9), (vI x10), (vI x11)] 89 false 1)), (Prod.mk 1001 (AObj.cells [(vI 0)] 3 false 1)), (Prod.mk 1002 (AObj.cells [(vI x13)] 3 false 1)), (Prod.mk 1003 AObj.deferred), (Prod.mk 500 (AObj.sym (l14) false 5))])
 (bcase (decide (n1 < 0))
 (bcase (decide (n4 < 0))
 (X Go.Exit.ret [(Prod.mk 2 (Pt 1000 0)), (Prod.mk 4 (Pt 1001 0)), (Prod.mk 5 (Pt 1002 0)), (Prod.mk 1000000 (Value.map (some 1003)))] [(Prod.mk 1000 (AObj.cells [(vI x0), (vI x1), (vI x2), (vI x3), (vI x4), (vI x5), (Sl 500 (n6) (c7)), (vI x8), (vI x9), (vI x10), (vI x11)] 89 false 1)), (Prod.mk 1001 (AObj.cells [(vI 0)] 3 false 1)), (Prod.mk 1002 (AObj.cells [(vI 1)] 3 false 1)), (Prod.mk 1003 AObj.deferred), (Prod.mk 500 (AObj.sym (l14) false 5))])
 (bcase (decide (n3 < 0))
 (bcase (decide (n7 < 0))
 (X Go.Exit.ret [(Prod.mk 2 (Pt 1000 0)), (Prod.mk 4 (Pt 1001 0)), (Prod.mk 5 (Pt 1002 0)), (Prod.mk 1000000 (Value.map (some 1003)))] [(Prod.mk 1000 (AObj.cells [(vI x0), (vI x1), (vI x2), (vI x3), (vI x4), (vI x5), (Sl 500 (n6) (c7)), (vI x8), (vI x9), (vI x10), (vI x11)] 89 false 1)), (Prod.mk 1001 (AObj.cells [(vI 0)] 3 false 1)), (Prod.mk 1002 (AObj.cells [(vI 1)] 3 false 1)), (Prod.mk 1003 AObj.deferred), (Prod.mk 500 (AObj.sym (l14) false 5))])
 (bcase (decide (n5 < 0))
 (bcase (decide (n9 < 0))
 (X Go.Exit.ret [(Prod.mk 2 (Pt 1000 0)), (Prod.mk 4 (Pt 1001 0)), (Prod.mk 5 (Pt 1002 0)), (Prod.mk 1000000 (Value.map (some 1003)))] [(Prod.mk 1000 (AObj.cells [(vI x0), (vI x1), (vI x2), (vI x3), (vI x4), (vI x5), (Sl 500 (n6) (c7)), (vI x8), (vI x9), (vI x10), (vI x11)] 89 false 1)), (Prod.mk 1001 (AObj.cells [(vI 0)] 3 false 1)), (Prod.mk 1002 (AObj.cells [(vI 1)] 3 false 1)), (Prod.mk 1003 AObj.deferred), (Prod.mk 500 (AObj.sym (l14) false 5))])
 (bcase (decide (n8 < 0))
 (B [(Prod.mk 2 (Pt 1000 0)), (Prod.mk 4 (Pt 1001 0)), (Prod.mk 5 (Pt 1002 0)), (Prod.mk 1000000 (Value.map (some 1003)))] [(Prod.mk 1000 (AObj.cells [(vI x0), (vI x1), (vI x2), (vI x3), (vI x4), (vI x5), (Sl 500 (n6) (c7)), (vI x8), (vI x9), (vI x10), (vI x11)] 89 false 1)), (Prod.mk 1001 (AObj.cells [(vI x12)] 3 false 1)), (Prod.mk 1002 (AObj.cells [(vI 1)] 3 false 1)), (Prod.mk 1003 AObj.deferred), (Prod.mk 500 (AObj.sym (l14) false 5))])
 (B [(Prod.mk 2 (Pt 1000 0)), (Prod.mk 4 (Pt 1001 0)), (Prod.mk 5 (Pt 1002 0)), (Prod.mk 1000000 (Value.map (some 1003)))] [(Prod.mk 1000 (AObj.cells [(vI x0), (vI x1), (vI x2), (vI x3), (vI x4), (vI x5), (Sl 500 (n6) (c7)), (vI x8), (vI x9), (vI x10), (vI x11)] 89 false 1)), (Prod.mk 1001 (AObj.cells [(vI x12)] 3 false 1)), (Prod.mk 1002 (AObj.cells [(vI 1)] 3 false 1)), (Prod.mk 1003 AObj.deferred), (Prod.mk 500 (AObj.sym (l14) false 5))])))
 (bcase (decide (n9 < 0))
 (X Go.Exit.ret [(Prod.mk 2 (Pt 1000 0)), (Prod.mk 4 (Pt 1001 0)), (Prod.mk 5 (Pt 1002 0)), (Prod.mk 1000000 (Value.map (some 1003)))] [(Prod.mk 1000 (AObj.cells [(vI x0), (vI x1), (vI x2), (vI x3), (vI x4), (vI x5), (Sl 500 (n6) (c7)), (vI x8), (vI x9), (vI x10), (vI x11)] 89 false 1)), (Prod.mk 1001 (AObj.cells [(vI 0)] 3 false 1)), (Prod.mk 1002 (AObj.cells [(vI 1)] 3 false 1)), (Prod.mk 1003 AObj.deferred), (Prod.mk 500 (AObj.sym (l14) false 5))])
 (bcase (decide (n8 < 0))
 (B [(Prod.mk 2 (Pt 1000 0)), (Prod.mk 4 (Pt 1001 0)), (Prod.mk 5 (Pt 1002 0)), (Prod.mk 1000000 (Value.map (some 1003)))] [(Prod.mk 1000 (AObj.cells [(vI x0), (vI x1), (vI x2), (vI x3), (vI x4), (vI x5), (Sl 500 (n6) (c7)), (vI x8), (vI x9), (vI x10), (vI x11)] 89 false 1)), (Prod.mk 1001 (AObj.cells [(vI x12)] 3 false 1)), (Prod.mk 1002 (AObj.cells [(vI 1)] 3 false 1)), (Prod.mk 1003 AObj.deferred), (Prod.mk 500 (AObj.sym (l14) false 5))])
 (B [(Prod.mk 2 (Pt 1000 0)), (Prod.mk 4 (Pt 1001 0)), (Prod.mk 5 (Pt 1002 0)), (Prod.mk 1000000 (Value.map (some 1003)))] [(Prod.mk 1000 (AObj.cells [(vI x0), (vI x1), (vI x2), (vI x3), (vI x4), (vI x5), (Sl 500 (n6) (c7)), (vI x8), (vI x9), (vI x10), (vI x11)] 89 false 1)), (Prod.mk 1001 (AObj.cells [(vI x12)] 3 false 1)), (Prod.mk 1002 (AObj.cells [(vI 1)] 3 false 1)), (Prod.mk 1003 AObj.deferred), (Prod.mk 500 (AObj.sym (l14) false 5))])))))
 (bcase (decide (n7 < 0))
 (X Go.Exit.ret [(Prod.mk 2 (Pt 1000 0)), (Prod.mk 4 (Pt 1001 0)), (Prod.mk 5 (Pt 1002 0)), (Prod.mk 1000000 (Value.map (some 1003)))] [(Prod.mk 1000 (AObj.cells [(vI x0), (vI x1), (vI x2), (vI x3), (vI x4), (vI x5), (Sl 500 (n6) (c7)), (vI x8), (vI x9), (vI x10), (vI x11)] 89 false 1)), (Prod.mk 1001 (AObj.cells [(vI 0)] 3 false 1)), (Prod.mk 1002 (AObj.cells [(vI 1)] 3 false 1)), (Prod.mk 1003 AObj.deferred), (Prod.mk 500 (AObj.sym (l14) false 5))])
 (bcase (decide (n5 < 0))
 (bcase (decide (n9 < 0))
 (X Go.Exit.ret [(Prod.mk 2 (Pt 1000 0)), (Prod.mk 4 (Pt 1001 0)), (Prod.mk 5 (Pt 1002 0)), (Prod.mk 1000000 (Value.map (some 1003)))] [(Prod.mk 1000 (AObj.cells [(vI x0), (vI x1), (vI x2), (vI x3), (vI x4), (vI x5), (Sl 500 (n6) (c7)), (vI x8), (vI x9), (vI x10), (vI x11)] 89 false 1)), (Prod.mk 1001 (AObj.cells [(vI 0)] 3 false 1)), (Prod.mk 1002 (AObj.cells [(vI 1)] 3 false 1)), (Prod.mk 1003 AObj.deferred), (Prod.mk 500 (AObj.sym (l14) false 5))])
 (bcase (decide (n8 < 0))
 (B [(Prod.mk 2 (Pt 1000 0)), (Prod.mk 4 (Pt 1001 0)), (Prod.mk 5 (Pt 1002 0)), (Prod.mk 1000000 (Value.map (some 1003)))] [(Prod.mk 1000 (AObj.cells [(vI x0), (vI x1), (vI x2), (vI x3), (vI x4), (vI x5), (Sl 500 (n6) (c7)), (vI x8), (vI x9), (vI x10), (vI x11)] 89 false 1)), (Prod.mk 1001 (AObj.cells [(vI x12)] 3 false 1)), (Prod.mk 1002 (AObj.cells [(vI 1)] 3 false 1)), (Prod.mk 1003 AObj.deferred), (Prod.mk 500 (AObj.sym (l14) false 5))])
 (B [(Prod.mk 2 (Pt 1000 0)), (Prod.mk 4 (Pt 1001 0)), (Prod.mk 5 (Pt 1002 0)), (Prod.mk 1000000 (Value.map (some 1003)))] [(Prod.mk 1000 (AObj.cells [(vI x0), (vI x1), (vI x2), (vI x3), (vI x4), (vI x5), (Sl 500 (n6) (c7)), (vI x8), (vI x9), (vI x10), (vI x11)] 89 false 1)), (Prod.mk 1001 (AObj.cells [(vI x12)] 3 false 1)), (Prod.mk 1002 (AObj.cells [(vI 1)] 3 false 1)), (Prod.mk 1003 AObj.deferred), (Prod.mk 500 (AObj.sym (l14) false 5))])))
 (bcase (decide (n9 < 0))
 (X Go.Exit.ret [(Prod.mk 2 (Pt 1000 0)), (Prod.mk 4 (Pt 1001 0)), (Prod.mk 5 (Pt 1002 0)), (Prod.mk 1000000 (Value.map (some 1003)))] [(Prod.mk 1000 (AObj.cells [(vI x0), (vI x1), (vI x2), (vI x3), (vI x4), (vI x5), (Sl 500 (n6) (c7)), (vI x8), (vI x9), (vI x10), (vI x11)] 89 false 1)), (Prod.mk 1001 (AObj.cells [(vI 0)] 3 false 1)), (Prod.mk 1002 (AObj.cells [(vI 1)] 3 false 1)), (Prod.mk 1003 AObj.deferred), (Prod.mk 500 (AObj.sym (l14) false 5))])
 (bcase (decide (n8 < 0))
 (B [(Prod.mk 2 (Pt 1000 0)), (Prod.mk 4 (Pt 1001 0)), (Prod.mk 5 (Pt 1002 0)), (Prod.mk 1000000 (Value.map (some 1003)))] [(Prod.mk 1000 (AObj.cells [(vI x0), (vI x1), (vI x2), (vI x3), (vI x4), (vI x5), (Sl 500 (n6) (c7)), (vI x8), (vI x9), (vI x10), (vI x11)] 89 false 1)), (Prod.mk 1001 (AObj.cells [(vI x12)] 3 false 1)), (Prod.mk 1002 (AObj.cells [(vI 1)] 3 false 1)), (Prod.mk 1003 AObj.deferred), (Prod.mk 500 (AObj.sym (l14) false 5))])
 (B [(Prod.mk 2 (Pt 1000 0)), (Prod.mk 4 (Pt 1001 0)), (Prod.mk 5 (Pt 1002 0)), (Prod.mk 1000000 (Value.map (some 1003)))] [(Prod.mk 1000 (AObj.cells [(vI x0), (vI x1), (vI x2), (vI x3), (vI x4), (vI x5), (Sl 500 (n6) (c7)), (vI x8), (vI x9), (vI x10), (vI x11)] 89 false 1)), (Prod.mk 1001 (AObj.cells [(vI x12)] 3 false 1)), (Prod.mk 1002 (AObj.cells [(vI 1)] 3 false 1)), (Prod.mk 1003 AObj.deferred), (Prod.mk 500 (AObj.sym (l14) false 5))])))))))
 (bcase (decide (n4 < 0))
 (X Go.Exit.ret [(Prod.mk 2 (Pt 1000 0)), (Prod.mk 4 (Pt 1001 0)), (Prod.mk 5 (Pt 1002 0)), (Prod.mk 1000000 (Value.map (some 1003)))] [(Prod.mk 1000 (AObj.cells [(vI x0), (vI x1), (vI x2), (vI x3), (vI x4), (vI x5), (Sl 500 (n6) (c7)), (vI x8), (vI x9), (vI x10), (vI x11)] 89 false 1)), (Prod.mk 1001 (AObj.cells [(vI 0)] 3 false 1)), (Prod.mk 1002 (AObj.cells [(vI x13)] 3 false 1)), (Prod.mk 1003 AObj.deferred), (Prod.mk 500 (AObj.sym (l14) false 5))])
 (bcase (decide (n3 < 0))
 (bcase (decide (n7 < 0))
 (X Go.Exit.ret [(Prod.mk 2 (Pt 1000 0)), (Prod.mk 4 (Pt 1001 0)), (Prod.mk 5 (Pt 1002 0)), (Prod.mk 1000000 (Value.map (some 1003)))] [(Prod.mk 1000 (AObj.cells [(vI x0), (vI x1), (vI x2), (vI x3), (vI x4), (vI x5), (Sl 500 (n6) (c7)), (vI x8), (vI x9), (vI x10), (vI x11)] 89 false 1)), (Prod.mk 1001 (AObj.cells [(vI 0)] 3 false 1)), (Prod.mk 1002 (AObj.cells [(vI 1)] 3 false 1)), (Prod.mk 1003 AObj.deferred), (Prod.mk 500 (AObj.sym (l14) false 5))])
 (bcase (decide (n5 < 0))
 (bcase (decide (n9 < 0))
 (X Go.Exit.ret [(Prod.mk 2 (Pt 1000 0)), (Prod.mk 4 (Pt 1001 0)), (Prod.mk 5 (Pt 1002 0)), (Prod.mk 1000000 (Value.map (some 1003)))] [(Prod.mk 1000 (AObj.cells [(vI x0), (vI x1), (vI x2), (vI x3), (vI x4), (vI x5), (Sl 500 (n6) (c7)), (vI x8), (vI x9), (vI x10), (vI x11)] 89 false 1)), (Prod.mk 1001 (AObj.cells [(vI 0)] 3 false 1)), (Prod.mk 1002 (AObj.cells [(vI 1)] 3 false 1)), (Prod.mk 1003 AObj.deferred), (Prod.mk 500 (AObj.sym (l14) false 5))])
 (bcase (decide (n8 < 0))
 (B [(Prod.mk 2 (Pt 1000 0)), (Prod.mk 4 (Pt 1001 0)), (Prod.mk 5 (Pt 1002 0)), (Prod.mk 1000000 (Value.map (some 1003)))] [(Prod.mk 1000 (AObj.cells [(vI x0), (vI x1), (vI x2), (vI x3), (vI x4), (vI x5), (Sl 500 (n6) (c7)), (vI x8), (vI x9), (vI x10), (vI x11)] 89 false 1)), (Prod.mk 1001 (AObj.cells [(vI x12)] 3 false 1)), (Prod.mk 1002 (AObj.cells [(vI 1)] 3 false 1)), (Prod.mk 1003 AObj.deferred), (Prod.mk 500 (AObj.sym (l14) false 5))])
 (B [(Prod.mk 2 (Pt 1000 0)), (Prod.mk 4 (Pt 1001 0)), (Prod.mk 5 (Pt 1002 0)), (Prod.mk 1000000 (Value.map (some 1003)))] [(Prod.mk 1000 (AObj.cells [(vI x0), (vI x1), (vI x2), (vI x3), (vI x4), (vI x5), (Sl 500 (n6) (c7)), (vI x8), (vI x9), (vI x10), (vI x11)] 89 false 1)), (Prod.mk 1001 (AObj.cells [(vI x12)] 3 false 1)), (Prod.mk 1002 (AObj.cells [(vI 1)] 3 false 1)), (Prod.mk 1003 AObj.deferred), (Prod.mk 500 (AObj.sym (l14) false 5))])))
 (bcase (decide (n9 < 0))
 (X Go.Exit.ret [(Prod.mk 2 (Pt 1000 0)), (Prod.mk 4 (Pt 1001 0)), (Prod.mk 5 (Pt 1002 0)), (Prod.mk 1000000 (Value.map (some 1003)))] [(Prod.mk 1000 (AObj.cells [(vI x0), (vI x1), (vI x2), (vI x3), (vI x4), (vI x5), (Sl 500 (n6) (c7)), (vI x8), (vI x9), (vI x10), (vI x11)] 89 false 1)), (Prod.mk 1001 (AObj.cells [(vI 0)] 3 false 1)), (Prod.mk 1002 (AObj.cells [(vI 1)] 3 false 1)), (Prod.mk 1003 AObj.deferred), (Prod.mk 500 (AObj.sym (l14) false 5))])
 (bcase (decide (n8 < 0))
 (B [(Prod.mk 2 (Pt 1000 0)), (Prod.mk 4 (Pt 1001 0)), (Prod.mk 5 (Pt 1002 0)), (Prod.mk 1000000 (Value.map (some 1003)))] [(Prod.mk 1000 (AObj.cells [(vI x0), (vI x1), (vI x2), (vI x3), (vI x4), (vI x5), (Sl 500 (n6) (c7)), (vI x8), (vI x9), (vI x10), (vI x11)] 89 false 1)), (Prod.mk 1001 (AObj.cells [(vI x12)] 3 false 1)), (Prod.mk 1002 (AObj.cells [(vI 1)] 3 false 1)), (Prod.mk 1003 AObj.deferred), (Prod.mk 500 (AObj.sym (l14) false 5))])
 (B [(Prod.mk 2 (Pt 1000 0)), (Prod.mk 4 (Pt 1001 0)), (Prod.mk 5 (Pt 1002 0)), (Prod.mk 1000000 (Value.map (some 1003)))] [(Prod.mk 1000 (AObj.cells [(vI x0), (vI x1), (vI x2), (vI x3), (vI x4), (vI x5), (Sl 500 (n6) (c7)), (vI x8), (vI x9), (vI x10), (vI x11)] 89 false 1)), (Prod.mk 1001 (AObj.cells [(vI x12)] 3 false 1)), (Prod.mk 1002 (AObj.cells [(vI 1)] 3 false 1)), (Prod.mk 1003 AObj.deferred), (Prod.mk 500 (AObj.sym (l14) false 5))])))))
 (bcase (decide (n7 < 0))
 (X Go.Exit.ret [(Prod.mk 2 (Pt 1000 0)), (Prod.mk 4 (Pt 1001 0)), (Prod.mk 5 (Pt 1002 0)), (Prod.mk 1000000 (Value.map (some 1003)))] [(Prod.mk 1000 (AObj.cells [(vI x0), (vI x1), (vI x2), (vI x3), (vI x4), (vI x5), (Sl 500 (n6) (c7)), (vI x8), (vI x9), (vI x10), (vI x11)] 89 false 1)), (Prod.mk 1001 (AObj.cells [(vI 0)] 3 false 1)), (Prod.mk 1002 (AObj.cells [(vI x13)] 3 false 1)), (Prod.mk 1003 AObj.deferred), (Prod.mk 500 (AObj.sym (l14) false 5))])
 (bcase (decide (n5 < 0))
 (bcase (decide (n9 < 0))
 (X Go.Exit.ret [(Prod.mk 2 (Pt 1000 0)), (Prod.mk 4 (Pt 1001 0)), (Prod.mk 5 (Pt 1002 0)), (Prod.mk 1000000 (Value.map (some 1003)))] [(Prod.mk 1000 (AObj.cells [(vI x0), (vI x1), (vI x2), (vI x3), (vI x4), (vI x5), (Sl 500 (n6) (c7)), (vI x8), (vI x9), (vI x10), (vI x11)] 89 false 1)), (Prod.mk 1001 (AObj.cells [(vI 0)] 3 false 1)), (Prod.mk 1002 (AObj.cells [(vI 1)] 3 false 1)), (Prod.mk 1003 AObj.deferred), (Prod.mk 500 (AObj.sym (l14) false 5))])
 (bcase (decide (n8 < 0))
 (B [(Prod.mk 2 (Pt 1000 0)), (Prod.mk 4 (Pt 1001 0)), (Prod.mk 5 (Pt 1002 0)), (Prod.mk 1000000 (Value.map (some 1003)))] [(Prod.mk 1000 (AObj.cells [(vI x0), (vI x1), (vI x2), (vI x3), (vI x4), (vI x5), (Sl 500 (n6) (c7)), (vI x8), (vI x9), (vI x10), (vI x11)] 89 false 1)), (Prod.mk 1001 (AObj.cells [(vI x12)] 3 false 1)), (Prod.mk 1002 (AObj.cells [(vI 1)] 3 false 1)), (Prod.mk 1003 AObj.deferred), (Prod.mk 500 (AObj.sym (l14) false 5))])
 (B [(Prod.mk 2 (Pt 1000 0)), (Prod.mk 4 (Pt 1001 0)), (Prod.mk 5 (Pt 1002 0)), (Prod.mk 1000000 (Value.map (some 1003)))] [(Prod.mk 1000 (AObj.cells [(vI x0), (vI x1), (vI x2), (vI x3), (vI x4), (vI x5), (Sl 500 (n6) (c7)), (vI x8), (vI x9), (vI x10), (vI x11)] 89 false 1)), (Prod.mk 1001 (AObj.cells [(vI x12)] 3 false 1)), (Prod.mk 1002 (AObj.cells [(vI 1)] 3 false 1)), (Prod.mk 1003 AObj.deferred), (Prod.mk 500 (AObj.sym (l14) false 5))])))
 (bcase (decide (n9 < 0))
 (X Go.Exit.ret [(Prod.mk 2 (Pt 1000 0)), (Prod.mk 4 (Pt 1001 0)), (Prod.mk 5 (Pt 1002 0)), (Prod.mk 1000000 (Value.map (some 1003)))] [(Prod.mk 1000 (AObj.cells [(vI x0), (vI x1), (vI x2), (vI x3), (vI x4), (vI x5), (Sl 500 (n6) (c7)), (vI x8), (vI x9), (vI x10), (vI x11)] 89 false 1)), (Prod.mk 1001 (AObj.cells [(vI 0)] 3 false 1)), (Prod.mk 1002 (AObj.cells [(vI x13)] 3 false 1)), (Prod.mk 1003 AObj.deferred), (Prod.mk 500 (AObj.sym (l14) false 5))])
 (bcase (decide (n8 < 0))
 (B [(Prod.mk 2 (Pt 1000 0)), (Prod.mk 4 (Pt 1001 0)), (Prod.mk 5 (Pt 1002 0)), (Prod.mk 1000000 (Value.map (some 1003)))] [(Prod.mk 1000 (AObj.cells [(vI x0), (vI x1), (vI x2), (vI x3), (vI x4), (vI x5), (Sl 500 (n6) (c7)), (vI x8), (vI x9), (vI x10), (vI x11)] 89 false 1)), (Prod.mk 1001 (AObj.cells [(vI x12)] 3 false 1)), (Prod.mk 1002 (AObj.cells [(vI 1)] 3 false 1)), (Prod.mk 1003 AObj.deferred), (Prod.mk 500 (AObj.sym (l14) false 5))])
 (B [(Prod.mk 2 (Pt 1000 0)), (Prod.mk 4 (Pt 1001 0)), (Prod.mk 5 (Pt 1002 0)), (Prod.mk 1000000 (Value.map (some 1003)))] [(Prod.mk 1000 (AObj.cells [(vI x0), (vI x1), (vI x2), (vI x3), (vI x4), (vI x5), (Sl 500 (n6) (c7)), (vI x8), (vI x9), (vI x10), (vI x11)] 89 false 1)), (Prod.mk 1001 (AObj.cells [(vI x12)] 3 false 1)), (Prod.mk 1002 (AObj.cells [(vI x13)] 3 false 1)), (Prod.mk 1003 AObj.deferred), (Prod.mk 500 (AObj.sym (l14) false 5))]))))))))))))))))))
 False)) := by kernel_rfl
def naF3 (C : Ct) (L : AtLoop) (x0 : Int) (x1 : Int) (x2 : Int) (x3 : Int) (x4 : Int) (x5 : Int) (n6 : Nat) (c7 : Nat) (x8 : Int) (x9 : Int) (x10 : Int) (x11 : Int) (x12 : Int) (x13 : Int) (l14 : List Value) (k : List D → Prop) : Prop := jNext Tryz.prog (hP C) L [] 77 50003 .normal [(2, (Value.pointer (some ⟨1000, 0, none⟩))), (4, (Value.pointer (some ⟨1001, 0, none⟩))), (5, (Value.pointer (some ⟨1002, 0, none⟩))), (1000000, (Go.Value.map (Option.some 1003)))] [(1000, (AObj.cells [(Value.int .i64 x0), (Value.int .i64 x1), (Value.int .i64 x2), (Value.int .i64 x3), (Value.int .i64 x4), (Value.int .i64 x5), (Value.slice (some ⟨500, 0, none⟩) n6 c7), (Value.int .i64 x8), (Value.int .i64 x9), (Value.int .i64 x10), (Value.int .i64 x11)] 89 false 1)), (1001, (AObj.cells [(Value.int .i64 x12)] 3 false 1)), (1002, (AObj.cells [(Value.int .i64 x13)] 3 false 1)), (1003, AObj.deferred), (500, (AObj.sym l14 false 5))] (dataK k)
theorem naF3_text (C : Ct) (L : AtLoop) (x0 : Int) (x1 : Int) (x2 : Int) (x3 : Int) (x4 : Int) (x5 : Int) (n6 : Nat) (c7 : Nat) (x8 : Int) (x9 : Int) (x10 : Int) (x11 : Int) (x12 : Int) (x13 : Int) (l14 : List Go.Value) (k : List D → Prop) : naF3 C L x0 x1 x2 x3 x4 x5 n6 c7 x8 x9 x10 x11 x12 x13 l14 k =
 (k [(D.val (vI x13))]) := by kernel_rfl
def naF4 (C : Ct) (L : AtLoop) (x0 : Int) (x1 : Int) (x2 : Int) (x3 : Int) (x4 : Int) (x5 : Int) (n6 : Nat) (c7 : Nat) (x8 : Int) (x9 : Int) (x10 : Int) (x11 : Int) (x12 : Int) (x13 : Int) (l14 : List Value) (k : List D → Prop) : Prop := jNext Tryz.prog (hP C) L [] 77 50003 .ret [(2, (Value.pointer (some ⟨1000, 0, none⟩))), (4, (Value.pointer (some ⟨1001, 0, none⟩))), (5, (Value.pointer (some ⟨1002, 0, none⟩))), (1000000, (Go.Value.map (Option.some 1003)))] [(1000, (AObj.cells [(Value.int .i64 x0), (Value.int .i64 x1), (Value.int .i64 x2), (Value.int .i64 x3), (Value.int .i64 x4), (Value.int .i64 x5), (Value.slice (some ⟨500, 0, none⟩) n6 c7), (Value.int .i64 x8), (Value.int .i64 x9), (Value.int .i64 x10), (Value.int .i64 x11)] 89 false 1)), (1001, (AObj.cells [(Value.int .i64 x12)] 3 false 1)), (1002, (AObj.cells [(Value.int .i64 x13)] 3 false 1)), (1003, AObj.deferred), (500, (AObj.sym l14 false 5))] (dataK k)
theorem naF4_text (C : Ct) (L : AtLoop) (x0 : Int) (x1 : Int) (x2 : Int) (x3 : Int) (x4 : Int) (x5 : Int) (n6 : Nat) (c7 : Nat) (x8 : Int) (x9 : Int) (x10 : Int) (x11 : Int) (x12 : Int) (x13 : Int) (l14 : List Go.Value) (k : List D → Prop) : naF4 C L x0 x1 x2 x3 x4 x5 n6 c7 x8 x9 x10 x11 x12 x13 l14 k =
 (k [(D.val (vI x12))]) := by kernel_rfl
def geM0 (C : Ct) (L : AtLoop) (w : Int) (st : Int) (fi : Int) (ha : Int) (hb : Int) (co : Int) (sa : Int) (sb : Int) (fa : Int) (fb : Int) (n0 : Nat) (c0 : Nat) (l0 : List Value) (nm : ByteArray) (n1 : Nat) (c1 : Nat) (l1 : List Value) (K : Value → Blocks → Prop) : Prop := jFn Tryz.prog (hP C) L [] 64 #[.agg #[.int .i64 w, .int .i64 st, .int .i64 fi, .int .i64 ha, .int .i64 hb, .int .i64 co, .slice (some ⟨500, 0, none⟩) n0 c0, .int .i64 sa, .int .i64 sb, .int .i64 fa, .int .i64 fb], .agg #[.string nm, .slice (some ⟨501, 0, none⟩) n1 c1], .func (.func 75) #[] #[.pointer (some ⟨502, 0, none⟩), .pointer (some ⟨503, 0, none⟩)]] (heapOf [(500, .sym l0 false 5), (501, .sym l1 false 1), (502, .cells [.int .i64 w, .int .i64 st, .int .i64 fi, .int .i64 ha, .int .i64 hb, .int .i64 co, .slice (some ⟨500, 0, none⟩) n0 c0, .int .i64 sa, .int .i64 sb, .int .i64 fa, .int .i64 fb] 89 false 11), (503, .cells [.int .i64 0] 3 false 1)]) (stateK K)
theorem geM0_text (C : Ct) (L : AtLoop) (w : Int) (st : Int) (fi : Int) (ha : Int) (hb : Int) (co : Int) (sa : Int) (sb : Int) (fa : Int) (fb : Int) (n0 : Nat) (c0 : Nat) (l0 : List Go.Value) (nm : ByteArray) (n1 : Nat) (c1 : Nat) (l1 : List Go.Value) (K : Go.Value → Blocks → Prop) : geM0 C L w st fi ha hb co sa sb fa fb n0 c0 l0 nm n1 c1 l1 K =
 (L 50003 [(Prod.mk 5 (Pt 1000 0)), (Prod.mk 6 (Value.slice none 0 0)), (Prod.mk 7 (Pt 1001 0)), (Prod.mk 11 (Value.func (Go.Fn.func 107) [].toArray [(Pt 1002 0), (Pt 1003 0)].toArray))] [(Prod.mk 1000 (AObj.cells [(Value.func (Go.Fn.func 75) [].toArray [(Pt 502 0), (Pt 503 0)].toArray)] 108 false 1)), (Prod.mk 1001 (AObj.cells [(Value.slice none 0 0)] 53 false 1)), (Prod.mk 1002 (AObj.cells [(vI w), (vI st), (vI fi), (vI ha), (vI hb), (vI co), (Sl 500 (n0) (c0)), (vI sa), (vI sb), (vI fa), (vI fb)] 89 false 1)), (Prod.mk 1003 (AObj.cells [(Value.string (nm)), (Sl 501 (n1) (c1))] 29 false 1)), (Prod.mk 502 (AObj.cells [(vI w), (vI st), (vI fi), (vI ha), (vI hb), (vI co), (Sl 500 (n0) (c0)), (vI sa), (vI sb), (vI fa), (vI fb)] 89 false 11)), (Prod.mk 503 (AObj.cells [(vI 0)] 3 false 1)), (Prod.mk 500 (AObj.sym (l0) false 5)), (Prod.mk 501 (AObj.sym (l1) false 1))]) := by kernel_rfl
abbrev zeM01 (x0 : Int) (x1 : Int) (x2 : Int) (x3 : Int) (x4 : Int) (x5 : Int) (n6 : Nat) (c7 : Nat) (x8 : Int) (x9 : Int) (x10 : Int) (x11 : Int) (s12 : ByteArray) (n13 : Nat) (c14 : Nat) (x15 : Int) (x16 : Int) (x17 : Int) (x18 : Int) (x19 : Int) (x20 : Int) (n21 : Nat) (c22 : Nat) (x23 : Int) (x24 : Int) (x25 : Int) (x26 : Int) (l27 : List Value) (l28 : List Value) : Slots × Blocks := ([(5, (Value.pointer (some ⟨1000, 0, none⟩))), (6, (Value.slice none 0 0)), (7, (Value.pointer (some ⟨1001, 0, none⟩))), (11, (Value.func (.func 107) #[] #[(Value.pointer (some ⟨1002, 0, none⟩)), (Value.pointer (some ⟨1003, 0, none⟩))]))], [(1000, (AObj.cells [(Value.func (.func 75) #[] #[(Value.pointer (some ⟨502, 0, none⟩)), (Value.pointer (some ⟨503, 0, none⟩))])] 108 false 1)), (1001, (AObj.cells [(Value.slice none 0 0)] 53 false 1)), (1002, (AObj.cells [(Value.int .i64 x0), (Value.int .i64 x1), (Value.int .i64 x2), (Value.int .i64 x3), (Value.int .i64 x4), (Value.int .i64 x5), (Value.slice (some ⟨500, 0, none⟩) n6 c7), (Value.int .i64 x8), (Value.int .i64 x9), (Value.int .i64 x10), (Value.int .i64 x11)] 89 false 1)), (1003, (AObj.cells [(Value.string s12), (Value.slice (some ⟨501, 0, none⟩) n13 c14)] 29 false 1)), (502, (AObj.cells [(Value.int .i64 x15), (Value.int .i64 x16), (Value.int .i64 x17), (Value.int .i64 x18), (Value.int .i64 x19), (Value.int .i64 x20), (Value.slice (some ⟨500, 0, none⟩) n21 c22), (Value.int .i64 x23), (Value.int .i64 x24), (Value.int .i64 x25), (Value.int .i64 x26)] 89 false 11)), (503, (AObj.cells [(Value.int .i64 (0))] 3 false 1)), (500, (AObj.sym l27 false 5)), (501, (AObj.sym l28 false 1))])
def heM01 (x0 : Int) (x1 : Int) (x2 : Int) (x3 : Int) (x4 : Int) (x5 : Int) (n6 : Nat) (c7 : Nat) (x8 : Int) (x9 : Int) (x10 : Int) (x11 : Int) (s12 : ByteArray) (n13 : Nat) (c14 : Nat) (x15 : Int) (x16 : Int) (x17 : Int) (x18 : Int) (x19 : Int) (x20 : Int) (n21 : Nat) (c22 : Nat) (x23 : Int) (x24 : Int) (x25 : Int) (x26 : Int) (l27 : List Value) (l28 : List Value) (Kr : Kh) : Prop := rHead Tryz.prog 64 50003 [(5, (Value.pointer (some ⟨1000, 0, none⟩))), (6, (Value.slice none 0 0)), (7, (Value.pointer (some ⟨1001, 0, none⟩))), (11, (Value.func (.func 107) #[] #[(Value.pointer (some ⟨1002, 0, none⟩)), (Value.pointer (some ⟨1003, 0, none⟩))]))] [(1000, (AObj.cells [(Value.func (.func 75) #[] #[(Value.pointer (some ⟨502, 0, none⟩)), (Value.pointer (some ⟨503, 0, none⟩))])] 108 false 1)), (1001, (AObj.cells [(Value.slice none 0 0)] 53 false 1)), (1002, (AObj.cells [(Value.int .i64 x0), (Value.int .i64 x1), (Value.int .i64 x2), (Value.int .i64 x3), (Value.int .i64 x4), (Value.int .i64 x5), (Value.slice (some ⟨500, 0, none⟩) n6 c7), (Value.int .i64 x8), (Value.int .i64 x9), (Value.int .i64 x10), (Value.int .i64 x11)] 89 false 1)), (1003, (AObj.cells [(Value.string s12), (Value.slice (some ⟨501, 0, none⟩) n13 c14)] 29 false 1)), (502, (AObj.cells [(Value.int .i64 x15), (Value.int .i64 x16), (Value.int .i64 x17), (Value.int .i64 x18), (Value.int .i64 x19), (Value.int .i64 x20), (Value.slice (some ⟨500, 0, none⟩) n21 c22), (Value.int .i64 x23), (Value.int .i64 x24), (Value.int .i64 x25), (Value.int .i64 x26)] 89 false 11)), (503, (AObj.cells [(Value.int .i64 (0))] 3 false 1)), (500, (AObj.sym l27 false 5)), (501, (AObj.sym l28 false 1))] Kr
theorem heM01_text (x0 : Int) (x1 : Int) (x2 : Int) (x3 : Int) (x4 : Int) (x5 : Int) (n6 : Nat) (c7 : Nat) (x8 : Int) (x9 : Int) (x10 : Int) (x11 : Int) (s12 : ByteArray) (n13 : Nat) (c14 : Nat) (x15 : Int) (x16 : Int) (x17 : Int) (x18 : Int) (x19 : Int) (x20 : Int) (n21 : Nat) (c22 : Nat) (x23 : Int) (x24 : Int) (x25 : Int) (x26 : Int) (l27 : List Go.Value) (l28 : List Go.Value) (Kr : Kh) : heM01 x0 x1 x2 x3 x4 x5 n6 c7 x8 x9 x10 x11 s12 n13 c14 x15 x16 x17 x18 x19 x20 n21 c22 x23 x24 x25 x26 l27 l28 Kr =
 (Kr 107 [(Value.func (Go.Fn.yield 915) [].toArray [].toArray), (Pt 500 0), (Pt 501 0)] [(Prod.mk 500 (AObj.cells [(vI x0), (vI x1), (vI x2), (vI x3), (vI x4), (vI x5), (Sl 502 (n6) (c7)), (vI x8), (vI x9), (vI x10), (vI x11)] 89 false 1)), (Prod.mk 501 (AObj.cells [(Value.string (s12)), (Sl 503 (n13) (c14))] 29 false 1)), (Prod.mk 502 (AObj.sym (l27) false 5)), (Prod.mk 503 (AObj.sym (l28) false 1))] [(Prod.mk 5 (Pt 1000 0)), (Prod.mk 6 (Value.slice none 0 0)), (Prod.mk 7 (Pt 1001 0)), (Prod.mk 1000000 (Value.map (some 1002)))] [(Prod.mk 1000 (AObj.cells [(Value.func (Go.Fn.func 75) [].toArray [(Pt 502 0), (Pt 503 0)].toArray)] 108 false 1)), (Prod.mk 1001 (AObj.cells [(Value.slice none 0 0)] 53 false 1)), (Prod.mk 1002 AObj.deferred), (Prod.mk 502 (AObj.cells [(vI x15), (vI x16), (vI x17), (vI x18), (vI x19), (vI x20), (Sl 500 (n21) (c22)), (vI x23), (vI x24), (vI x25), (vI x26)] 89 false 11)), (Prod.mk 503 (AObj.cells [(vI 0)] 3 false 1)), (Prod.mk 500 (AObj.sym (l27) false 5))]) := by kernel_rfl
abbrev zeM02 (x0 : Int) (x1 : Int) (x2 : Int) (x3 : Int) (x4 : Int) (x5 : Int) (n6 : Nat) (c7 : Nat) (x8 : Int) (x9 : Int) (x10 : Int) (x11 : Int) (l12 : List Value) : Slots × Blocks := ([(5, (Value.pointer (some ⟨1000, 0, none⟩))), (6, (Value.slice none 0 0)), (7, (Value.pointer (some ⟨1001, 0, none⟩))), (1000000, (Go.Value.map (Option.some 1002)))], [(1000, (AObj.cells [(Value.func (.func 75) #[] #[(Value.pointer (some ⟨502, 0, none⟩)), (Value.pointer (some ⟨503, 0, none⟩))])] 108 false 1)), (1001, (AObj.cells [(Value.slice none 0 0)] 53 false 1)), (1002, AObj.deferred), (502, (AObj.cells [(Value.int .i64 x0), (Value.int .i64 x1), (Value.int .i64 x2), (Value.int .i64 x3), (Value.int .i64 x4), (Value.int .i64 x5), (Value.slice (some ⟨500, 0, none⟩) n6 c7), (Value.int .i64 x8), (Value.int .i64 x9), (Value.int .i64 x10), (Value.int .i64 x11)] 89 false 11)), (503, (AObj.cells [(Value.int .i64 (0))] 3 false 1)), (500, (AObj.sym l12 false 5))])
def weM02 (C : Ct) (x0 : Int) (x1 : Int) (x2 : Int) (x3 : Int) (x4 : Int) (x5 : Int) (n6 : Nat) (c7 : Nat) (x8 : Int) (x9 : Int) (x10 : Int) (x11 : Int) (l12 : List Value) (y0 : Int) (y1 : Int) (y2 : Int) (B : Bx) (X : Ex) : Prop := rRound Tryz.prog (hP C) 64 50003 [(5, (Value.pointer (some ⟨1000, 0, none⟩))), (6, (Value.slice none 0 0)), (7, (Value.pointer (some ⟨1001, 0, none⟩))), (1000000, (Go.Value.map (Option.some 1002)))] [(1000, (AObj.cells [(Value.func (.func 75) #[] #[(Value.pointer (some ⟨502, 0, none⟩)), (Value.pointer (some ⟨503, 0, none⟩))])] 108 false 1)), (1001, (AObj.cells [(Value.slice none 0 0)] 53 false 1)), (1002, AObj.deferred), (502, (AObj.cells [(Value.int .i64 x0), (Value.int .i64 x1), (Value.int .i64 x2), (Value.int .i64 x3), (Value.int .i64 x4), (Value.int .i64 x5), (Value.slice (some ⟨500, 0, none⟩) n6 c7), (Value.int .i64 x8), (Value.int .i64 x9), (Value.int .i64 x10), (Value.int .i64 x11)] 89 false 11)), (503, (AObj.cells [(Value.int .i64 (0))] 3 false 1)), (500, (AObj.sym l12 false 5))] [(.agg [(.val (.int .i64 y0)), (.val (.int .i64 y1)), (.val (.int .i64 y2))])] B X
theorem weM02_text (C : Ct) (x0 : Int) (x1 : Int) (x2 : Int) (x3 : Int) (x4 : Int) (x5 : Int) (n6 : Nat) (c7 : Nat) (x8 : Int) (x9 : Int) (x10 : Int) (x11 : Int) (l12 : List Go.Value) (y0 : Int) (y1 : Int) (y2 : Int) (B : Bx) (X : Ex) : weM02 C x0 x1 x2 x3 x4 x5 n6 c7 x8 x9 x10 x11 l12 y0 y1 y2 B X =
 (∀ caps : Nat → Nat,
 (((Qv (Value.agg [(vI y0), (vI y1), (vI y2)].toArray)) ∧
 ((Qv (Value.func (Go.Fn.func 75) [].toArray [(Pt 502 0), (Pt 503 0)].toArray)) ∧
 ((Qv (Value.slice none 0 0)) ∧
 True))) ∧
 (((Qv (vI 0)) ∧
 ((Qv (Value.agg [(vI y0), (vI y1), (vI y2)].toArray)) ∧
 ((Qv (Value.agg [(vI x0), (vI x1), (vI x2), (vI x3), (vI x4), (vI x5), (Sl 500 (n6) (c7)), (vI x8), (vI x9), (vI x10), (vI x11)].toArray)) ∧
 True))) ∧
 (bcase (decide (0 + n6 * 5 ≤ List.length l12))
 (∃ n1 : Int,
 (∃ n2 : Int,
 (∃ n3 : Int,
 (∃ n4 : Int,
 (∃ n5 : Int,
 (∃ n7 : Int,
 (∃ n8 : Int,
 (∃ n9 : Int,
 ((Says C 76 [(D.agg [(D.val (vI x0)), (D.val (vI x1)), (D.val (vI x2)), (D.val (vI x3)), (D.val (vI x4)), (D.val (vI x5)), (D.sl (n6) 5 (List.take (n6 * 5) (List.drop 0 l12))), (D.val (vI x8)), (D.val (vI x9)), (D.val (vI x10)), (D.val (vI x11))]), (D.agg [(D.val (vI y0)), (D.val (vI y1)), (D.val (vI y2))])] [(D.agg [(D.val (vI n1)), (D.val (vI n2)), (D.val (vI n3)), (D.val (vI n4)), (D.val (vI n5)), (D.val (vI n7)), (D.val (vI n8)), (D.val (vI n9))])]) ∧
 (((Qv (Value.agg [(vI n1), (vI n2)].toArray)) ∧
 ((Qv (vI 0)) ∧
 True)) ∧
 (True ∧
 ((((Qv (Sl 1006 1 1)) ∧
 (Qv (some (AObj.cells [(vI n1), (vI n2)] 23 false 2)))) ∧
 ((Qv (Value.slice none 0 0)) ∧
 True)) ∧
 (True ∧
 (True ∧
 (B [(Prod.mk 5 (Pt 1000 0)), (Prod.mk 6 (Value.slice none 0 0)), (Prod.mk 7 (Pt 1001 0)), (Prod.mk 1000000 (Value.map (some 1002)))] [(Prod.mk 1000 (AObj.cells [(Value.func (Go.Fn.func 75) [].toArray [(Pt 502 0), (Pt 503 0)].toArray)] 108 false 1)), (Prod.mk 1001 (AObj.cells [(Sl 1003 1 1)] 53 false 1)), (Prod.mk 1002 AObj.deferred), (Prod.mk 502 (AObj.cells [(vI x0), (vI x1), (vI x2), (vI x3), (vI x4), (vI x5), (Sl 500 (n6) (c7)), (vI x8), (vI x9), (vI x10), (vI x11)] 89 false 11)), (Prod.mk 503 (AObj.cells [(vI 0)] 3 false 1)), (Prod.mk 1003 (AObj.sym [(vI n1), (vI n2)] true 2)), (Prod.mk 500 (AObj.sym (l12) false 5))])))))))))))))))
 False)))) := by kernel_rfl
abbrev zeM04 (n0 : Nat) (x1 : Int) (x2 : Int) (x3 : Int) (x4 : Int) (x5 : Int) (x6 : Int) (n7 : Nat) (c8 : Nat) (x9 : Int) (x10 : Int) (x11 : Int) (x12 : Int) (l13 : List Value) (l14 : List Value) : Slots × Blocks := ([(5, (Value.pointer (some ⟨1000, 0, none⟩))), (6, (Value.slice none 0 0)), (7, (Value.pointer (some ⟨1001, 0, none⟩))), (1000000, (Go.Value.map (Option.some 1002)))], [(1000, (AObj.cells [(Value.func (.func 75) #[] #[(Value.pointer (some ⟨502, 0, none⟩)), (Value.pointer (some ⟨503, 0, none⟩))])] 108 false 1)), (1001, (AObj.cells [(Value.slice (some ⟨1003, 0, none⟩) n0 n0)] 53 false 1)), (1002, AObj.deferred), (502, (AObj.cells [(Value.int .i64 x1), (Value.int .i64 x2), (Value.int .i64 x3), (Value.int .i64 x4), (Value.int .i64 x5), (Value.int .i64 x6), (Value.slice (some ⟨500, 0, none⟩) n7 c8), (Value.int .i64 x9), (Value.int .i64 x10), (Value.int .i64 x11), (Value.int .i64 x12)] 89 false 11)), (503, (AObj.cells [(Value.int .i64 (0))] 3 false 1)), (1003, (AObj.sym l13 true 2)), (500, (AObj.sym l14 false 5))])
def weM04 (C : Ct) (n0 : Nat) (x1 : Int) (x2 : Int) (x3 : Int) (x4 : Int) (x5 : Int) (x6 : Int) (n7 : Nat) (c8 : Nat) (x9 : Int) (x10 : Int) (x11 : Int) (x12 : Int) (l13 : List Value) (l14 : List Value) (y0 : Int) (y1 : Int) (y2 : Int) (B : Bx) (X : Ex) : Prop := rRound Tryz.prog (hP C) 64 50003 [(5, (Value.pointer (some ⟨1000, 0, none⟩))), (6, (Value.slice none 0 0)), (7, (Value.pointer (some ⟨1001, 0, none⟩))), (1000000, (Go.Value.map (Option.some 1002)))] [(1000, (AObj.cells [(Value.func (.func 75) #[] #[(Value.pointer (some ⟨502, 0, none⟩)), (Value.pointer (some ⟨503, 0, none⟩))])] 108 false 1)), (1001, (AObj.cells [(Value.slice (some ⟨1003, 0, none⟩) n0 n0)] 53 false 1)), (1002, AObj.deferred), (502, (AObj.cells [(Value.int .i64 x1), (Value.int .i64 x2), (Value.int .i64 x3), (Value.int .i64 x4), (Value.int .i64 x5), (Value.int .i64 x6), (Value.slice (some ⟨500, 0, none⟩) n7 c8), (Value.int .i64 x9), (Value.int .i64 x10), (Value.int .i64 x11), (Value.int .i64 x12)] 89 false 11)), (503, (AObj.cells [(Value.int .i64 (0))] 3 false 1)), (1003, (AObj.sym l13 true 2)), (500, (AObj.sym l14 false 5))] [(.agg [(.val (.int .i64 y0)), (.val (.int .i64 y1)), (.val (.int .i64 y2))])] B X
theorem weM04_text (C : Ct) (n0 : Nat) (x1 : Int) (x2 : Int) (x3 : Int) (x4 : Int) (x5 : Int) (x6 : Int) (n7 : Nat) (c8 : Nat) (x9 : Int) (x10 : Int) (x11 : Int) (x12 : Int) (l13 : List Go.Value) (l14 : List Go.Value) (y0 : Int) (y1 : Int) (y2 : Int) (B : Bx) (X : Ex) : weM04 C n0 x1 x2 x3 x4 x5 x6 n7 c8 x9 x10 x11 x12 l13 l14 y0 y1 y2 B X =
 (∀ caps : Nat → Nat,
 (((Qv (Value.agg [(vI y0), (vI y1), (vI y2)].toArray)) ∧
 ((Qv (Value.func (Go.Fn.func 75) [].toArray [(Pt 502 0), (Pt 503 0)].toArray)) ∧
 ((Qv (Sl 1003 (n0) (n0))) ∧
 True))) ∧
 (((Qv (vI 0)) ∧
 ((Qv (Value.agg [(vI y0), (vI y1), (vI y2)].toArray)) ∧
 ((Qv (Value.agg [(vI x1), (vI x2), (vI x3), (vI x4), (vI x5), (vI x6), (Sl 500 (n7) (c8)), (vI x9), (vI x10), (vI x11), (vI x12)].toArray)) ∧
 True))) ∧
 (bcase (decide (0 + n7 * 5 ≤ List.length l14))
 (∃ n1 : Int,
 (∃ n2 : Int,
 (∃ n3 : Int,
 (∃ n4 : Int,
 (∃ n5 : Int,
 (∃ n6 : Int,
 (∃ n8 : Int,
 (∃ n9 : Int,
 ((Says C 76 [(D.agg [(D.val (vI x1)), (D.val (vI x2)), (D.val (vI x3)), (D.val (vI x4)), (D.val (vI x5)), (D.val (vI x6)), (D.sl (n7) 5 (List.take (n7 * 5) (List.drop 0 l14))), (D.val (vI x9)), (D.val (vI x10)), (D.val (vI x11)), (D.val (vI x12))]), (D.agg [(D.val (vI y0)), (D.val (vI y1)), (D.val (vI y2))])] [(D.agg [(D.val (vI n1)), (D.val (vI n2)), (D.val (vI n3)), (D.val (vI n4)), (D.val (vI n5)), (D.val (vI n6)), (D.val (vI n8)), (D.val (vI n9))])]) ∧
 (((Qv (Value.agg [(vI n1), (vI n2)].toArray)) ∧
 ((Qv (vI 0)) ∧
 True)) ∧
 (True ∧
 ((((Qv (Sl 1007 1 1)) ∧
 (Qv (some (AObj.cells [(vI n1), (vI n2)] 23 false 2)))) ∧
 ((Qv (Sl 1003 (n0) (n0))) ∧
 True)) ∧
 (bcase (decide (n0 < n0 + 1))
 (bcase (decide ((2 * (n0 + 1) + 768) * 16 ≤ 281474976710656))
 (bcase (decide (n0 + 1 ≤ 1099511627776))
 (bcase (decide (0 + n0 * 2 ≤ List.length l13))
 (bcase (decide (0 + n0 * 2 = List.length l13))
 (True ∧
 (True ∧
 (B [(Prod.mk 5 (Pt 1000 0)), (Prod.mk 6 (Value.slice none 0 0)), (Prod.mk 7 (Pt 1001 0)), (Prod.mk 1000000 (Value.map (some 1002)))] [(Prod.mk 1000 (AObj.cells [(Value.func (Go.Fn.func 75) [].toArray [(Pt 502 0), (Pt 503 0)].toArray)] 108 false 1)), (Prod.mk 1001 (AObj.cells [(Sl 1003 (n0 + 1) (n0 + 1))] 53 false 1)), (Prod.mk 1002 AObj.deferred), (Prod.mk 502 (AObj.cells [(vI x1), (vI x2), (vI x3), (vI x4), (vI x5), (vI x6), (Sl 500 (n7) (c8)), (vI x9), (vI x10), (vI x11), (vI x12)] 89 false 11)), (Prod.mk 503 (AObj.cells [(vI 0)] 3 false 1)), (Prod.mk 1003 (AObj.sym ((List.take (n0 * 2) (List.drop 0 l13)) ++ [(vI n1), (vI n2)]) true 2)), (Prod.mk 500 (AObj.sym (l14) false 5))])))
 False)
 False)
 False)
 False)
 False)))))))))))))
 False)))) := by kernel_rfl
def neM05 (C : Ct) (L : AtLoop) (n0 : Nat) (x1 : Int) (x2 : Int) (x3 : Int) (x4 : Int) (x5 : Int) (x6 : Int) (n7 : Nat) (c8 : Nat) (x9 : Int) (x10 : Int) (x11 : Int) (x12 : Int) (l13 : List Value) (l14 : List Value) (K : Value → Blocks → Prop) : Prop := jNext Tryz.prog (hP C) L [] 64 50003 .normal [(5, (Value.pointer (some ⟨1000, 0, none⟩))), (6, (Value.slice none 0 0)), (7, (Value.pointer (some ⟨1001, 0, none⟩))), (1000000, (Go.Value.map (Option.some 1002)))] [(1000, (AObj.cells [(Value.func (.func 75) #[] #[(Value.pointer (some ⟨502, 0, none⟩)), (Value.pointer (some ⟨503, 0, none⟩))])] 108 false 1)), (1001, (AObj.cells [(Value.slice (some ⟨1003, 0, none⟩) n0 n0)] 53 false 1)), (1002, AObj.deferred), (502, (AObj.cells [(Value.int .i64 x1), (Value.int .i64 x2), (Value.int .i64 x3), (Value.int .i64 x4), (Value.int .i64 x5), (Value.int .i64 x6), (Value.slice (some ⟨500, 0, none⟩) n7 c8), (Value.int .i64 x9), (Value.int .i64 x10), (Value.int .i64 x11), (Value.int .i64 x12)] 89 false 11)), (503, (AObj.cells [(Value.int .i64 (0))] 3 false 1)), (1003, (AObj.sym l13 true 2)), (500, (AObj.sym l14 false 5))] (stateK K)
theorem neM05_text (C : Ct) (L : AtLoop) (n0 : Nat) (x1 : Int) (x2 : Int) (x3 : Int) (x4 : Int) (x5 : Int) (x6 : Int) (n7 : Nat) (c8 : Nat) (x9 : Int) (x10 : Int) (x11 : Int) (x12 : Int) (l13 : List Go.Value) (l14 : List Go.Value) (K : Go.Value → Blocks → Prop) : neM05 C L n0 x1 x2 x3 x4 x5 x6 n7 c8 x9 x10 x11 x12 l13 l14 K =
 (K (Sl 1000 (n0) (n0)) [(Prod.mk 1000 (AObj.sym (l13) true 2))]) := by kernel_rfl
def geM1 (C : Ct) (L : AtLoop) (w : Int) (st : Int) (fi : Int) (ha : Int) (hb : Int) (co : Int) (sa : Int) (sb : Int) (fa : Int) (fb : Int) (n0 : Nat) (c0 : Nat) (l0 : List Value) (nm : ByteArray) (n1 : Nat) (c1 : Nat) (l1 : List Value) (K : Value → Blocks → Prop) : Prop := jFn Tryz.prog (hP C) L [] 64 #[.agg #[.int .i64 w, .int .i64 st, .int .i64 fi, .int .i64 ha, .int .i64 hb, .int .i64 co, .slice (some ⟨500, 0, none⟩) n0 c0, .int .i64 sa, .int .i64 sb, .int .i64 fa, .int .i64 fb], .agg #[.string nm, .slice (some ⟨501, 0, none⟩) n1 c1], .func (.func 75) #[] #[.pointer (some ⟨502, 0, none⟩), .pointer (some ⟨503, 0, none⟩)]] (heapOf [(500, .sym l0 false 5), (501, .sym l1 false 1), (502, .cells [.int .i64 w, .int .i64 st, .int .i64 fi, .int .i64 ha, .int .i64 hb, .int .i64 co, .slice (some ⟨500, 0, none⟩) n0 c0, .int .i64 sa, .int .i64 sb, .int .i64 fa, .int .i64 fb] 89 false 11), (503, .cells [.int .i64 1] 3 false 1)]) (stateK K)
theorem geM1_text (C : Ct) (L : AtLoop) (w : Int) (st : Int) (fi : Int) (ha : Int) (hb : Int) (co : Int) (sa : Int) (sb : Int) (fa : Int) (fb : Int) (n0 : Nat) (c0 : Nat) (l0 : List Go.Value) (nm : ByteArray) (n1 : Nat) (c1 : Nat) (l1 : List Go.Value) (K : Go.Value → Blocks → Prop) : geM1 C L w st fi ha hb co sa sb fa fb n0 c0 l0 nm n1 c1 l1 K =
 (L 50003 [(Prod.mk 5 (Pt 1000 0)), (Prod.mk 6 (Value.slice none 0 0)), (Prod.mk 7 (Pt 1001 0)), (Prod.mk 11 (Value.func (Go.Fn.func 107) [].toArray [(Pt 1002 0), (Pt 1003 0)].toArray))] [(Prod.mk 1000 (AObj.cells [(Value.func (Go.Fn.func 75) [].toArray [(Pt 502 0), (Pt 503 0)].toArray)] 108 false 1)), (Prod.mk 1001 (AObj.cells [(Value.slice none 0 0)] 53 false 1)), (Prod.mk 1002 (AObj.cells [(vI w), (vI st), (vI fi), (vI ha), (vI hb), (vI co), (Sl 500 (n0) (c0)), (vI sa), (vI sb), (vI fa), (vI fb)] 89 false 1)), (Prod.mk 1003 (AObj.cells [(Value.string (nm)), (Sl 501 (n1) (c1))] 29 false 1)), (Prod.mk 502 (AObj.cells [(vI w), (vI st), (vI fi), (vI ha), (vI hb), (vI co), (Sl 500 (n0) (c0)), (vI sa), (vI sb), (vI fa), (vI fb)] 89 false 11)), (Prod.mk 503 (AObj.cells [(vI 1)] 3 false 1)), (Prod.mk 500 (AObj.sym (l0) false 5)), (Prod.mk 501 (AObj.sym (l1) false 1))]) := by kernel_rfl
abbrev zeM11 (x0 : Int) (x1 : Int) (x2 : Int) (x3 : Int) (x4 : Int) (x5 : Int) (n6 : Nat) (c7 : Nat) (x8 : Int) (x9 : Int) (x10 : Int) (x11 : Int) (s12 : ByteArray) (n13 : Nat) (c14 : Nat) (x15 : Int) (x16 : Int) (x17 : Int) (x18 : Int) (x19 : Int) (x20 : Int) (n21 : Nat) (c22 : Nat) (x23 : Int) (x24 : Int) (x25 : Int) (x26 : Int) (l27 : List Value) (l28 : List Value) : Slots × Blocks := ([(5, (Value.pointer (some ⟨1000, 0, none⟩))), (6, (Value.slice none 0 0)), (7, (Value.pointer (some ⟨1001, 0, none⟩))), (11, (Value.func (.func 107) #[] #[(Value.pointer (some ⟨1002, 0, none⟩)), (Value.pointer (some ⟨1003, 0, none⟩))]))], [(1000, (AObj.cells [(Value.func (.func 75) #[] #[(Value.pointer (some ⟨502, 0, none⟩)), (Value.pointer (some ⟨503, 0, none⟩))])] 108 false 1)), (1001, (AObj.cells [(Value.slice none 0 0)] 53 false 1)), (1002, (AObj.cells [(Value.int .i64 x0), (Value.int .i64 x1), (Value.int .i64 x2), (Value.int .i64 x3), (Value.int .i64 x4), (Value.int .i64 x5), (Value.slice (some ⟨500, 0, none⟩) n6 c7), (Value.int .i64 x8), (Value.int .i64 x9), (Value.int .i64 x10), (Value.int .i64 x11)] 89 false 1)), (1003, (AObj.cells [(Value.string s12), (Value.slice (some ⟨501, 0, none⟩) n13 c14)] 29 false 1)), (502, (AObj.cells [(Value.int .i64 x15), (Value.int .i64 x16), (Value.int .i64 x17), (Value.int .i64 x18), (Value.int .i64 x19), (Value.int .i64 x20), (Value.slice (some ⟨500, 0, none⟩) n21 c22), (Value.int .i64 x23), (Value.int .i64 x24), (Value.int .i64 x25), (Value.int .i64 x26)] 89 false 11)), (503, (AObj.cells [(Value.int .i64 (1))] 3 false 1)), (500, (AObj.sym l27 false 5)), (501, (AObj.sym l28 false 1))])
def heM11 (x0 : Int) (x1 : Int) (x2 : Int) (x3 : Int) (x4 : Int) (x5 : Int) (n6 : Nat) (c7 : Nat) (x8 : Int) (x9 : Int) (x10 : Int) (x11 : Int) (s12 : ByteArray) (n13 : Nat) (c14 : Nat) (x15 : Int) (x16 : Int) (x17 : Int) (x18 : Int) (x19 : Int) (x20 : Int) (n21 : Nat) (c22 : Nat) (x23 : Int) (x24 : Int) (x25 : Int) (x26 : Int) (l27 : List Value) (l28 : List Value) (Kr : Kh) : Prop := rHead Tryz.prog 64 50003 [(5, (Value.pointer (some ⟨1000, 0, none⟩))), (6, (Value.slice none 0 0)), (7, (Value.pointer (some ⟨1001, 0, none⟩))), (11, (Value.func (.func 107) #[] #[(Value.pointer (some ⟨1002, 0, none⟩)), (Value.pointer (some ⟨1003, 0, none⟩))]))] [(1000, (AObj.cells [(Value.func (.func 75) #[] #[(Value.pointer (some ⟨502, 0, none⟩)), (Value.pointer (some ⟨503, 0, none⟩))])] 108 false 1)), (1001, (AObj.cells [(Value.slice none 0 0)] 53 false 1)), (1002, (AObj.cells [(Value.int .i64 x0), (Value.int .i64 x1), (Value.int .i64 x2), (Value.int .i64 x3), (Value.int .i64 x4), (Value.int .i64 x5), (Value.slice (some ⟨500, 0, none⟩) n6 c7), (Value.int .i64 x8), (Value.int .i64 x9), (Value.int .i64 x10), (Value.int .i64 x11)] 89 false 1)), (1003, (AObj.cells [(Value.string s12), (Value.slice (some ⟨501, 0, none⟩) n13 c14)] 29 false 1)), (502, (AObj.cells [(Value.int .i64 x15), (Value.int .i64 x16), (Value.int .i64 x17), (Value.int .i64 x18), (Value.int .i64 x19), (Value.int .i64 x20), (Value.slice (some ⟨500, 0, none⟩) n21 c22), (Value.int .i64 x23), (Value.int .i64 x24), (Value.int .i64 x25), (Value.int .i64 x26)] 89 false 11)), (503, (AObj.cells [(Value.int .i64 (1))] 3 false 1)), (500, (AObj.sym l27 false 5)), (501, (AObj.sym l28 false 1))] Kr
theorem heM11_text (x0 : Int) (x1 : Int) (x2 : Int) (x3 : Int) (x4 : Int) (x5 : Int) (n6 : Nat) (c7 : Nat) (x8 : Int) (x9 : Int) (x10 : Int) (x11 : Int) (s12 : ByteArray) (n13 : Nat) (c14 : Nat) (x15 : Int) (x16 : Int) (x17 : Int) (x18 : Int) (x19 : Int) (x20 : Int) (n21 : Nat) (c22 : Nat) (x23 : Int) (x24 : Int) (x25 : Int) (x26 : Int) (l27 : List Go.Value) (l28 : List Go.Value) (Kr : Kh) : heM11 x0 x1 x2 x3 x4 x5 n6 c7 x8 x9 x10 x11 s12 n13 c14 x15 x16 x17 x18 x19 x20 n21 c22 x23 x24 x25 x26 l27 l28 Kr =
 (Kr 107 [(Value.func (Go.Fn.yield 915) [].toArray [].toArray), (Pt 500 0), (Pt 501 0)] [(Prod.mk 500 (AObj.cells [(vI x0), (vI x1), (vI x2), (vI x3), (vI x4), (vI x5), (Sl 502 (n6) (c7)), (vI x8), (vI x9), (vI x10), (vI x11)] 89 false 1)), (Prod.mk 501 (AObj.cells [(Value.string (s12)), (Sl 503 (n13) (c14))] 29 false 1)), (Prod.mk 502 (AObj.sym (l27) false 5)), (Prod.mk 503 (AObj.sym (l28) false 1))] [(Prod.mk 5 (Pt 1000 0)), (Prod.mk 6 (Value.slice none 0 0)), (Prod.mk 7 (Pt 1001 0)), (Prod.mk 1000000 (Value.map (some 1002)))] [(Prod.mk 1000 (AObj.cells [(Value.func (Go.Fn.func 75) [].toArray [(Pt 502 0), (Pt 503 0)].toArray)] 108 false 1)), (Prod.mk 1001 (AObj.cells [(Value.slice none 0 0)] 53 false 1)), (Prod.mk 1002 AObj.deferred), (Prod.mk 502 (AObj.cells [(vI x15), (vI x16), (vI x17), (vI x18), (vI x19), (vI x20), (Sl 500 (n21) (c22)), (vI x23), (vI x24), (vI x25), (vI x26)] 89 false 11)), (Prod.mk 503 (AObj.cells [(vI 1)] 3 false 1)), (Prod.mk 500 (AObj.sym (l27) false 5))]) := by kernel_rfl
abbrev zeM12 (x0 : Int) (x1 : Int) (x2 : Int) (x3 : Int) (x4 : Int) (x5 : Int) (n6 : Nat) (c7 : Nat) (x8 : Int) (x9 : Int) (x10 : Int) (x11 : Int) (l12 : List Value) : Slots × Blocks := ([(5, (Value.pointer (some ⟨1000, 0, none⟩))), (6, (Value.slice none 0 0)), (7, (Value.pointer (some ⟨1001, 0, none⟩))), (1000000, (Go.Value.map (Option.some 1002)))], [(1000, (AObj.cells [(Value.func (.func 75) #[] #[(Value.pointer (some ⟨502, 0, none⟩)), (Value.pointer (some ⟨503, 0, none⟩))])] 108 false 1)), (1001, (AObj.cells [(Value.slice none 0 0)] 53 false 1)), (1002, AObj.deferred), (502, (AObj.cells [(Value.int .i64 x0), (Value.int .i64 x1), (Value.int .i64 x2), (Value.int .i64 x3), (Value.int .i64 x4), (Value.int .i64 x5), (Value.slice (some ⟨500, 0, none⟩) n6 c7), (Value.int .i64 x8), (Value.int .i64 x9), (Value.int .i64 x10), (Value.int .i64 x11)] 89 false 11)), (503, (AObj.cells [(Value.int .i64 (1))] 3 false 1)), (500, (AObj.sym l12 false 5))])
def weM12 (C : Ct) (x0 : Int) (x1 : Int) (x2 : Int) (x3 : Int) (x4 : Int) (x5 : Int) (n6 : Nat) (c7 : Nat) (x8 : Int) (x9 : Int) (x10 : Int) (x11 : Int) (l12 : List Value) (y0 : Int) (y1 : Int) (y2 : Int) (B : Bx) (X : Ex) : Prop := rRound Tryz.prog (hP C) 64 50003 [(5, (Value.pointer (some ⟨1000, 0, none⟩))), (6, (Value.slice none 0 0)), (7, (Value.pointer (some ⟨1001, 0, none⟩))), (1000000, (Go.Value.map (Option.some 1002)))] [(1000, (AObj.cells [(Value.func (.func 75) #[] #[(Value.pointer (some ⟨502, 0, none⟩)), (Value.pointer (some ⟨503, 0, none⟩))])] 108 false 1)), (1001, (AObj.cells [(Value.slice none 0 0)] 53 false 1)), (1002, AObj.deferred), (502, (AObj.cells [(Value.int .i64 x0), (Value.int .i64 x1), (Value.int .i64 x2), (Value.int .i64 x3), (Value.int .i64 x4), (Value.int .i64 x5), (Value.slice (some ⟨500, 0, none⟩) n6 c7), (Value.int .i64 x8), (Value.int .i64 x9), (Value.int .i64 x10), (Value.int .i64 x11)] 89 false 11)), (503, (AObj.cells [(Value.int .i64 (1))] 3 false 1)), (500, (AObj.sym l12 false 5))] [(.agg [(.val (.int .i64 y0)), (.val (.int .i64 y1)), (.val (.int .i64 y2))])] B X
theorem weM12_text (C : Ct) (x0 : Int) (x1 : Int) (x2 : Int) (x3 : Int) (x4 : Int) (x5 : Int) (n6 : Nat) (c7 : Nat) (x8 : Int) (x9 : Int) (x10 : Int) (x11 : Int) (l12 : List Go.Value) (y0 : Int) (y1 : Int) (y2 : Int) (B : Bx) (X : Ex) : weM12 C x0 x1 x2 x3 x4 x5 n6 c7 x8 x9 x10 x11 l12 y0 y1 y2 B X =
 (∀ caps : Nat → Nat,
 (((Qv (Value.agg [(vI y0), (vI y1), (vI y2)].toArray)) ∧
 ((Qv (Value.func (Go.Fn.func 75) [].toArray [(Pt 502 0), (Pt 503 0)].toArray)) ∧
 ((Qv (Value.slice none 0 0)) ∧
 True))) ∧
 (((Qv (vI 1)) ∧
 ((Qv (Value.agg [(vI y0), (vI y1), (vI y2)].toArray)) ∧
 ((Qv (Value.agg [(vI x0), (vI x1), (vI x2), (vI x3), (vI x4), (vI x5), (Sl 500 (n6) (c7)), (vI x8), (vI x9), (vI x10), (vI x11)].toArray)) ∧
 True))) ∧
 (bcase (decide (0 + n6 * 5 ≤ List.length l12))
 (∃ n1 : Int,
 (∃ n2 : Int,
 (∃ n3 : Int,
 (∃ n4 : Int,
 (∃ n5 : Int,
 (∃ n7 : Int,
 (∃ n8 : Int,
 (∃ n9 : Int,
 ((Says C 76 [(D.agg [(D.val (vI x0)), (D.val (vI x1)), (D.val (vI x2)), (D.val (vI x3)), (D.val (vI x4)), (D.val (vI x5)), (D.sl (n6) 5 (List.take (n6 * 5) (List.drop 0 l12))), (D.val (vI x8)), (D.val (vI x9)), (D.val (vI x10)), (D.val (vI x11))]), (D.agg [(D.val (vI y0)), (D.val (vI y1)), (D.val (vI y2))])] [(D.agg [(D.val (vI n1)), (D.val (vI n2)), (D.val (vI n3)), (D.val (vI n4)), (D.val (vI n5)), (D.val (vI n7)), (D.val (vI n8)), (D.val (vI n9))])]) ∧
 (((Qv (Value.agg [(vI n3), (vI n4)].toArray)) ∧
 ((Qv (vI 1)) ∧
 True)) ∧
 (True ∧
 ((((Qv (Sl 1006 1 1)) ∧
 (Qv (some (AObj.cells [(vI n3), (vI n4)] 23 false 2)))) ∧
 ((Qv (Value.slice none 0 0)) ∧
 True)) ∧
 (True ∧
 (True ∧
 (B [(Prod.mk 5 (Pt 1000 0)), (Prod.mk 6 (Value.slice none 0 0)), (Prod.mk 7 (Pt 1001 0)), (Prod.mk 1000000 (Value.map (some 1002)))] [(Prod.mk 1000 (AObj.cells [(Value.func (Go.Fn.func 75) [].toArray [(Pt 502 0), (Pt 503 0)].toArray)] 108 false 1)), (Prod.mk 1001 (AObj.cells [(Sl 1003 1 1)] 53 false 1)), (Prod.mk 1002 AObj.deferred), (Prod.mk 502 (AObj.cells [(vI x0), (vI x1), (vI x2), (vI x3), (vI x4), (vI x5), (Sl 500 (n6) (c7)), (vI x8), (vI x9), (vI x10), (vI x11)] 89 false 11)), (Prod.mk 503 (AObj.cells [(vI 1)] 3 false 1)), (Prod.mk 1003 (AObj.sym [(vI n3), (vI n4)] true 2)), (Prod.mk 500 (AObj.sym (l12) false 5))])))))))))))))))
 False)))) := by kernel_rfl
abbrev zeM14 (n0 : Nat) (x1 : Int) (x2 : Int) (x3 : Int) (x4 : Int) (x5 : Int) (x6 : Int) (n7 : Nat) (c8 : Nat) (x9 : Int) (x10 : Int) (x11 : Int) (x12 : Int) (l13 : List Value) (l14 : List Value) : Slots × Blocks := ([(5, (Value.pointer (some ⟨1000, 0, none⟩))), (6, (Value.slice none 0 0)), (7, (Value.pointer (some ⟨1001, 0, none⟩))), (1000000, (Go.Value.map (Option.some 1002)))], [(1000, (AObj.cells [(Value.func (.func 75) #[] #[(Value.pointer (some ⟨502, 0, none⟩)), (Value.pointer (some ⟨503, 0, none⟩))])] 108 false 1)), (1001, (AObj.cells [(Value.slice (some ⟨1003, 0, none⟩) n0 n0)] 53 false 1)), (1002, AObj.deferred), (502, (AObj.cells [(Value.int .i64 x1), (Value.int .i64 x2), (Value.int .i64 x3), (Value.int .i64 x4), (Value.int .i64 x5), (Value.int .i64 x6), (Value.slice (some ⟨500, 0, none⟩) n7 c8), (Value.int .i64 x9), (Value.int .i64 x10), (Value.int .i64 x11), (Value.int .i64 x12)] 89 false 11)), (503, (AObj.cells [(Value.int .i64 (1))] 3 false 1)), (1003, (AObj.sym l13 true 2)), (500, (AObj.sym l14 false 5))])
def weM14 (C : Ct) (n0 : Nat) (x1 : Int) (x2 : Int) (x3 : Int) (x4 : Int) (x5 : Int) (x6 : Int) (n7 : Nat) (c8 : Nat) (x9 : Int) (x10 : Int) (x11 : Int) (x12 : Int) (l13 : List Value) (l14 : List Value) (y0 : Int) (y1 : Int) (y2 : Int) (B : Bx) (X : Ex) : Prop := rRound Tryz.prog (hP C) 64 50003 [(5, (Value.pointer (some ⟨1000, 0, none⟩))), (6, (Value.slice none 0 0)), (7, (Value.pointer (some ⟨1001, 0, none⟩))), (1000000, (Go.Value.map (Option.some 1002)))] [(1000, (AObj.cells [(Value.func (.func 75) #[] #[(Value.pointer (some ⟨502, 0, none⟩)), (Value.pointer (some ⟨503, 0, none⟩))])] 108 false 1)), (1001, (AObj.cells [(Value.slice (some ⟨1003, 0, none⟩) n0 n0)] 53 false 1)), (1002, AObj.deferred), (502, (AObj.cells [(Value.int .i64 x1), (Value.int .i64 x2), (Value.int .i64 x3), (Value.int .i64 x4), (Value.int .i64 x5), (Value.int .i64 x6), (Value.slice (some ⟨500, 0, none⟩) n7 c8), (Value.int .i64 x9), (Value.int .i64 x10), (Value.int .i64 x11), (Value.int .i64 x12)] 89 false 11)), (503, (AObj.cells [(Value.int .i64 (1))] 3 false 1)), (1003, (AObj.sym l13 true 2)), (500, (AObj.sym l14 false 5))] [(.agg [(.val (.int .i64 y0)), (.val (.int .i64 y1)), (.val (.int .i64 y2))])] B X
theorem weM14_text (C : Ct) (n0 : Nat) (x1 : Int) (x2 : Int) (x3 : Int) (x4 : Int) (x5 : Int) (x6 : Int) (n7 : Nat) (c8 : Nat) (x9 : Int) (x10 : Int) (x11 : Int) (x12 : Int) (l13 : List Go.Value) (l14 : List Go.Value) (y0 : Int) (y1 : Int) (y2 : Int) (B : Bx) (X : Ex) : weM14 C n0 x1 x2 x3 x4 x5 x6 n7 c8 x9 x10 x11 x12 l13 l14 y0 y1 y2 B X =
 (∀ caps : Nat → Nat,
 (((Qv (Value.agg [(vI y0), (vI y1), (vI y2)].toArray)) ∧
 ((Qv (Value.func (Go.Fn.func 75) [].toArray [(Pt 502 0), (Pt 503 0)].toArray)) ∧
 ((Qv (Sl 1003 (n0) (n0))) ∧
 True))) ∧
 (((Qv (vI 1)) ∧
 ((Qv (Value.agg [(vI y0), (vI y1), (vI y2)].toArray)) ∧
 ((Qv (Value.agg [(vI x1), (vI x2), (vI x3), (vI x4), (vI x5), (vI x6), (Sl 500 (n7) (c8)), (vI x9), (vI x10), (vI x11), (vI x12)].toArray)) ∧
 True))) ∧
 (bcase (decide (0 + n7 * 5 ≤ List.length l14))
 (∃ n1 : Int,
 (∃ n2 : Int,
 (∃ n3 : Int,
 (∃ n4 : Int,
 (∃ n5 : Int,
 (∃ n6 : Int,
 (∃ n8 : Int,
 (∃ n9 : Int,
 ((Says C 76 [(D.agg [(D.val (vI x1)), (D.val (vI x2)), (D.val (vI x3)), (D.val (vI x4)), (D.val (vI x5)), (D.val (vI x6)), (D.sl (n7) 5 (List.take (n7 * 5) (List.drop 0 l14))), (D.val (vI x9)), (D.val (vI x10)), (D.val (vI x11)), (D.val (vI x12))]), (D.agg [(D.val (vI y0)), (D.val (vI y1)), (D.val (vI y2))])] [(D.agg [(D.val (vI n1)), (D.val (vI n2)), (D.val (vI n3)), (D.val (vI n4)), (D.val (vI n5)), (D.val (vI n6)), (D.val (vI n8)), (D.val (vI n9))])]) ∧
 (((Qv (Value.agg [(vI n3), (vI n4)].toArray)) ∧
 ((Qv (vI 1)) ∧
 True)) ∧
 (True ∧
 ((((Qv (Sl 1007 1 1)) ∧
 (Qv (some (AObj.cells [(vI n3), (vI n4)] 23 false 2)))) ∧
 ((Qv (Sl 1003 (n0) (n0))) ∧
 True)) ∧
 (bcase (decide (n0 < n0 + 1))
 (bcase (decide ((2 * (n0 + 1) + 768) * 16 ≤ 281474976710656))
 (bcase (decide (n0 + 1 ≤ 1099511627776))
 (bcase (decide (0 + n0 * 2 ≤ List.length l13))
 (bcase (decide (0 + n0 * 2 = List.length l13))
 (True ∧
 (True ∧
 (B [(Prod.mk 5 (Pt 1000 0)), (Prod.mk 6 (Value.slice none 0 0)), (Prod.mk 7 (Pt 1001 0)), (Prod.mk 1000000 (Value.map (some 1002)))] [(Prod.mk 1000 (AObj.cells [(Value.func (Go.Fn.func 75) [].toArray [(Pt 502 0), (Pt 503 0)].toArray)] 108 false 1)), (Prod.mk 1001 (AObj.cells [(Sl 1003 (n0 + 1) (n0 + 1))] 53 false 1)), (Prod.mk 1002 AObj.deferred), (Prod.mk 502 (AObj.cells [(vI x1), (vI x2), (vI x3), (vI x4), (vI x5), (vI x6), (Sl 500 (n7) (c8)), (vI x9), (vI x10), (vI x11), (vI x12)] 89 false 11)), (Prod.mk 503 (AObj.cells [(vI 1)] 3 false 1)), (Prod.mk 1003 (AObj.sym ((List.take (n0 * 2) (List.drop 0 l13)) ++ [(vI n3), (vI n4)]) true 2)), (Prod.mk 500 (AObj.sym (l14) false 5))])))
 False)
 False)
 False)
 False)
 False)))))))))))))
 False)))) := by kernel_rfl
def neM15 (C : Ct) (L : AtLoop) (n0 : Nat) (x1 : Int) (x2 : Int) (x3 : Int) (x4 : Int) (x5 : Int) (x6 : Int) (n7 : Nat) (c8 : Nat) (x9 : Int) (x10 : Int) (x11 : Int) (x12 : Int) (l13 : List Value) (l14 : List Value) (K : Value → Blocks → Prop) : Prop := jNext Tryz.prog (hP C) L [] 64 50003 .normal [(5, (Value.pointer (some ⟨1000, 0, none⟩))), (6, (Value.slice none 0 0)), (7, (Value.pointer (some ⟨1001, 0, none⟩))), (1000000, (Go.Value.map (Option.some 1002)))] [(1000, (AObj.cells [(Value.func (.func 75) #[] #[(Value.pointer (some ⟨502, 0, none⟩)), (Value.pointer (some ⟨503, 0, none⟩))])] 108 false 1)), (1001, (AObj.cells [(Value.slice (some ⟨1003, 0, none⟩) n0 n0)] 53 false 1)), (1002, AObj.deferred), (502, (AObj.cells [(Value.int .i64 x1), (Value.int .i64 x2), (Value.int .i64 x3), (Value.int .i64 x4), (Value.int .i64 x5), (Value.int .i64 x6), (Value.slice (some ⟨500, 0, none⟩) n7 c8), (Value.int .i64 x9), (Value.int .i64 x10), (Value.int .i64 x11), (Value.int .i64 x12)] 89 false 11)), (503, (AObj.cells [(Value.int .i64 (1))] 3 false 1)), (1003, (AObj.sym l13 true 2)), (500, (AObj.sym l14 false 5))] (stateK K)
theorem neM15_text (C : Ct) (L : AtLoop) (n0 : Nat) (x1 : Int) (x2 : Int) (x3 : Int) (x4 : Int) (x5 : Int) (x6 : Int) (n7 : Nat) (c8 : Nat) (x9 : Int) (x10 : Int) (x11 : Int) (x12 : Int) (l13 : List Go.Value) (l14 : List Go.Value) (K : Go.Value → Blocks → Prop) : neM15 C L n0 x1 x2 x3 x4 x5 x6 n7 c8 x9 x10 x11 x12 l13 l14 K =
 (K (Sl 1000 (n0) (n0)) [(Prod.mk 1000 (AObj.sym (l13) true 2))]) := by kernel_rfl
def geM2 (C : Ct) (L : AtLoop) (w : Int) (st : Int) (fi : Int) (ha : Int) (hb : Int) (co : Int) (sa : Int) (sb : Int) (fa : Int) (fb : Int) (n0 : Nat) (c0 : Nat) (l0 : List Value) (nm : ByteArray) (n1 : Nat) (c1 : Nat) (l1 : List Value) (K : Value → Blocks → Prop) : Prop := jFn Tryz.prog (hP C) L [] 64 #[.agg #[.int .i64 w, .int .i64 st, .int .i64 fi, .int .i64 ha, .int .i64 hb, .int .i64 co, .slice (some ⟨500, 0, none⟩) n0 c0, .int .i64 sa, .int .i64 sb, .int .i64 fa, .int .i64 fb], .agg #[.string nm, .slice (some ⟨501, 0, none⟩) n1 c1], .func (.func 75) #[] #[.pointer (some ⟨502, 0, none⟩), .pointer (some ⟨503, 0, none⟩)]] (heapOf [(500, .sym l0 false 5), (501, .sym l1 false 1), (502, .cells [.int .i64 w, .int .i64 st, .int .i64 fi, .int .i64 ha, .int .i64 hb, .int .i64 co, .slice (some ⟨500, 0, none⟩) n0 c0, .int .i64 sa, .int .i64 sb, .int .i64 fa, .int .i64 fb] 89 false 11), (503, .cells [.int .i64 2] 3 false 1)]) (stateK K)
theorem geM2_text (C : Ct) (L : AtLoop) (w : Int) (st : Int) (fi : Int) (ha : Int) (hb : Int) (co : Int) (sa : Int) (sb : Int) (fa : Int) (fb : Int) (n0 : Nat) (c0 : Nat) (l0 : List Go.Value) (nm : ByteArray) (n1 : Nat) (c1 : Nat) (l1 : List Go.Value) (K : Go.Value → Blocks → Prop) : geM2 C L w st fi ha hb co sa sb fa fb n0 c0 l0 nm n1 c1 l1 K =
 (L 50003 [(Prod.mk 5 (Pt 1000 0)), (Prod.mk 6 (Value.slice none 0 0)), (Prod.mk 7 (Pt 1001 0)), (Prod.mk 11 (Value.func (Go.Fn.func 107) [].toArray [(Pt 1002 0), (Pt 1003 0)].toArray))] [(Prod.mk 1000 (AObj.cells [(Value.func (Go.Fn.func 75) [].toArray [(Pt 502 0), (Pt 503 0)].toArray)] 108 false 1)), (Prod.mk 1001 (AObj.cells [(Value.slice none 0 0)] 53 false 1)), (Prod.mk 1002 (AObj.cells [(vI w), (vI st), (vI fi), (vI ha), (vI hb), (vI co), (Sl 500 (n0) (c0)), (vI sa), (vI sb), (vI fa), (vI fb)] 89 false 1)), (Prod.mk 1003 (AObj.cells [(Value.string (nm)), (Sl 501 (n1) (c1))] 29 false 1)), (Prod.mk 502 (AObj.cells [(vI w), (vI st), (vI fi), (vI ha), (vI hb), (vI co), (Sl 500 (n0) (c0)), (vI sa), (vI sb), (vI fa), (vI fb)] 89 false 11)), (Prod.mk 503 (AObj.cells [(vI 2)] 3 false 1)), (Prod.mk 500 (AObj.sym (l0) false 5)), (Prod.mk 501 (AObj.sym (l1) false 1))]) := by kernel_rfl
abbrev zeM21 (x0 : Int) (x1 : Int) (x2 : Int) (x3 : Int) (x4 : Int) (x5 : Int) (n6 : Nat) (c7 : Nat) (x8 : Int) (x9 : Int) (x10 : Int) (x11 : Int) (s12 : ByteArray) (n13 : Nat) (c14 : Nat) (x15 : Int) (x16 : Int) (x17 : Int) (x18 : Int) (x19 : Int) (x20 : Int) (n21 : Nat) (c22 : Nat) (x23 : Int) (x24 : Int) (x25 : Int) (x26 : Int) (l27 : List Value) (l28 : List Value) : Slots × Blocks := ([(5, (Value.pointer (some ⟨1000, 0, none⟩))), (6, (Value.slice none 0 0)), (7, (Value.pointer (some ⟨1001, 0, none⟩))), (11, (Value.func (.func 107) #[] #[(Value.pointer (some ⟨1002, 0, none⟩)), (Value.pointer (some ⟨1003, 0, none⟩))]))], [(1000, (AObj.cells [(Value.func (.func 75) #[] #[(Value.pointer (some ⟨502, 0, none⟩)), (Value.pointer (some ⟨503, 0, none⟩))])] 108 false 1)), (1001, (AObj.cells [(Value.slice none 0 0)] 53 false 1)), (1002, (AObj.cells [(Value.int .i64 x0), (Value.int .i64 x1), (Value.int .i64 x2), (Value.int .i64 x3), (Value.int .i64 x4), (Value.int .i64 x5), (Value.slice (some ⟨500, 0, none⟩) n6 c7), (Value.int .i64 x8), (Value.int .i64 x9), (Value.int .i64 x10), (Value.int .i64 x11)] 89 false 1)), (1003, (AObj.cells [(Value.string s12), (Value.slice (some ⟨501, 0, none⟩) n13 c14)] 29 false 1)), (502, (AObj.cells [(Value.int .i64 x15), (Value.int .i64 x16), (Value.int .i64 x17), (Value.int .i64 x18), (Value.int .i64 x19), (Value.int .i64 x20), (Value.slice (some ⟨500, 0, none⟩) n21 c22), (Value.int .i64 x23), (Value.int .i64 x24), (Value.int .i64 x25), (Value.int .i64 x26)] 89 false 11)), (503, (AObj.cells [(Value.int .i64 (2))] 3 false 1)), (500, (AObj.sym l27 false 5)), (501, (AObj.sym l28 false 1))])
def heM21 (x0 : Int) (x1 : Int) (x2 : Int) (x3 : Int) (x4 : Int) (x5 : Int) (n6 : Nat) (c7 : Nat) (x8 : Int) (x9 : Int) (x10 : Int) (x11 : Int) (s12 : ByteArray) (n13 : Nat) (c14 : Nat) (x15 : Int) (x16 : Int) (x17 : Int) (x18 : Int) (x19 : Int) (x20 : Int) (n21 : Nat) (c22 : Nat) (x23 : Int) (x24 : Int) (x25 : Int) (x26 : Int) (l27 : List Value) (l28 : List Value) (Kr : Kh) : Prop := rHead Tryz.prog 64 50003 [(5, (Value.pointer (some ⟨1000, 0, none⟩))), (6, (Value.slice none 0 0)), (7, (Value.pointer (some ⟨1001, 0, none⟩))), (11, (Value.func (.func 107) #[] #[(Value.pointer (some ⟨1002, 0, none⟩)), (Value.pointer (some ⟨1003, 0, none⟩))]))] [(1000, (AObj.cells [(Value.func (.func 75) #[] #[(Value.pointer (some ⟨502, 0, none⟩)), (Value.pointer (some ⟨503, 0, none⟩))])] 108 false 1)), (1001, (AObj.cells [(Value.slice none 0 0)] 53 false 1)), (1002, (AObj.cells [(Value.int .i64 x0), (Value.int .i64 x1), (Value.int .i64 x2), (Value.int .i64 x3), (Value.int .i64 x4), (Value.int .i64 x5), (Value.slice (some ⟨500, 0, none⟩) n6 c7), (Value.int .i64 x8), (Value.int .i64 x9), (Value.int .i64 x10), (Value.int .i64 x11)] 89 false 1)), (1003, (AObj.cells [(Value.string s12), (Value.slice (some ⟨501, 0, none⟩) n13 c14)] 29 false 1)), (502, (AObj.cells [(Value.int .i64 x15), (Value.int .i64 x16), (Value.int .i64 x17), (Value.int .i64 x18), (Value.int .i64 x19), (Value.int .i64 x20), (Value.slice (some ⟨500, 0, none⟩) n21 c22), (Value.int .i64 x23), (Value.int .i64 x24), (Value.int .i64 x25), (Value.int .i64 x26)] 89 false 11)), (503, (AObj.cells [(Value.int .i64 (2))] 3 false 1)), (500, (AObj.sym l27 false 5)), (501, (AObj.sym l28 false 1))] Kr
theorem heM21_text (x0 : Int) (x1 : Int) (x2 : Int) (x3 : Int) (x4 : Int) (x5 : Int) (n6 : Nat) (c7 : Nat) (x8 : Int) (x9 : Int) (x10 : Int) (x11 : Int) (s12 : ByteArray) (n13 : Nat) (c14 : Nat) (x15 : Int) (x16 : Int) (x17 : Int) (x18 : Int) (x19 : Int) (x20 : Int) (n21 : Nat) (c22 : Nat) (x23 : Int) (x24 : Int) (x25 : Int) (x26 : Int) (l27 : List Go.Value) (l28 : List Go.Value) (Kr : Kh) : heM21 x0 x1 x2 x3 x4 x5 n6 c7 x8 x9 x10 x11 s12 n13 c14 x15 x16 x17 x18 x19 x20 n21 c22 x23 x24 x25 x26 l27 l28 Kr =
 (Kr 107 [(Value.func (Go.Fn.yield 915) [].toArray [].toArray), (Pt 500 0), (Pt 501 0)] [(Prod.mk 500 (AObj.cells [(vI x0), (vI x1), (vI x2), (vI x3), (vI x4), (vI x5), (Sl 502 (n6) (c7)), (vI x8), (vI x9), (vI x10), (vI x11)] 89 false 1)), (Prod.mk 501 (AObj.cells [(Value.string (s12)), (Sl 503 (n13) (c14))] 29 false 1)), (Prod.mk 502 (AObj.sym (l27) false 5)), (Prod.mk 503 (AObj.sym (l28) false 1))] [(Prod.mk 5 (Pt 1000 0)), (Prod.mk 6 (Value.slice none 0 0)), (Prod.mk 7 (Pt 1001 0)), (Prod.mk 1000000 (Value.map (some 1002)))] [(Prod.mk 1000 (AObj.cells [(Value.func (Go.Fn.func 75) [].toArray [(Pt 502 0), (Pt 503 0)].toArray)] 108 false 1)), (Prod.mk 1001 (AObj.cells [(Value.slice none 0 0)] 53 false 1)), (Prod.mk 1002 AObj.deferred), (Prod.mk 502 (AObj.cells [(vI x15), (vI x16), (vI x17), (vI x18), (vI x19), (vI x20), (Sl 500 (n21) (c22)), (vI x23), (vI x24), (vI x25), (vI x26)] 89 false 11)), (Prod.mk 503 (AObj.cells [(vI 2)] 3 false 1)), (Prod.mk 500 (AObj.sym (l27) false 5))]) := by kernel_rfl
abbrev zeM22 (x0 : Int) (x1 : Int) (x2 : Int) (x3 : Int) (x4 : Int) (x5 : Int) (n6 : Nat) (c7 : Nat) (x8 : Int) (x9 : Int) (x10 : Int) (x11 : Int) (l12 : List Value) : Slots × Blocks := ([(5, (Value.pointer (some ⟨1000, 0, none⟩))), (6, (Value.slice none 0 0)), (7, (Value.pointer (some ⟨1001, 0, none⟩))), (1000000, (Go.Value.map (Option.some 1002)))], [(1000, (AObj.cells [(Value.func (.func 75) #[] #[(Value.pointer (some ⟨502, 0, none⟩)), (Value.pointer (some ⟨503, 0, none⟩))])] 108 false 1)), (1001, (AObj.cells [(Value.slice none 0 0)] 53 false 1)), (1002, AObj.deferred), (502, (AObj.cells [(Value.int .i64 x0), (Value.int .i64 x1), (Value.int .i64 x2), (Value.int .i64 x3), (Value.int .i64 x4), (Value.int .i64 x5), (Value.slice (some ⟨500, 0, none⟩) n6 c7), (Value.int .i64 x8), (Value.int .i64 x9), (Value.int .i64 x10), (Value.int .i64 x11)] 89 false 11)), (503, (AObj.cells [(Value.int .i64 (2))] 3 false 1)), (500, (AObj.sym l12 false 5))])
def weM22 (C : Ct) (x0 : Int) (x1 : Int) (x2 : Int) (x3 : Int) (x4 : Int) (x5 : Int) (n6 : Nat) (c7 : Nat) (x8 : Int) (x9 : Int) (x10 : Int) (x11 : Int) (l12 : List Value) (y0 : Int) (y1 : Int) (y2 : Int) (B : Bx) (X : Ex) : Prop := rRound Tryz.prog (hP C) 64 50003 [(5, (Value.pointer (some ⟨1000, 0, none⟩))), (6, (Value.slice none 0 0)), (7, (Value.pointer (some ⟨1001, 0, none⟩))), (1000000, (Go.Value.map (Option.some 1002)))] [(1000, (AObj.cells [(Value.func (.func 75) #[] #[(Value.pointer (some ⟨502, 0, none⟩)), (Value.pointer (some ⟨503, 0, none⟩))])] 108 false 1)), (1001, (AObj.cells [(Value.slice none 0 0)] 53 false 1)), (1002, AObj.deferred), (502, (AObj.cells [(Value.int .i64 x0), (Value.int .i64 x1), (Value.int .i64 x2), (Value.int .i64 x3), (Value.int .i64 x4), (Value.int .i64 x5), (Value.slice (some ⟨500, 0, none⟩) n6 c7), (Value.int .i64 x8), (Value.int .i64 x9), (Value.int .i64 x10), (Value.int .i64 x11)] 89 false 11)), (503, (AObj.cells [(Value.int .i64 (2))] 3 false 1)), (500, (AObj.sym l12 false 5))] [(.agg [(.val (.int .i64 y0)), (.val (.int .i64 y1)), (.val (.int .i64 y2))])] B X
theorem weM22_text (C : Ct) (x0 : Int) (x1 : Int) (x2 : Int) (x3 : Int) (x4 : Int) (x5 : Int) (n6 : Nat) (c7 : Nat) (x8 : Int) (x9 : Int) (x10 : Int) (x11 : Int) (l12 : List Go.Value) (y0 : Int) (y1 : Int) (y2 : Int) (B : Bx) (X : Ex) : weM22 C x0 x1 x2 x3 x4 x5 n6 c7 x8 x9 x10 x11 l12 y0 y1 y2 B X =
 (∀ caps : Nat → Nat,
 (((Qv (Value.agg [(vI y0), (vI y1), (vI y2)].toArray)) ∧
 ((Qv (Value.func (Go.Fn.func 75) [].toArray [(Pt 502 0), (Pt 503 0)].toArray)) ∧
 ((Qv (Value.slice none 0 0)) ∧
 True))) ∧
 (((Qv (vI 2)) ∧
 ((Qv (Value.agg [(vI y0), (vI y1), (vI y2)].toArray)) ∧
 ((Qv (Value.agg [(vI x0), (vI x1), (vI x2), (vI x3), (vI x4), (vI x5), (Sl 500 (n6) (c7)), (vI x8), (vI x9), (vI x10), (vI x11)].toArray)) ∧
 True))) ∧
 (bcase (decide (0 + n6 * 5 ≤ List.length l12))
 (∃ n1 : Int,
 (∃ n2 : Int,
 (∃ n3 : Int,
 (∃ n4 : Int,
 (∃ n5 : Int,
 (∃ n7 : Int,
 (∃ n8 : Int,
 (∃ n9 : Int,
 ((Says C 76 [(D.agg [(D.val (vI x0)), (D.val (vI x1)), (D.val (vI x2)), (D.val (vI x3)), (D.val (vI x4)), (D.val (vI x5)), (D.sl (n6) 5 (List.take (n6 * 5) (List.drop 0 l12))), (D.val (vI x8)), (D.val (vI x9)), (D.val (vI x10)), (D.val (vI x11))]), (D.agg [(D.val (vI y0)), (D.val (vI y1)), (D.val (vI y2))])] [(D.agg [(D.val (vI n1)), (D.val (vI n2)), (D.val (vI n3)), (D.val (vI n4)), (D.val (vI n5)), (D.val (vI n7)), (D.val (vI n8)), (D.val (vI n9))])]) ∧
 (((Qv (Value.agg [(vI n5), (vI n7)].toArray)) ∧
 ((Qv (vI 2)) ∧
 True)) ∧
 (True ∧
 ((((Qv (Sl 1006 1 1)) ∧
 (Qv (some (AObj.cells [(vI n5), (vI n7)] 23 false 2)))) ∧
 ((Qv (Value.slice none 0 0)) ∧
 True)) ∧
 (True ∧
 (True ∧
 (B [(Prod.mk 5 (Pt 1000 0)), (Prod.mk 6 (Value.slice none 0 0)), (Prod.mk 7 (Pt 1001 0)), (Prod.mk 1000000 (Value.map (some 1002)))] [(Prod.mk 1000 (AObj.cells [(Value.func (Go.Fn.func 75) [].toArray [(Pt 502 0), (Pt 503 0)].toArray)] 108 false 1)), (Prod.mk 1001 (AObj.cells [(Sl 1003 1 1)] 53 false 1)), (Prod.mk 1002 AObj.deferred), (Prod.mk 502 (AObj.cells [(vI x0), (vI x1), (vI x2), (vI x3), (vI x4), (vI x5), (Sl 500 (n6) (c7)), (vI x8), (vI x9), (vI x10), (vI x11)] 89 false 11)), (Prod.mk 503 (AObj.cells [(vI 2)] 3 false 1)), (Prod.mk 1003 (AObj.sym [(vI n5), (vI n7)] true 2)), (Prod.mk 500 (AObj.sym (l12) false 5))])))))))))))))))
 False)))) := by kernel_rfl
abbrev zeM24 (n0 : Nat) (x1 : Int) (x2 : Int) (x3 : Int) (x4 : Int) (x5 : Int) (x6 : Int) (n7 : Nat) (c8 : Nat) (x9 : Int) (x10 : Int) (x11 : Int) (x12 : Int) (l13 : List Value) (l14 : List Value) : Slots × Blocks := ([(5, (Value.pointer (some ⟨1000, 0, none⟩))), (6, (Value.slice none 0 0)), (7, (Value.pointer (some ⟨1001, 0, none⟩))), (1000000, (Go.Value.map (Option.some 1002)))], [(1000, (AObj.cells [(Value.func (.func 75) #[] #[(Value.pointer (some ⟨502, 0, none⟩)), (Value.pointer (some ⟨503, 0, none⟩))])] 108 false 1)), (1001, (AObj.cells [(Value.slice (some ⟨1003, 0, none⟩) n0 n0)] 53 false 1)), (1002, AObj.deferred), (502, (AObj.cells [(Value.int .i64 x1), (Value.int .i64 x2), (Value.int .i64 x3), (Value.int .i64 x4), (Value.int .i64 x5), (Value.int .i64 x6), (Value.slice (some ⟨500, 0, none⟩) n7 c8), (Value.int .i64 x9), (Value.int .i64 x10), (Value.int .i64 x11), (Value.int .i64 x12)] 89 false 11)), (503, (AObj.cells [(Value.int .i64 (2))] 3 false 1)), (1003, (AObj.sym l13 true 2)), (500, (AObj.sym l14 false 5))])
def weM24 (C : Ct) (n0 : Nat) (x1 : Int) (x2 : Int) (x3 : Int) (x4 : Int) (x5 : Int) (x6 : Int) (n7 : Nat) (c8 : Nat) (x9 : Int) (x10 : Int) (x11 : Int) (x12 : Int) (l13 : List Value) (l14 : List Value) (y0 : Int) (y1 : Int) (y2 : Int) (B : Bx) (X : Ex) : Prop := rRound Tryz.prog (hP C) 64 50003 [(5, (Value.pointer (some ⟨1000, 0, none⟩))), (6, (Value.slice none 0 0)), (7, (Value.pointer (some ⟨1001, 0, none⟩))), (1000000, (Go.Value.map (Option.some 1002)))] [(1000, (AObj.cells [(Value.func (.func 75) #[] #[(Value.pointer (some ⟨502, 0, none⟩)), (Value.pointer (some ⟨503, 0, none⟩))])] 108 false 1)), (1001, (AObj.cells [(Value.slice (some ⟨1003, 0, none⟩) n0 n0)] 53 false 1)), (1002, AObj.deferred), (502, (AObj.cells [(Value.int .i64 x1), (Value.int .i64 x2), (Value.int .i64 x3), (Value.int .i64 x4), (Value.int .i64 x5), (Value.int .i64 x6), (Value.slice (some ⟨500, 0, none⟩) n7 c8), (Value.int .i64 x9), (Value.int .i64 x10), (Value.int .i64 x11), (Value.int .i64 x12)] 89 false 11)), (503, (AObj.cells [(Value.int .i64 (2))] 3 false 1)), (1003, (AObj.sym l13 true 2)), (500, (AObj.sym l14 false 5))] [(.agg [(.val (.int .i64 y0)), (.val (.int .i64 y1)), (.val (.int .i64 y2))])] B X
theorem weM24_text (C : Ct) (n0 : Nat) (x1 : Int) (x2 : Int) (x3 : Int) (x4 : Int) (x5 : Int) (x6 : Int) (n7 : Nat) (c8 : Nat) (x9 : Int) (x10 : Int) (x11 : Int) (x12 : Int) (l13 : List Go.Value) (l14 : List Go.Value) (y0 : Int) (y1 : Int) (y2 : Int) (B : Bx) (X : Ex) : weM24 C n0 x1 x2 x3 x4 x5 x6 n7 c8 x9 x10 x11 x12 l13 l14 y0 y1 y2 B X =
 (∀ caps : Nat → Nat,
 (((Qv (Value.agg [(vI y0), (vI y1), (vI y2)].toArray)) ∧
 ((Qv (Value.func (Go.Fn.func 75) [].toArray [(Pt 502 0), (Pt 503 0)].toArray)) ∧
 ((Qv (Sl 1003 (n0) (n0))) ∧
 True))) ∧
 (((Qv (vI 2)) ∧
 ((Qv (Value.agg [(vI y0), (vI y1), (vI y2)].toArray)) ∧
 ((Qv (Value.agg [(vI x1), (vI x2), (vI x3), (vI x4), (vI x5), (vI x6), (Sl 500 (n7) (c8)), (vI x9), (vI x10), (vI x11), (vI x12)].toArray)) ∧
 True))) ∧
 (bcase (decide (0 + n7 * 5 ≤ List.length l14))
 (∃ n1 : Int,
 (∃ n2 : Int,
 (∃ n3 : Int,
 (∃ n4 : Int,
 (∃ n5 : Int,
 (∃ n6 : Int,
 (∃ n8 : Int,
 (∃ n9 : Int,
 ((Says C 76 [(D.agg [(D.val (vI x1)), (D.val (vI x2)), (D.val (vI x3)), (D.val (vI x4)), (D.val (vI x5)), (D.val (vI x6)), (D.sl (n7) 5 (List.take (n7 * 5) (List.drop 0 l14))), (D.val (vI x9)), (D.val (vI x10)), (D.val (vI x11)), (D.val (vI x12))]), (D.agg [(D.val (vI y0)), (D.val (vI y1)), (D.val (vI y2))])] [(D.agg [(D.val (vI n1)), (D.val (vI n2)), (D.val (vI n3)), (D.val (vI n4)), (D.val (vI n5)), (D.val (vI n6)), (D.val (vI n8)), (D.val (vI n9))])]) ∧
 (((Qv (Value.agg [(vI n5), (vI n6)].toArray)) ∧
 ((Qv (vI 2)) ∧
 True)) ∧
 (True ∧
 ((((Qv (Sl 1007 1 1)) ∧
 (Qv (some (AObj.cells [(vI n5), (vI n6)] 23 false 2)))) ∧
 ((Qv (Sl 1003 (n0) (n0))) ∧
 True)) ∧
 (bcase (decide (n0 < n0 + 1))
 (bcase (decide ((2 * (n0 + 1) + 768) * 16 ≤ 281474976710656))
 (bcase (decide (n0 + 1 ≤ 1099511627776))
 (bcase (decide (0 + n0 * 2 ≤ List.length l13))
 (bcase (decide (0 + n0 * 2 = List.length l13))
 (True ∧
 (True ∧
 (B [(Prod.mk 5 (Pt 1000 0)), (Prod.mk 6 (Value.slice none 0 0)), (Prod.mk 7 (Pt 1001 0)), (Prod.mk 1000000 (Value.map (some 1002)))] [(Prod.mk 1000 (AObj.cells [(Value.func (Go.Fn.func 75) [].toArray [(Pt 502 0), (Pt 503 0)].toArray)] 108 false 1)), (Prod.mk 1001 (AObj.cells [(Sl 1003 (n0 + 1) (n0 + 1))] 53 false 1)), (Prod.mk 1002 AObj.deferred), (Prod.mk 502 (AObj.cells [(vI x1), (vI x2), (vI x3), (vI x4), (vI x5), (vI x6), (Sl 500 (n7) (c8)), (vI x9), (vI x10), (vI x11), (vI x12)] 89 false 11)), (Prod.mk 503 (AObj.cells [(vI 2)] 3 false 1)), (Prod.mk 1003 (AObj.sym ((List.take (n0 * 2) (List.drop 0 l13)) ++ [(vI n5), (vI n6)]) true 2)), (Prod.mk 500 (AObj.sym (l14) false 5))])))
 False)
 False)
 False)
 False)
 False)))))))))))))
 False)))) := by kernel_rfl
def neM25 (C : Ct) (L : AtLoop) (n0 : Nat) (x1 : Int) (x2 : Int) (x3 : Int) (x4 : Int) (x5 : Int) (x6 : Int) (n7 : Nat) (c8 : Nat) (x9 : Int) (x10 : Int) (x11 : Int) (x12 : Int) (l13 : List Value) (l14 : List Value) (K : Value → Blocks → Prop) : Prop := jNext Tryz.prog (hP C) L [] 64 50003 .normal [(5, (Value.pointer (some ⟨1000, 0, none⟩))), (6, (Value.slice none 0 0)), (7, (Value.pointer (some ⟨1001, 0, none⟩))), (1000000, (Go.Value.map (Option.some 1002)))] [(1000, (AObj.cells [(Value.func (.func 75) #[] #[(Value.pointer (some ⟨502, 0, none⟩)), (Value.pointer (some ⟨503, 0, none⟩))])] 108 false 1)), (1001, (AObj.cells [(Value.slice (some ⟨1003, 0, none⟩) n0 n0)] 53 false 1)), (1002, AObj.deferred), (502, (AObj.cells [(Value.int .i64 x1), (Value.int .i64 x2), (Value.int .i64 x3), (Value.int .i64 x4), (Value.int .i64 x5), (Value.int .i64 x6), (Value.slice (some ⟨500, 0, none⟩) n7 c8), (Value.int .i64 x9), (Value.int .i64 x10), (Value.int .i64 x11), (Value.int .i64 x12)] 89 false 11)), (503, (AObj.cells [(Value.int .i64 (2))] 3 false 1)), (1003, (AObj.sym l13 true 2)), (500, (AObj.sym l14 false 5))] (stateK K)
theorem neM25_text (C : Ct) (L : AtLoop) (n0 : Nat) (x1 : Int) (x2 : Int) (x3 : Int) (x4 : Int) (x5 : Int) (x6 : Int) (n7 : Nat) (c8 : Nat) (x9 : Int) (x10 : Int) (x11 : Int) (x12 : Int) (l13 : List Go.Value) (l14 : List Go.Value) (K : Go.Value → Blocks → Prop) : neM25 C L n0 x1 x2 x3 x4 x5 x6 n7 c8 x9 x10 x11 x12 l13 l14 K =
 (K (Sl 1000 (n0) (n0)) [(Prod.mk 1000 (AObj.sym (l13) true 2))]) := by kernel_rfl
def geM3 (C : Ct) (L : AtLoop) (w : Int) (st : Int) (fi : Int) (ha : Int) (hb : Int) (co : Int) (sa : Int) (sb : Int) (fa : Int) (fb : Int) (n0 : Nat) (c0 : Nat) (l0 : List Value) (nm : ByteArray) (n1 : Nat) (c1 : Nat) (l1 : List Value) (K : Value → Blocks → Prop) : Prop := jFn Tryz.prog (hP C) L [] 64 #[.agg #[.int .i64 w, .int .i64 st, .int .i64 fi, .int .i64 ha, .int .i64 hb, .int .i64 co, .slice (some ⟨500, 0, none⟩) n0 c0, .int .i64 sa, .int .i64 sb, .int .i64 fa, .int .i64 fb], .agg #[.string nm, .slice (some ⟨501, 0, none⟩) n1 c1], .func (.func 75) #[] #[.pointer (some ⟨502, 0, none⟩), .pointer (some ⟨503, 0, none⟩)]] (heapOf [(500, .sym l0 false 5), (501, .sym l1 false 1), (502, .cells [.int .i64 w, .int .i64 st, .int .i64 fi, .int .i64 ha, .int .i64 hb, .int .i64 co, .slice (some ⟨500, 0, none⟩) n0 c0, .int .i64 sa, .int .i64 sb, .int .i64 fa, .int .i64 fb] 89 false 11), (503, .cells [.int .i64 3] 3 false 1)]) (stateK K)
theorem geM3_text (C : Ct) (L : AtLoop) (w : Int) (st : Int) (fi : Int) (ha : Int) (hb : Int) (co : Int) (sa : Int) (sb : Int) (fa : Int) (fb : Int) (n0 : Nat) (c0 : Nat) (l0 : List Go.Value) (nm : ByteArray) (n1 : Nat) (c1 : Nat) (l1 : List Go.Value) (K : Go.Value → Blocks → Prop) : geM3 C L w st fi ha hb co sa sb fa fb n0 c0 l0 nm n1 c1 l1 K =
 (L 50003 [(Prod.mk 5 (Pt 1000 0)), (Prod.mk 6 (Value.slice none 0 0)), (Prod.mk 7 (Pt 1001 0)), (Prod.mk 11 (Value.func (Go.Fn.func 107) [].toArray [(Pt 1002 0), (Pt 1003 0)].toArray))] [(Prod.mk 1000 (AObj.cells [(Value.func (Go.Fn.func 75) [].toArray [(Pt 502 0), (Pt 503 0)].toArray)] 108 false 1)), (Prod.mk 1001 (AObj.cells [(Value.slice none 0 0)] 53 false 1)), (Prod.mk 1002 (AObj.cells [(vI w), (vI st), (vI fi), (vI ha), (vI hb), (vI co), (Sl 500 (n0) (c0)), (vI sa), (vI sb), (vI fa), (vI fb)] 89 false 1)), (Prod.mk 1003 (AObj.cells [(Value.string (nm)), (Sl 501 (n1) (c1))] 29 false 1)), (Prod.mk 502 (AObj.cells [(vI w), (vI st), (vI fi), (vI ha), (vI hb), (vI co), (Sl 500 (n0) (c0)), (vI sa), (vI sb), (vI fa), (vI fb)] 89 false 11)), (Prod.mk 503 (AObj.cells [(vI 3)] 3 false 1)), (Prod.mk 500 (AObj.sym (l0) false 5)), (Prod.mk 501 (AObj.sym (l1) false 1))]) := by kernel_rfl
abbrev zeM31 (x0 : Int) (x1 : Int) (x2 : Int) (x3 : Int) (x4 : Int) (x5 : Int) (n6 : Nat) (c7 : Nat) (x8 : Int) (x9 : Int) (x10 : Int) (x11 : Int) (s12 : ByteArray) (n13 : Nat) (c14 : Nat) (x15 : Int) (x16 : Int) (x17 : Int) (x18 : Int) (x19 : Int) (x20 : Int) (n21 : Nat) (c22 : Nat) (x23 : Int) (x24 : Int) (x25 : Int) (x26 : Int) (l27 : List Value) (l28 : List Value) : Slots × Blocks := ([(5, (Value.pointer (some ⟨1000, 0, none⟩))), (6, (Value.slice none 0 0)), (7, (Value.pointer (some ⟨1001, 0, none⟩))), (11, (Value.func (.func 107) #[] #[(Value.pointer (some ⟨1002, 0, none⟩)), (Value.pointer (some ⟨1003, 0, none⟩))]))], [(1000, (AObj.cells [(Value.func (.func 75) #[] #[(Value.pointer (some ⟨502, 0, none⟩)), (Value.pointer (some ⟨503, 0, none⟩))])] 108 false 1)), (1001, (AObj.cells [(Value.slice none 0 0)] 53 false 1)), (1002, (AObj.cells [(Value.int .i64 x0), (Value.int .i64 x1), (Value.int .i64 x2), (Value.int .i64 x3), (Value.int .i64 x4), (Value.int .i64 x5), (Value.slice (some ⟨500, 0, none⟩) n6 c7), (Value.int .i64 x8), (Value.int .i64 x9), (Value.int .i64 x10), (Value.int .i64 x11)] 89 false 1)), (1003, (AObj.cells [(Value.string s12), (Value.slice (some ⟨501, 0, none⟩) n13 c14)] 29 false 1)), (502, (AObj.cells [(Value.int .i64 x15), (Value.int .i64 x16), (Value.int .i64 x17), (Value.int .i64 x18), (Value.int .i64 x19), (Value.int .i64 x20), (Value.slice (some ⟨500, 0, none⟩) n21 c22), (Value.int .i64 x23), (Value.int .i64 x24), (Value.int .i64 x25), (Value.int .i64 x26)] 89 false 11)), (503, (AObj.cells [(Value.int .i64 (3))] 3 false 1)), (500, (AObj.sym l27 false 5)), (501, (AObj.sym l28 false 1))])
def heM31 (x0 : Int) (x1 : Int) (x2 : Int) (x3 : Int) (x4 : Int) (x5 : Int) (n6 : Nat) (c7 : Nat) (x8 : Int) (x9 : Int) (x10 : Int) (x11 : Int) (s12 : ByteArray) (n13 : Nat) (c14 : Nat) (x15 : Int) (x16 : Int) (x17 : Int) (x18 : Int) (x19 : Int) (x20 : Int) (n21 : Nat) (c22 : Nat) (x23 : Int) (x24 : Int) (x25 : Int) (x26 : Int) (l27 : List Value) (l28 : List Value) (Kr : Kh) : Prop := rHead Tryz.prog 64 50003 [(5, (Value.pointer (some ⟨1000, 0, none⟩))), (6, (Value.slice none 0 0)), (7, (Value.pointer (some ⟨1001, 0, none⟩))), (11, (Value.func (.func 107) #[] #[(Value.pointer (some ⟨1002, 0, none⟩)), (Value.pointer (some ⟨1003, 0, none⟩))]))] [(1000, (AObj.cells [(Value.func (.func 75) #[] #[(Value.pointer (some ⟨502, 0, none⟩)), (Value.pointer (some ⟨503, 0, none⟩))])] 108 false 1)), (1001, (AObj.cells [(Value.slice none 0 0)] 53 false 1)), (1002, (AObj.cells [(Value.int .i64 x0), (Value.int .i64 x1), (Value.int .i64 x2), (Value.int .i64 x3), (Value.int .i64 x4), (Value.int .i64 x5), (Value.slice (some ⟨500, 0, none⟩) n6 c7), (Value.int .i64 x8), (Value.int .i64 x9), (Value.int .i64 x10), (Value.int .i64 x11)] 89 false 1)), (1003, (AObj.cells [(Value.string s12), (Value.slice (some ⟨501, 0, none⟩) n13 c14)] 29 false 1)), (502, (AObj.cells [(Value.int .i64 x15), (Value.int .i64 x16), (Value.int .i64 x17), (Value.int .i64 x18), (Value.int .i64 x19), (Value.int .i64 x20), (Value.slice (some ⟨500, 0, none⟩) n21 c22), (Value.int .i64 x23), (Value.int .i64 x24), (Value.int .i64 x25), (Value.int .i64 x26)] 89 false 11)), (503, (AObj.cells [(Value.int .i64 (3))] 3 false 1)), (500, (AObj.sym l27 false 5)), (501, (AObj.sym l28 false 1))] Kr
theorem heM31_text (x0 : Int) (x1 : Int) (x2 : Int) (x3 : Int) (x4 : Int) (x5 : Int) (n6 : Nat) (c7 : Nat) (x8 : Int) (x9 : Int) (x10 : Int) (x11 : Int) (s12 : ByteArray) (n13 : Nat) (c14 : Nat) (x15 : Int) (x16 : Int) (x17 : Int) (x18 : Int) (x19 : Int) (x20 : Int) (n21 : Nat) (c22 : Nat) (x23 : Int) (x24 : Int) (x25 : Int) (x26 : Int) (l27 : List Go.Value) (l28 : List Go.Value) (Kr : Kh) : heM31 x0 x1 x2 x3 x4 x5 n6 c7 x8 x9 x10 x11 s12 n13 c14 x15 x16 x17 x18 x19 x20 n21 c22 x23 x24 x25 x26 l27 l28 Kr =
 (Kr 107 [(Value.func (Go.Fn.yield 915) [].toArray [].toArray), (Pt 500 0), (Pt 501 0)] [(Prod.mk 500 (AObj.cells [(vI x0), (vI x1), (vI x2), (vI x3), (vI x4), (vI x5), (Sl 502 (n6) (c7)), (vI x8), (vI x9), (vI x10), (vI x11)] 89 false 1)), (Prod.mk 501 (AObj.cells [(Value.string (s12)), (Sl 503 (n13) (c14))] 29 false 1)), (Prod.mk 502 (AObj.sym (l27) false 5)), (Prod.mk 503 (AObj.sym (l28) false 1))] [(Prod.mk 5 (Pt 1000 0)), (Prod.mk 6 (Value.slice none 0 0)), (Prod.mk 7 (Pt 1001 0)), (Prod.mk 1000000 (Value.map (some 1002)))] [(Prod.mk 1000 (AObj.cells [(Value.func (Go.Fn.func 75) [].toArray [(Pt 502 0), (Pt 503 0)].toArray)] 108 false 1)), (Prod.mk 1001 (AObj.cells [(Value.slice none 0 0)] 53 false 1)), (Prod.mk 1002 AObj.deferred), (Prod.mk 502 (AObj.cells [(vI x15), (vI x16), (vI x17), (vI x18), (vI x19), (vI x20), (Sl 500 (n21) (c22)), (vI x23), (vI x24), (vI x25), (vI x26)] 89 false 11)), (Prod.mk 503 (AObj.cells [(vI 3)] 3 false 1)), (Prod.mk 500 (AObj.sym (l27) false 5))]) := by kernel_rfl
abbrev zeM32 (x0 : Int) (x1 : Int) (x2 : Int) (x3 : Int) (x4 : Int) (x5 : Int) (n6 : Nat) (c7 : Nat) (x8 : Int) (x9 : Int) (x10 : Int) (x11 : Int) (l12 : List Value) : Slots × Blocks := ([(5, (Value.pointer (some ⟨1000, 0, none⟩))), (6, (Value.slice none 0 0)), (7, (Value.pointer (some ⟨1001, 0, none⟩))), (1000000, (Go.Value.map (Option.some 1002)))], [(1000, (AObj.cells [(Value.func (.func 75) #[] #[(Value.pointer (some ⟨502, 0, none⟩)), (Value.pointer (some ⟨503, 0, none⟩))])] 108 false 1)), (1001, (AObj.cells [(Value.slice none 0 0)] 53 false 1)), (1002, AObj.deferred), (502, (AObj.cells [(Value.int .i64 x0), (Value.int .i64 x1), (Value.int .i64 x2), (Value.int .i64 x3), (Value.int .i64 x4), (Value.int .i64 x5), (Value.slice (some ⟨500, 0, none⟩) n6 c7), (Value.int .i64 x8), (Value.int .i64 x9), (Value.int .i64 x10), (Value.int .i64 x11)] 89 false 11)), (503, (AObj.cells [(Value.int .i64 (3))] 3 false 1)), (500, (AObj.sym l12 false 5))])
def weM32 (C : Ct) (x0 : Int) (x1 : Int) (x2 : Int) (x3 : Int) (x4 : Int) (x5 : Int) (n6 : Nat) (c7 : Nat) (x8 : Int) (x9 : Int) (x10 : Int) (x11 : Int) (l12 : List Value) (y0 : Int) (y1 : Int) (y2 : Int) (B : Bx) (X : Ex) : Prop := rRound Tryz.prog (hP C) 64 50003 [(5, (Value.pointer (some ⟨1000, 0, none⟩))), (6, (Value.slice none 0 0)), (7, (Value.pointer (some ⟨1001, 0, none⟩))), (1000000, (Go.Value.map (Option.some 1002)))] [(1000, (AObj.cells [(Value.func (.func 75) #[] #[(Value.pointer (some ⟨502, 0, none⟩)), (Value.pointer (some ⟨503, 0, none⟩))])] 108 false 1)), (1001, (AObj.cells [(Value.slice none 0 0)] 53 false 1)), (1002, AObj.deferred), (502, (AObj.cells [(Value.int .i64 x0), (Value.int .i64 x1), (Value.int .i64 x2), (Value.int .i64 x3), (Value.int .i64 x4), (Value.int .i64 x5), (Value.slice (some ⟨500, 0, none⟩) n6 c7), (Value.int .i64 x8), (Value.int .i64 x9), (Value.int .i64 x10), (Value.int .i64 x11)] 89 false 11)), (503, (AObj.cells [(Value.int .i64 (3))] 3 false 1)), (500, (AObj.sym l12 false 5))] [(.agg [(.val (.int .i64 y0)), (.val (.int .i64 y1)), (.val (.int .i64 y2))])] B X
theorem weM32_text (C : Ct) (x0 : Int) (x1 : Int) (x2 : Int) (x3 : Int) (x4 : Int) (x5 : Int) (n6 : Nat) (c7 : Nat) (x8 : Int) (x9 : Int) (x10 : Int) (x11 : Int) (l12 : List Go.Value) (y0 : Int) (y1 : Int) (y2 : Int) (B : Bx) (X : Ex) : weM32 C x0 x1 x2 x3 x4 x5 n6 c7 x8 x9 x10 x11 l12 y0 y1 y2 B X =
 (∀ caps : Nat → Nat,
 (((Qv (Value.agg [(vI y0), (vI y1), (vI y2)].toArray)) ∧
 ((Qv (Value.func (Go.Fn.func 75) [].toArray [(Pt 502 0), (Pt 503 0)].toArray)) ∧
 ((Qv (Value.slice none 0 0)) ∧
 True))) ∧
 (((Qv (vI 3)) ∧
 ((Qv (Value.agg [(vI y0), (vI y1), (vI y2)].toArray)) ∧
 ((Qv (Value.agg [(vI x0), (vI x1), (vI x2), (vI x3), (vI x4), (vI x5), (Sl 500 (n6) (c7)), (vI x8), (vI x9), (vI x10), (vI x11)].toArray)) ∧
 True))) ∧
 (bcase (decide (0 + n6 * 5 ≤ List.length l12))
 (∃ n1 : Int,
 (∃ n2 : Int,
 (∃ n3 : Int,
 (∃ n4 : Int,
 (∃ n5 : Int,
 (∃ n7 : Int,
 (∃ n8 : Int,
 (∃ n9 : Int,
 ((Says C 76 [(D.agg [(D.val (vI x0)), (D.val (vI x1)), (D.val (vI x2)), (D.val (vI x3)), (D.val (vI x4)), (D.val (vI x5)), (D.sl (n6) 5 (List.take (n6 * 5) (List.drop 0 l12))), (D.val (vI x8)), (D.val (vI x9)), (D.val (vI x10)), (D.val (vI x11))]), (D.agg [(D.val (vI y0)), (D.val (vI y1)), (D.val (vI y2))])] [(D.agg [(D.val (vI n1)), (D.val (vI n2)), (D.val (vI n3)), (D.val (vI n4)), (D.val (vI n5)), (D.val (vI n7)), (D.val (vI n8)), (D.val (vI n9))])]) ∧
 (((Qv (Value.agg [(vI n8), (vI n9)].toArray)) ∧
 ((Qv (vI 3)) ∧
 True)) ∧
 (True ∧
 ((((Qv (Sl 1006 1 1)) ∧
 (Qv (some (AObj.cells [(vI n8), (vI n9)] 23 false 2)))) ∧
 ((Qv (Value.slice none 0 0)) ∧
 True)) ∧
 (True ∧
 (True ∧
 (B [(Prod.mk 5 (Pt 1000 0)), (Prod.mk 6 (Value.slice none 0 0)), (Prod.mk 7 (Pt 1001 0)), (Prod.mk 1000000 (Value.map (some 1002)))] [(Prod.mk 1000 (AObj.cells [(Value.func (Go.Fn.func 75) [].toArray [(Pt 502 0), (Pt 503 0)].toArray)] 108 false 1)), (Prod.mk 1001 (AObj.cells [(Sl 1003 1 1)] 53 false 1)), (Prod.mk 1002 AObj.deferred), (Prod.mk 502 (AObj.cells [(vI x0), (vI x1), (vI x2), (vI x3), (vI x4), (vI x5), (Sl 500 (n6) (c7)), (vI x8), (vI x9), (vI x10), (vI x11)] 89 false 11)), (Prod.mk 503 (AObj.cells [(vI 3)] 3 false 1)), (Prod.mk 1003 (AObj.sym [(vI n8), (vI n9)] true 2)), (Prod.mk 500 (AObj.sym (l12) false 5))])))))))))))))))
 False)))) := by kernel_rfl
abbrev zeM34 (n0 : Nat) (x1 : Int) (x2 : Int) (x3 : Int) (x4 : Int) (x5 : Int) (x6 : Int) (n7 : Nat) (c8 : Nat) (x9 : Int) (x10 : Int) (x11 : Int) (x12 : Int) (l13 : List Value) (l14 : List Value) : Slots × Blocks := ([(5, (Value.pointer (some ⟨1000, 0, none⟩))), (6, (Value.slice none 0 0)), (7, (Value.pointer (some ⟨1001, 0, none⟩))), (1000000, (Go.Value.map (Option.some 1002)))], [(1000, (AObj.cells [(Value.func (.func 75) #[] #[(Value.pointer (some ⟨502, 0, none⟩)), (Value.pointer (some ⟨503, 0, none⟩))])] 108 false 1)), (1001, (AObj.cells [(Value.slice (some ⟨1003, 0, none⟩) n0 n0)] 53 false 1)), (1002, AObj.deferred), (502, (AObj.cells [(Value.int .i64 x1), (Value.int .i64 x2), (Value.int .i64 x3), (Value.int .i64 x4), (Value.int .i64 x5), (Value.int .i64 x6), (Value.slice (some ⟨500, 0, none⟩) n7 c8), (Value.int .i64 x9), (Value.int .i64 x10), (Value.int .i64 x11), (Value.int .i64 x12)] 89 false 11)), (503, (AObj.cells [(Value.int .i64 (3))] 3 false 1)), (1003, (AObj.sym l13 true 2)), (500, (AObj.sym l14 false 5))])
def weM34 (C : Ct) (n0 : Nat) (x1 : Int) (x2 : Int) (x3 : Int) (x4 : Int) (x5 : Int) (x6 : Int) (n7 : Nat) (c8 : Nat) (x9 : Int) (x10 : Int) (x11 : Int) (x12 : Int) (l13 : List Value) (l14 : List Value) (y0 : Int) (y1 : Int) (y2 : Int) (B : Bx) (X : Ex) : Prop := rRound Tryz.prog (hP C) 64 50003 [(5, (Value.pointer (some ⟨1000, 0, none⟩))), (6, (Value.slice none 0 0)), (7, (Value.pointer (some ⟨1001, 0, none⟩))), (1000000, (Go.Value.map (Option.some 1002)))] [(1000, (AObj.cells [(Value.func (.func 75) #[] #[(Value.pointer (some ⟨502, 0, none⟩)), (Value.pointer (some ⟨503, 0, none⟩))])] 108 false 1)), (1001, (AObj.cells [(Value.slice (some ⟨1003, 0, none⟩) n0 n0)] 53 false 1)), (1002, AObj.deferred), (502, (AObj.cells [(Value.int .i64 x1), (Value.int .i64 x2), (Value.int .i64 x3), (Value.int .i64 x4), (Value.int .i64 x5), (Value.int .i64 x6), (Value.slice (some ⟨500, 0, none⟩) n7 c8), (Value.int .i64 x9), (Value.int .i64 x10), (Value.int .i64 x11), (Value.int .i64 x12)] 89 false 11)), (503, (AObj.cells [(Value.int .i64 (3))] 3 false 1)), (1003, (AObj.sym l13 true 2)), (500, (AObj.sym l14 false 5))] [(.agg [(.val (.int .i64 y0)), (.val (.int .i64 y1)), (.val (.int .i64 y2))])] B X
theorem weM34_text (C : Ct) (n0 : Nat) (x1 : Int) (x2 : Int) (x3 : Int) (x4 : Int) (x5 : Int) (x6 : Int) (n7 : Nat) (c8 : Nat) (x9 : Int) (x10 : Int) (x11 : Int) (x12 : Int) (l13 : List Go.Value) (l14 : List Go.Value) (y0 : Int) (y1 : Int) (y2 : Int) (B : Bx) (X : Ex) : weM34 C n0 x1 x2 x3 x4 x5 x6 n7 c8 x9 x10 x11 x12 l13 l14 y0 y1 y2 B X =
 (∀ caps : Nat → Nat,
 (((Qv (Value.agg [(vI y0), (vI y1), (vI y2)].toArray)) ∧
 ((Qv (Value.func (Go.Fn.func 75) [].toArray [(Pt 502 0), (Pt 503 0)].toArray)) ∧
 ((Qv (Sl 1003 (n0) (n0))) ∧
 True))) ∧
 (((Qv (vI 3)) ∧
 ((Qv (Value.agg [(vI y0), (vI y1), (vI y2)].toArray)) ∧
 ((Qv (Value.agg [(vI x1), (vI x2), (vI x3), (vI x4), (vI x5), (vI x6), (Sl 500 (n7) (c8)), (vI x9), (vI x10), (vI x11), (vI x12)].toArray)) ∧
 True))) ∧
 (bcase (decide (0 + n7 * 5 ≤ List.length l14))
 (∃ n1 : Int,
 (∃ n2 : Int,
 (∃ n3 : Int,
 (∃ n4 : Int,
 (∃ n5 : Int,
 (∃ n6 : Int,
 (∃ n8 : Int,
 (∃ n9 : Int,
 ((Says C 76 [(D.agg [(D.val (vI x1)), (D.val (vI x2)), (D.val (vI x3)), (D.val (vI x4)), (D.val (vI x5)), (D.val (vI x6)), (D.sl (n7) 5 (List.take (n7 * 5) (List.drop 0 l14))), (D.val (vI x9)), (D.val (vI x10)), (D.val (vI x11)), (D.val (vI x12))]), (D.agg [(D.val (vI y0)), (D.val (vI y1)), (D.val (vI y2))])] [(D.agg [(D.val (vI n1)), (D.val (vI n2)), (D.val (vI n3)), (D.val (vI n4)), (D.val (vI n5)), (D.val (vI n6)), (D.val (vI n8)), (D.val (vI n9))])]) ∧
 (((Qv (Value.agg [(vI n8), (vI n9)].toArray)) ∧
 ((Qv (vI 3)) ∧
 True)) ∧
 (True ∧
 ((((Qv (Sl 1007 1 1)) ∧
 (Qv (some (AObj.cells [(vI n8), (vI n9)] 23 false 2)))) ∧
 ((Qv (Sl 1003 (n0) (n0))) ∧
 True)) ∧
 (bcase (decide (n0 < n0 + 1))
 (bcase (decide ((2 * (n0 + 1) + 768) * 16 ≤ 281474976710656))
 (bcase (decide (n0 + 1 ≤ 1099511627776))
 (bcase (decide (0 + n0 * 2 ≤ List.length l13))
 (bcase (decide (0 + n0 * 2 = List.length l13))
 (True ∧
 (True ∧
 (B [(Prod.mk 5 (Pt 1000 0)), (Prod.mk 6 (Value.slice none 0 0)), (Prod.mk 7 (Pt 1001 0)), (Prod.mk 1000000 (Value.map (some 1002)))] [(Prod.mk 1000 (AObj.cells [(Value.func (Go.Fn.func 75) [].toArray [(Pt 502 0), (Pt 503 0)].toArray)] 108 false 1)), (Prod.mk 1001 (AObj.cells [(Sl 1003 (n0 + 1) (n0 + 1))] 53 false 1)), (Prod.mk 1002 AObj.deferred), (Prod.mk 502 (AObj.cells [(vI x1), (vI x2), (vI x3), (vI x4), (vI x5), (vI x6), (Sl 500 (n7) (c8)), (vI x9), (vI x10), (vI x11), (vI x12)] 89 false 11)), (Prod.mk 503 (AObj.cells [(vI 3)] 3 false 1)), (Prod.mk 1003 (AObj.sym ((List.take (n0 * 2) (List.drop 0 l13)) ++ [(vI n8), (vI n9)]) true 2)), (Prod.mk 500 (AObj.sym (l14) false 5))])))
 False)
 False)
 False)
 False)
 False)))))))))))))
 False)))) := by kernel_rfl
def neM35 (C : Ct) (L : AtLoop) (n0 : Nat) (x1 : Int) (x2 : Int) (x3 : Int) (x4 : Int) (x5 : Int) (x6 : Int) (n7 : Nat) (c8 : Nat) (x9 : Int) (x10 : Int) (x11 : Int) (x12 : Int) (l13 : List Value) (l14 : List Value) (K : Value → Blocks → Prop) : Prop := jNext Tryz.prog (hP C) L [] 64 50003 .normal [(5, (Value.pointer (some ⟨1000, 0, none⟩))), (6, (Value.slice none 0 0)), (7, (Value.pointer (some ⟨1001, 0, none⟩))), (1000000, (Go.Value.map (Option.some 1002)))] [(1000, (AObj.cells [(Value.func (.func 75) #[] #[(Value.pointer (some ⟨502, 0, none⟩)), (Value.pointer (some ⟨503, 0, none⟩))])] 108 false 1)), (1001, (AObj.cells [(Value.slice (some ⟨1003, 0, none⟩) n0 n0)] 53 false 1)), (1002, AObj.deferred), (502, (AObj.cells [(Value.int .i64 x1), (Value.int .i64 x2), (Value.int .i64 x3), (Value.int .i64 x4), (Value.int .i64 x5), (Value.int .i64 x6), (Value.slice (some ⟨500, 0, none⟩) n7 c8), (Value.int .i64 x9), (Value.int .i64 x10), (Value.int .i64 x11), (Value.int .i64 x12)] 89 false 11)), (503, (AObj.cells [(Value.int .i64 (3))] 3 false 1)), (1003, (AObj.sym l13 true 2)), (500, (AObj.sym l14 false 5))] (stateK K)
theorem neM35_text (C : Ct) (L : AtLoop) (n0 : Nat) (x1 : Int) (x2 : Int) (x3 : Int) (x4 : Int) (x5 : Int) (x6 : Int) (n7 : Nat) (c8 : Nat) (x9 : Int) (x10 : Int) (x11 : Int) (x12 : Int) (l13 : List Go.Value) (l14 : List Go.Value) (K : Go.Value → Blocks → Prop) : neM35 C L n0 x1 x2 x3 x4 x5 x6 n7 c8 x9 x10 x11 x12 l13 l14 K =
 (K (Sl 1000 (n0) (n0)) [(Prod.mk 1000 (AObj.sym (l13) true 2))]) := by kernel_rfl
def gWO (C : Ct) (L : AtLoop) (x0 : Int) (x1 : Int) (x2 : Int) (x3 : Int) (x4 : Int) (x5 : Int) (n6 : Nat) (c6 : Nat) (l6 : List Value) (x7 : Int) (x8 : Int) (x9 : Int) (x10 : Int) (s11 : ByteArray) (n12 : Nat) (c12 : Nat) (l12 : List Value) (k : List D → Prop) : Prop := jFn Tryz.prog (hP C) L [] 31 #[.agg #[.int .i64 x0, .int .i64 x1, .int .i64 x2, .int .i64 x3, .int .i64 x4, .int .i64 x5, .slice (some ⟨500, 0, none⟩) n6 c6, .int .i64 x7, .int .i64 x8, .int .i64 x9, .int .i64 x10], .agg #[.string s11, .slice (some ⟨501, 0, none⟩) n12 c12]] (heapOf [(500, .sym l6 false 5), (501, .sym l12 false 1)]) (dataK k)
theorem gWO_text (C : Ct) (L : AtLoop) (x0 : Int) (x1 : Int) (x2 : Int) (x3 : Int) (x4 : Int) (x5 : Int) (n6 : Nat) (c6 : Nat) (l6 : List Go.Value) (x7 : Int) (x8 : Int) (x9 : Int) (x10 : Int) (s11 : ByteArray) (n12 : Nat) (c12 : Nat) (l12 : List Go.Value) (k : List D → Prop) : gWO C L x0 x1 x2 x3 x4 x5 n6 c6 l6 x7 x8 x9 x10 s11 n12 c12 l12 k =
 (bcase (decide (0 + n6 * 5 ≤ List.length l6))
 (bcase (decide (0 + n12 * 1 ≤ List.length l12))
 (∃ n1 : Int,
 (∃ n2 : Int,
 ((Says C 95 [(D.agg [(D.val (vI x0)), (D.val (vI x1)), (D.val (vI x2)), (D.val (vI x3)), (D.val (vI x4)), (D.val (vI x5)), (D.sl (n6) 5 (List.take (n6 * 5) (List.drop 0 l6))), (D.val (vI x7)), (D.val (vI x8)), (D.val (vI x9)), (D.val (vI x10))]), (D.agg [(D.val (Value.string (s11))), (D.sl (n12) 1 (List.take (n12 * 1) (List.drop 0 l12)))])] [(D.val (vI n1)), (D.val (vI n2))]) ∧
 (bcase (n2 != 0)
 (bcase (n2 != 0)
 (k [(D.agg [(D.val (vI 0)), D.nil]), (D.val (vI n2))])
 (L 50005 [(Prod.mk 4 (Pt 1000 0)), (Prod.mk 5 (Pt 1001 0)), (Prod.mk 6 (Pt 1002 0)), (Prod.mk 24 (Value.func (Go.Fn.func 107) [].toArray [(Pt 1003 0), (Pt 1004 0)].toArray))] [(Prod.mk 1000 (AObj.cells [(vI 0), (Value.slice none 0 0)] 67 false 2)), (Prod.mk 1001 (AObj.cells [(vI 0)] 35 false 1)), (Prod.mk 1002 (AObj.cells [(vI 0), (vI 0), (vI 0), (vI 0), (vI 0), (vI 0), (Value.slice none 0 0), (vI 0), (vI 0), (vI 0), (vI 0)] 89 false 11)), (Prod.mk 1003 (AObj.cells [(vI 0), (vI 0), (vI 0), (vI 0), (vI 0), (vI 0), (Value.slice none 0 0), (vI 0), (vI 0), (vI 0), (vI 0)] 89 false 1)), (Prod.mk 1004 (AObj.cells [(Value.string (s11)), (Sl 501 (n12) (c12))] 29 false 1)), (Prod.mk 501 (AObj.sym (l12) false 1))]))
 (L 50005 [(Prod.mk 4 (Pt 1000 0)), (Prod.mk 5 (Pt 1001 0)), (Prod.mk 6 (Pt 1002 0)), (Prod.mk 24 (Value.func (Go.Fn.func 107) [].toArray [(Pt 1003 0), (Pt 1004 0)].toArray))] [(Prod.mk 1000 (AObj.cells [(vI 0), (Value.slice none 0 0)] 67 false 2)), (Prod.mk 1001 (AObj.cells [(vI 0)] 35 false 1)), (Prod.mk 1002 (AObj.cells [(vI x0), (vI x1), (vI x2), (vI x3), (vI x4), (vI x5), (Sl 500 (n6) (c6)), (vI x7), (vI x8), (vI x9), (vI x10)] 89 false 11)), (Prod.mk 1003 (AObj.cells [(vI x0), (vI x1), (vI x2), (vI x3), (vI x4), (vI x5), (Sl 500 (n6) (c6)), (vI x7), (vI x8), (vI x9), (vI x10)] 89 false 1)), (Prod.mk 1004 (AObj.cells [(Value.string (s11)), (Sl 501 (n12) (c12))] 29 false 1)), (Prod.mk 500 (AObj.sym (l6) false 5)), (Prod.mk 501 (AObj.sym (l12) false 1))])))))
 False)
 False) := by kernel_rfl
abbrev zWO2 (x0 : Int) (x1 : Int) (x2 : Int) (x3 : Int) (x4 : Int) (x5 : Int) (x6 : Int) (x7 : Int) (n8 : Nat) (c9 : Nat) (x10 : Int) (x11 : Int) (x12 : Int) (x13 : Int) (x14 : Int) (x15 : Int) (x16 : Int) (x17 : Int) (x18 : Int) (x19 : Int) (n20 : Nat) (c21 : Nat) (x22 : Int) (x23 : Int) (x24 : Int) (x25 : Int) (s26 : ByteArray) (n27 : Nat) (c28 : Nat) (l29 : List Value) (l30 : List Value) : Slots × Blocks := ([(4, (Value.pointer (some ⟨1000, 0, none⟩))), (5, (Value.pointer (some ⟨1001, 0, none⟩))), (6, (Value.pointer (some ⟨1002, 0, none⟩))), (24, (Value.func (.func 107) #[] #[(Value.pointer (some ⟨1003, 0, none⟩)), (Value.pointer (some ⟨1004, 0, none⟩))]))], [(1000, (AObj.cells [(Value.int .i64 x0), (Value.slice none 0 0)] 67 false 2)), (1001, (AObj.cells [(Value.int .i64 x1)] 35 false 1)), (1002, (AObj.cells [(Value.int .i64 x2), (Value.int .i64 x3), (Value.int .i64 x4), (Value.int .i64 x5), (Value.int .i64 x6), (Value.int .i64 x7), (Value.slice (some ⟨500, 0, none⟩) n8 c9), (Value.int .i64 x10), (Value.int .i64 x11), (Value.int .i64 x12), (Value.int .i64 x13)] 89 false 11)), (1003, (AObj.cells [(Value.int .i64 x14), (Value.int .i64 x15), (Value.int .i64 x16), (Value.int .i64 x17), (Value.int .i64 x18), (Value.int .i64 x19), (Value.slice (some ⟨500, 0, none⟩) n20 c21), (Value.int .i64 x22), (Value.int .i64 x23), (Value.int .i64 x24), (Value.int .i64 x25)] 89 false 1)), (1004, (AObj.cells [(Value.string s26), (Value.slice (some ⟨501, 0, none⟩) n27 c28)] 29 false 1)), (500, (AObj.sym l29 false 5)), (501, (AObj.sym l30 false 1))])
def hWO2 (x0 : Int) (x1 : Int) (x2 : Int) (x3 : Int) (x4 : Int) (x5 : Int) (x6 : Int) (x7 : Int) (n8 : Nat) (c9 : Nat) (x10 : Int) (x11 : Int) (x12 : Int) (x13 : Int) (x14 : Int) (x15 : Int) (x16 : Int) (x17 : Int) (x18 : Int) (x19 : Int) (n20 : Nat) (c21 : Nat) (x22 : Int) (x23 : Int) (x24 : Int) (x25 : Int) (s26 : ByteArray) (n27 : Nat) (c28 : Nat) (l29 : List Value) (l30 : List Value) (Kr : Kh) : Prop := rHead Tryz.prog 31 50005 [(4, (Value.pointer (some ⟨1000, 0, none⟩))), (5, (Value.pointer (some ⟨1001, 0, none⟩))), (6, (Value.pointer (some ⟨1002, 0, none⟩))), (24, (Value.func (.func 107) #[] #[(Value.pointer (some ⟨1003, 0, none⟩)), (Value.pointer (some ⟨1004, 0, none⟩))]))] [(1000, (AObj.cells [(Value.int .i64 x0), (Value.slice none 0 0)] 67 false 2)), (1001, (AObj.cells [(Value.int .i64 x1)] 35 false 1)), (1002, (AObj.cells [(Value.int .i64 x2), (Value.int .i64 x3), (Value.int .i64 x4), (Value.int .i64 x5), (Value.int .i64 x6), (Value.int .i64 x7), (Value.slice (some ⟨500, 0, none⟩) n8 c9), (Value.int .i64 x10), (Value.int .i64 x11), (Value.int .i64 x12), (Value.int .i64 x13)] 89 false 11)), (1003, (AObj.cells [(Value.int .i64 x14), (Value.int .i64 x15), (Value.int .i64 x16), (Value.int .i64 x17), (Value.int .i64 x18), (Value.int .i64 x19), (Value.slice (some ⟨500, 0, none⟩) n20 c21), (Value.int .i64 x22), (Value.int .i64 x23), (Value.int .i64 x24), (Value.int .i64 x25)] 89 false 1)), (1004, (AObj.cells [(Value.string s26), (Value.slice (some ⟨501, 0, none⟩) n27 c28)] 29 false 1)), (500, (AObj.sym l29 false 5)), (501, (AObj.sym l30 false 1))] Kr
theorem hWO2_text (x0 : Int) (x1 : Int) (x2 : Int) (x3 : Int) (x4 : Int) (x5 : Int) (x6 : Int) (x7 : Int) (n8 : Nat) (c9 : Nat) (x10 : Int) (x11 : Int) (x12 : Int) (x13 : Int) (x14 : Int) (x15 : Int) (x16 : Int) (x17 : Int) (x18 : Int) (x19 : Int) (n20 : Nat) (c21 : Nat) (x22 : Int) (x23 : Int) (x24 : Int) (x25 : Int) (s26 : ByteArray) (n27 : Nat) (c28 : Nat) (l29 : List Go.Value) (l30 : List Go.Value) (Kr : Kh) : hWO2 x0 x1 x2 x3 x4 x5 x6 x7 n8 c9 x10 x11 x12 x13 x14 x15 x16 x17 x18 x19 n20 c21 x22 x23 x24 x25 s26 n27 c28 l29 l30 Kr =
 (Kr 107 [(Value.func (Go.Fn.yield 915) [].toArray [].toArray), (Pt 500 0), (Pt 501 0)] [(Prod.mk 500 (AObj.cells [(vI x14), (vI x15), (vI x16), (vI x17), (vI x18), (vI x19), (Sl 502 (n20) (c21)), (vI x22), (vI x23), (vI x24), (vI x25)] 89 false 1)), (Prod.mk 501 (AObj.cells [(Value.string (s26)), (Sl 503 (n27) (c28))] 29 false 1)), (Prod.mk 502 (AObj.sym (l29) false 5)), (Prod.mk 503 (AObj.sym (l30) false 1))] [(Prod.mk 4 (Pt 1000 0)), (Prod.mk 5 (Pt 1001 0)), (Prod.mk 6 (Pt 1002 0)), (Prod.mk 1000000 (Value.map (some 1003)))] [(Prod.mk 1000 (AObj.cells [(vI x0), (Value.slice none 0 0)] 67 false 2)), (Prod.mk 1001 (AObj.cells [(vI x1)] 35 false 1)), (Prod.mk 1002 (AObj.cells [(vI x2), (vI x3), (vI x4), (vI x5), (vI x6), (vI x7), (Sl 500 (n8) (c9)), (vI x10), (vI x11), (vI x12), (vI x13)] 89 false 11)), (Prod.mk 1003 AObj.deferred), (Prod.mk 500 (AObj.sym (l29) false 5))]) := by kernel_rfl
abbrev zWO5 (x0 : Int) (x1 : Int) (x2 : Int) (x3 : Int) (x4 : Int) (x5 : Int) (x6 : Int) (x7 : Int) (n8 : Nat) (c9 : Nat) (x10 : Int) (x11 : Int) (x12 : Int) (x13 : Int) (l14 : List Value) : Slots × Blocks := ([(4, (Value.pointer (some ⟨1000, 0, none⟩))), (5, (Value.pointer (some ⟨1001, 0, none⟩))), (6, (Value.pointer (some ⟨1002, 0, none⟩))), (1000000, (Go.Value.map (Option.some 1003)))], [(1000, (AObj.cells [(Value.int .i64 x0), (Value.slice none 0 0)] 67 false 2)), (1001, (AObj.cells [(Value.int .i64 x1)] 35 false 1)), (1002, (AObj.cells [(Value.int .i64 x2), (Value.int .i64 x3), (Value.int .i64 x4), (Value.int .i64 x5), (Value.int .i64 x6), (Value.int .i64 x7), (Value.slice (some ⟨500, 0, none⟩) n8 c9), (Value.int .i64 x10), (Value.int .i64 x11), (Value.int .i64 x12), (Value.int .i64 x13)] 89 false 11)), (1003, AObj.deferred), (500, (AObj.sym l14 false 5))])
def wWO5 (C : Ct) (x0 : Int) (x1 : Int) (x2 : Int) (x3 : Int) (x4 : Int) (x5 : Int) (x6 : Int) (x7 : Int) (n8 : Nat) (c9 : Nat) (x10 : Int) (x11 : Int) (x12 : Int) (x13 : Int) (l14 : List Value) (y0 : Int) (y1 : Int) (y2 : Int) (B : Bx) (X : Ex) : Prop := rRound Tryz.prog (hP C) 31 50005 [(4, (Value.pointer (some ⟨1000, 0, none⟩))), (5, (Value.pointer (some ⟨1001, 0, none⟩))), (6, (Value.pointer (some ⟨1002, 0, none⟩))), (1000000, (Go.Value.map (Option.some 1003)))] [(1000, (AObj.cells [(Value.int .i64 x0), (Value.slice none 0 0)] 67 false 2)), (1001, (AObj.cells [(Value.int .i64 x1)] 35 false 1)), (1002, (AObj.cells [(Value.int .i64 x2), (Value.int .i64 x3), (Value.int .i64 x4), (Value.int .i64 x5), (Value.int .i64 x6), (Value.int .i64 x7), (Value.slice (some ⟨500, 0, none⟩) n8 c9), (Value.int .i64 x10), (Value.int .i64 x11), (Value.int .i64 x12), (Value.int .i64 x13)] 89 false 11)), (1003, AObj.deferred), (500, (AObj.sym l14 false 5))] [(.agg [(.val (.int .i64 y0)), (.val (.int .i64 y1)), (.val (.int .i64 y2))])] B X
theorem wWO5_text (C : Ct) (x0 : Int) (x1 : Int) (x2 : Int) (x3 : Int) (x4 : Int) (x5 : Int) (x6 : Int) (x7 : Int) (n8 : Nat) (c9 : Nat) (x10 : Int) (x11 : Int) (x12 : Int) (x13 : Int) (l14 : List Go.Value) (y0 : Int) (y1 : Int) (y2 : Int) (B : Bx) (X : Ex) : wWO5 C x0 x1 x2 x3 x4 x5 x6 x7 n8 c9 x10 x11 x12 x13 l14 y0 y1 y2 B X =
 (∀ caps : Nat → Nat,
 (bcase (decide (0 + n8 * 5 ≤ List.length l14))
 (∃ n1 : Int,
 (∃ n2 : Int,
 (∃ n3 : Int,
 (∃ n4 : Int,
 (∃ n5 : Int,
 (∃ n6 : Int,
 (∃ n7 : Int,
 (∃ n9 : Int,
 ((Says C 76 [(D.agg [(D.val (vI x2)), (D.val (vI x3)), (D.val (vI x4)), (D.val (vI x5)), (D.val (vI x6)), (D.val (vI x7)), (D.sl (n8) 5 (List.take (n8 * 5) (List.drop 0 l14))), (D.val (vI x10)), (D.val (vI x11)), (D.val (vI x12)), (D.val (vI x13))]), (D.agg [(D.val (vI y0)), (D.val (vI y1)), (D.val (vI y2))])] [(D.agg [(D.val (vI n1)), (D.val (vI n2)), (D.val (vI n3)), (D.val (vI n4)), (D.val (vI n5)), (D.val (vI n6)), (D.val (vI n7)), (D.val (vI n9))])]) ∧
 (bcase (decide (n1 < 0))
 (bcase (decide (0 + n8 * 5 ≤ List.length l14))
 (∃ n10 : Int,
 (∃ n11 : Int,
 (∃ n12 : Int,
 (∃ n13 : Int,
 (∃ n14 : Int,
 (∃ n15 : Int,
 (∃ n16 : Int,
 (∃ n17 : Int,
 ((Says C 76 [(D.agg [(D.val (vI x2)), (D.val (vI x3)), (D.val (vI x4)), (D.val (vI x5)), (D.val (vI x6)), (D.val (vI x7)), (D.sl (n8) 5 (List.take (n8 * 5) (List.drop 0 l14))), (D.val (vI x10)), (D.val (vI x11)), (D.val (vI x12)), (D.val (vI x13))]), (D.agg [(D.val (vI y0)), (D.val (vI y1)), (D.val (vI y2))])] [(D.agg [(D.val (vI n10)), (D.val (vI n11)), (D.val (vI n12)), (D.val (vI n13)), (D.val (vI n14)), (D.val (vI n15)), (D.val (vI n16)), (D.val (vI n17))])]) ∧
 (bcase (decide (n12 < 0))
 (bcase (decide (0 + n8 * 5 ≤ List.length l14))
 (∃ n18 : Int,
 (∃ n19 : Int,
 (∃ n20 : Int,
 (∃ n21 : Int,
 (∃ n22 : Int,
 (∃ n23 : Int,
 (∃ n24 : Int,
 (∃ n25 : Int,
 ((Says C 76 [(D.agg [(D.val (vI x2)), (D.val (vI x3)), (D.val (vI x4)), (D.val (vI x5)), (D.val (vI x6)), (D.val (vI x7)), (D.sl (n8) 5 (List.take (n8 * 5) (List.drop 0 l14))), (D.val (vI x10)), (D.val (vI x11)), (D.val (vI x12)), (D.val (vI x13))]), (D.agg [(D.val (vI y0)), (D.val (vI y1)), (D.val (vI y2))])] [(D.agg [(D.val (vI n18)), (D.val (vI n19)), (D.val (vI n20)), (D.val (vI n21)), (D.val (vI n22)), (D.val (vI n23)), (D.val (vI n24)), (D.val (vI n25))])]) ∧
 (bcase (decide (n22 < 0))
 (bcase (decide (0 + n8 * 5 ≤ List.length l14))
 (∃ n26 : Int,
 (∃ n27 : Int,
 (∃ n28 : Int,
 (∃ n29 : Int,
 (∃ n30 : Int,
 (∃ n31 : Int,
 (∃ n32 : Int,
 (∃ n33 : Int,
 ((Says C 76 [(D.agg [(D.val (vI x2)), (D.val (vI x3)), (D.val (vI x4)), (D.val (vI x5)), (D.val (vI x6)), (D.val (vI x7)), (D.sl (n8) 5 (List.take (n8 * 5) (List.drop 0 l14))), (D.val (vI x10)), (D.val (vI x11)), (D.val (vI x12)), (D.val (vI x13))]), (D.agg [(D.val (vI y0)), (D.val (vI y1)), (D.val (vI y2))])] [(D.agg [(D.val (vI n26)), (D.val (vI n27)), (D.val (vI n28)), (D.val (vI n29)), (D.val (vI n30)), (D.val (vI n31)), (D.val (vI n32)), (D.val (vI n33))])]) ∧
 (bcase (decide (n32 < 0))
 (X Go.Exit.ret [(Prod.mk 4 (Pt 1000 0)), (Prod.mk 5 (Pt 1001 0)), (Prod.mk 6 (Pt 1002 0)), (Prod.mk 1000000 (Value.map (some 1003)))] [(Prod.mk 1000 (AObj.cells [(vI y0), (Sl 1004 4 4)] 67 false 2)), (Prod.mk 1001 (AObj.cells [(vI 0)] 35 false 1)), (Prod.mk 1002 (AObj.cells [(vI x2), (vI x3), (vI x4), (vI x5), (vI x6), (vI x7), (Sl 500 (n8) (c9)), (vI x10), (vI x11), (vI x12), (vI x13)] 89 false 11)), (Prod.mk 1003 AObj.deferred), (Prod.mk 1004 (AObj.sym [(vI 0), (vI 1), (vI 2), (vI 3)] true 1)), (Prod.mk 500 (AObj.sym (l14) false 5))])
 (X Go.Exit.ret [(Prod.mk 4 (Pt 1000 0)), (Prod.mk 5 (Pt 1001 0)), (Prod.mk 6 (Pt 1002 0)), (Prod.mk 1000000 (Value.map (some 1003)))] [(Prod.mk 1000 (AObj.cells [(vI y0), (Sl 1004 3 3)] 67 false 2)), (Prod.mk 1001 (AObj.cells [(vI 0)] 35 false 1)), (Prod.mk 1002 (AObj.cells [(vI x2), (vI x3), (vI x4), (vI x5), (vI x6), (vI x7), (Sl 500 (n8) (c9)), (vI x10), (vI x11), (vI x12), (vI x13)] 89 false 11)), (Prod.mk 1003 AObj.deferred), (Prod.mk 1004 (AObj.sym [(vI 0), (vI 1), (vI 2)] true 1)), (Prod.mk 500 (AObj.sym (l14) false 5))])))))))))))
 False)
 (bcase (decide (0 + n8 * 5 ≤ List.length l14))
 (∃ n26 : Int,
 (∃ n27 : Int,
 (∃ n28 : Int,
 (∃ n29 : Int,
 (∃ n30 : Int,
 (∃ n31 : Int,
 (∃ n32 : Int,
 (∃ n33 : Int,
 ((Says C 76 [(D.agg [(D.val (vI x2)), (D.val (vI x3)), (D.val (vI x4)), (D.val (vI x5)), (D.val (vI x6)), (D.val (vI x7)), (D.sl (n8) 5 (List.take (n8 * 5) (List.drop 0 l14))), (D.val (vI x10)), (D.val (vI x11)), (D.val (vI x12)), (D.val (vI x13))]), (D.agg [(D.val (vI y0)), (D.val (vI y1)), (D.val (vI y2))])] [(D.agg [(D.val (vI n26)), (D.val (vI n27)), (D.val (vI n28)), (D.val (vI n29)), (D.val (vI n30)), (D.val (vI n31)), (D.val (vI n32)), (D.val (vI n33))])]) ∧
 (bcase (decide (n32 < 0))
 (X Go.Exit.ret [(Prod.mk 4 (Pt 1000 0)), (Prod.mk 5 (Pt 1001 0)), (Prod.mk 6 (Pt 1002 0)), (Prod.mk 1000000 (Value.map (some 1003)))] [(Prod.mk 1000 (AObj.cells [(vI y0), (Sl 1004 3 3)] 67 false 2)), (Prod.mk 1001 (AObj.cells [(vI 0)] 35 false 1)), (Prod.mk 1002 (AObj.cells [(vI x2), (vI x3), (vI x4), (vI x5), (vI x6), (vI x7), (Sl 500 (n8) (c9)), (vI x10), (vI x11), (vI x12), (vI x13)] 89 false 11)), (Prod.mk 1003 AObj.deferred), (Prod.mk 1004 (AObj.sym [(vI 0), (vI 1), (vI 3)] true 1)), (Prod.mk 500 (AObj.sym (l14) false 5))])
 (X Go.Exit.ret [(Prod.mk 4 (Pt 1000 0)), (Prod.mk 5 (Pt 1001 0)), (Prod.mk 6 (Pt 1002 0)), (Prod.mk 1000000 (Value.map (some 1003)))] [(Prod.mk 1000 (AObj.cells [(vI y0), (Sl 1004 2 2)] 67 false 2)), (Prod.mk 1001 (AObj.cells [(vI 0)] 35 false 1)), (Prod.mk 1002 (AObj.cells [(vI x2), (vI x3), (vI x4), (vI x5), (vI x6), (vI x7), (Sl 500 (n8) (c9)), (vI x10), (vI x11), (vI x12), (vI x13)] 89 false 11)), (Prod.mk 1003 AObj.deferred), (Prod.mk 1004 (AObj.sym [(vI 0), (vI 1)] true 1)), (Prod.mk 500 (AObj.sym (l14) false 5))])))))))))))
 False)))))))))))
 False)
 (bcase (decide (0 + n8 * 5 ≤ List.length l14))
 (∃ n18 : Int,
 (∃ n19 : Int,
 (∃ n20 : Int,
 (∃ n21 : Int,
 (∃ n22 : Int,
 (∃ n23 : Int,
 (∃ n24 : Int,
 (∃ n25 : Int,
 ((Says C 76 [(D.agg [(D.val (vI x2)), (D.val (vI x3)), (D.val (vI x4)), (D.val (vI x5)), (D.val (vI x6)), (D.val (vI x7)), (D.sl (n8) 5 (List.take (n8 * 5) (List.drop 0 l14))), (D.val (vI x10)), (D.val (vI x11)), (D.val (vI x12)), (D.val (vI x13))]), (D.agg [(D.val (vI y0)), (D.val (vI y1)), (D.val (vI y2))])] [(D.agg [(D.val (vI n18)), (D.val (vI n19)), (D.val (vI n20)), (D.val (vI n21)), (D.val (vI n22)), (D.val (vI n23)), (D.val (vI n24)), (D.val (vI n25))])]) ∧
 (bcase (decide (n22 < 0))
 (bcase (decide (0 + n8 * 5 ≤ List.length l14))
 (∃ n26 : Int,
 (∃ n27 : Int,
 (∃ n28 : Int,
 (∃ n29 : Int,
 (∃ n30 : Int,
 (∃ n31 : Int,
 (∃ n32 : Int,
 (∃ n33 : Int,
 ((Says C 76 [(D.agg [(D.val (vI x2)), (D.val (vI x3)), (D.val (vI x4)), (D.val (vI x5)), (D.val (vI x6)), (D.val (vI x7)), (D.sl (n8) 5 (List.take (n8 * 5) (List.drop 0 l14))), (D.val (vI x10)), (D.val (vI x11)), (D.val (vI x12)), (D.val (vI x13))]), (D.agg [(D.val (vI y0)), (D.val (vI y1)), (D.val (vI y2))])] [(D.agg [(D.val (vI n26)), (D.val (vI n27)), (D.val (vI n28)), (D.val (vI n29)), (D.val (vI n30)), (D.val (vI n31)), (D.val (vI n32)), (D.val (vI n33))])]) ∧
 (bcase (decide (n32 < 0))
 (X Go.Exit.ret [(Prod.mk 4 (Pt 1000 0)), (Prod.mk 5 (Pt 1001 0)), (Prod.mk 6 (Pt 1002 0)), (Prod.mk 1000000 (Value.map (some 1003)))] [(Prod.mk 1000 (AObj.cells [(vI y0), (Sl 1004 3 3)] 67 false 2)), (Prod.mk 1001 (AObj.cells [(vI 0)] 35 false 1)), (Prod.mk 1002 (AObj.cells [(vI x2), (vI x3), (vI x4), (vI x5), (vI x6), (vI x7), (Sl 500 (n8) (c9)), (vI x10), (vI x11), (vI x12), (vI x13)] 89 false 11)), (Prod.mk 1003 AObj.deferred), (Prod.mk 1004 (AObj.sym [(vI 0), (vI 2), (vI 3)] true 1)), (Prod.mk 500 (AObj.sym (l14) false 5))])
 (X Go.Exit.ret [(Prod.mk 4 (Pt 1000 0)), (Prod.mk 5 (Pt 1001 0)), (Prod.mk 6 (Pt 1002 0)), (Prod.mk 1000000 (Value.map (some 1003)))] [(Prod.mk 1000 (AObj.cells [(vI y0), (Sl 1004 2 2)] 67 false 2)), (Prod.mk 1001 (AObj.cells [(vI 0)] 35 false 1)), (Prod.mk 1002 (AObj.cells [(vI x2), (vI x3), (vI x4), (vI x5), (vI x6), (vI x7), (Sl 500 (n8) (c9)), (vI x10), (vI x11), (vI x12), (vI x13)] 89 false 11)), (Prod.mk 1003 AObj.deferred), (Prod.mk 1004 (AObj.sym [(vI 0), (vI 2)] true 1)), (Prod.mk 500 (AObj.sym (l14) false 5))])))))))))))
 False)
 (bcase (decide (0 + n8 * 5 ≤ List.length l14))
 (∃ n26 : Int,
 (∃ n27 : Int,
 (∃ n28 : Int,
 (∃ n29 : Int,
 (∃ n30 : Int,
 (∃ n31 : Int,
 (∃ n32 : Int,
 (∃ n33 : Int,
 ((Says C 76 [(D.agg [(D.val (vI x2)), (D.val (vI x3)), (D.val (vI x4)), (D.val (vI x5)), (D.val (vI x6)), (D.val (vI x7)), (D.sl (n8) 5 (List.take (n8 * 5) (List.drop 0 l14))), (D.val (vI x10)), (D.val (vI x11)), (D.val (vI x12)), (D.val (vI x13))]), (D.agg [(D.val (vI y0)), (D.val (vI y1)), (D.val (vI y2))])] [(D.agg [(D.val (vI n26)), (D.val (vI n27)), (D.val (vI n28)), (D.val (vI n29)), (D.val (vI n30)), (D.val (vI n31)), (D.val (vI n32)), (D.val (vI n33))])]) ∧
 (bcase (decide (n32 < 0))
 (X Go.Exit.ret [(Prod.mk 4 (Pt 1000 0)), (Prod.mk 5 (Pt 1001 0)), (Prod.mk 6 (Pt 1002 0)), (Prod.mk 1000000 (Value.map (some 1003)))] [(Prod.mk 1000 (AObj.cells [(vI y0), (Sl 1004 2 2)] 67 false 2)), (Prod.mk 1001 (AObj.cells [(vI 0)] 35 false 1)), (Prod.mk 1002 (AObj.cells [(vI x2), (vI x3), (vI x4), (vI x5), (vI x6), (vI x7), (Sl 500 (n8) (c9)), (vI x10), (vI x11), (vI x12), (vI x13)] 89 false 11)), (Prod.mk 1003 AObj.deferred), (Prod.mk 1004 (AObj.sym [(vI 0), (vI 3)] true 1)), (Prod.mk 500 (AObj.sym (l14) false 5))])
 (X Go.Exit.ret [(Prod.mk 4 (Pt 1000 0)), (Prod.mk 5 (Pt 1001 0)), (Prod.mk 6 (Pt 1002 0)), (Prod.mk 1000000 (Value.map (some 1003)))] [(Prod.mk 1000 (AObj.cells [(vI y0), (Sl 1004 1 1)] 67 false 2)), (Prod.mk 1001 (AObj.cells [(vI 0)] 35 false 1)), (Prod.mk 1002 (AObj.cells [(vI x2), (vI x3), (vI x4), (vI x5), (vI x6), (vI x7), (Sl 500 (n8) (c9)), (vI x10), (vI x11), (vI x12), (vI x13)] 89 false 11)), (Prod.mk 1003 AObj.deferred), (Prod.mk 1004 (AObj.sym [(vI 0)] true 1)), (Prod.mk 500 (AObj.sym (l14) false 5))])))))))))))
 False)))))))))))
 False)))))))))))
 False)
 (bcase (decide (0 + n8 * 5 ≤ List.length l14))
 (∃ n10 : Int,
 (∃ n11 : Int,
 (∃ n12 : Int,
 (∃ n13 : Int,
 (∃ n14 : Int,
 (∃ n15 : Int,
 (∃ n16 : Int,
 (∃ n17 : Int,
 ((Says C 76 [(D.agg [(D.val (vI x2)), (D.val (vI x3)), (D.val (vI x4)), (D.val (vI x5)), (D.val (vI x6)), (D.val (vI x7)), (D.sl (n8) 5 (List.take (n8 * 5) (List.drop 0 l14))), (D.val (vI x10)), (D.val (vI x11)), (D.val (vI x12)), (D.val (vI x13))]), (D.agg [(D.val (vI y0)), (D.val (vI y1)), (D.val (vI y2))])] [(D.agg [(D.val (vI n10)), (D.val (vI n11)), (D.val (vI n12)), (D.val (vI n13)), (D.val (vI n14)), (D.val (vI n15)), (D.val (vI n16)), (D.val (vI n17))])]) ∧
 (bcase (decide (n12 < 0))
 (bcase (decide (0 + n8 * 5 ≤ List.length l14))
 (∃ n18 : Int,
 (∃ n19 : Int,
 (∃ n20 : Int,
 (∃ n21 : Int,
 (∃ n22 : Int,
 (∃ n23 : Int,
 (∃ n24 : Int,
 (∃ n25 : Int,
 ((Says C 76 [(D.agg [(D.val (vI x2)), (D.val (vI x3)), (D.val (vI x4)), (D.val (vI x5)), (D.val (vI x6)), (D.val (vI x7)), (D.sl (n8) 5 (List.take (n8 * 5) (List.drop 0 l14))), (D.val (vI x10)), (D.val (vI x11)), (D.val (vI x12)), (D.val (vI x13))]), (D.agg [(D.val (vI y0)), (D.val (vI y1)), (D.val (vI y2))])] [(D.agg [(D.val (vI n18)), (D.val (vI n19)), (D.val (vI n20)), (D.val (vI n21)), (D.val (vI n22)), (D.val (vI n23)), (D.val (vI n24)), (D.val (vI n25))])]) ∧
 (bcase (decide (n22 < 0))
 (bcase (decide (0 + n8 * 5 ≤ List.length l14))
 (∃ n26 : Int,
 (∃ n27 : Int,
 (∃ n28 : Int,
 (∃ n29 : Int,
 (∃ n30 : Int,
 (∃ n31 : Int,
 (∃ n32 : Int,
 (∃ n33 : Int,
 ((Says C 76 [(D.agg [(D.val (vI x2)), (D.val (vI x3)), (D.val (vI x4)), (D.val (vI x5)), (D.val (vI x6)), (D.val (vI x7)), (D.sl (n8) 5 (List.take (n8 * 5) (List.drop 0 l14))), (D.val (vI x10)), (D.val (vI x11)), (D.val (vI x12)), (D.val (vI x13))]), (D.agg [(D.val (vI y0)), (D.val (vI y1)), (D.val (vI y2))])] [(D.agg [(D.val (vI n26)), (D.val (vI n27)), (D.val (vI n28)), (D.val (vI n29)), (D.val (vI n30)), (D.val (vI n31)), (D.val (vI n32)), (D.val (vI n33))])]) ∧
 (bcase (decide (n32 < 0))
 (X Go.Exit.ret [(Prod.mk 4 (Pt 1000 0)), (Prod.mk 5 (Pt 1001 0)), (Prod.mk 6 (Pt 1002 0)), (Prod.mk 1000000 (Value.map (some 1003)))] [(Prod.mk 1000 (AObj.cells [(vI y0), (Sl 1004 3 3)] 67 false 2)), (Prod.mk 1001 (AObj.cells [(vI 0)] 35 false 1)), (Prod.mk 1002 (AObj.cells [(vI x2), (vI x3), (vI x4), (vI x5), (vI x6), (vI x7), (Sl 500 (n8) (c9)), (vI x10), (vI x11), (vI x12), (vI x13)] 89 false 11)), (Prod.mk 1003 AObj.deferred), (Prod.mk 1004 (AObj.sym [(vI 1), (vI 2), (vI 3)] true 1)), (Prod.mk 500 (AObj.sym (l14) false 5))])
 (X Go.Exit.ret [(Prod.mk 4 (Pt 1000 0)), (Prod.mk 5 (Pt 1001 0)), (Prod.mk 6 (Pt 1002 0)), (Prod.mk 1000000 (Value.map (some 1003)))] [(Prod.mk 1000 (AObj.cells [(vI y0), (Sl 1004 2 2)] 67 false 2)), (Prod.mk 1001 (AObj.cells [(vI 0)] 35 false 1)), (Prod.mk 1002 (AObj.cells [(vI x2), (vI x3), (vI x4), (vI x5), (vI x6), (vI x7), (Sl 500 (n8) (c9)), (vI x10), (vI x11), (vI x12), (vI x13)] 89 false 11)), (Prod.mk 1003 AObj.deferred), (Prod.mk 1004 (AObj.sym [(vI 1), (vI 2)] true 1)), (Prod.mk 500 (AObj.sym (l14) false 5))])))))))))))
 False)
 (bcase (decide (0 + n8 * 5 ≤ List.length l14))
 (∃ n26 : Int,
 (∃ n27 : Int,
 (∃ n28 : Int,
 (∃ n29 : Int,
 (∃ n30 : Int,
 (∃ n31 : Int,
 (∃ n32 : Int,
 (∃ n33 : Int,
 ((Says C 76 [(D.agg [(D.val (vI x2)), (D.val (vI x3)), (D.val (vI x4)), (D.val (vI x5)), (D.val (vI x6)), (D.val (vI x7)), (D.sl (n8) 5 (List.take (n8 * 5) (List.drop 0 l14))), (D.val (vI x10)), (D.val (vI x11)), (D.val (vI x12)), (D.val (vI x13))]), (D.agg [(D.val (vI y0)), (D.val (vI y1)), (D.val (vI y2))])] [(D.agg [(D.val (vI n26)), (D.val (vI n27)), (D.val (vI n28)), (D.val (vI n29)), (D.val (vI n30)), (D.val (vI n31)), (D.val (vI n32)), (D.val (vI n33))])]) ∧
 (bcase (decide (n32 < 0))
 (X Go.Exit.ret [(Prod.mk 4 (Pt 1000 0)), (Prod.mk 5 (Pt 1001 0)), (Prod.mk 6 (Pt 1002 0)), (Prod.mk 1000000 (Value.map (some 1003)))] [(Prod.mk 1000 (AObj.cells [(vI y0), (Sl 1004 2 2)] 67 false 2)), (Prod.mk 1001 (AObj.cells [(vI 0)] 35 false 1)), (Prod.mk 1002 (AObj.cells [(vI x2), (vI x3), (vI x4), (vI x5), (vI x6), (vI x7), (Sl 500 (n8) (c9)), (vI x10), (vI x11), (vI x12), (vI x13)] 89 false 11)), (Prod.mk 1003 AObj.deferred), (Prod.mk 1004 (AObj.sym [(vI 1), (vI 3)] true 1)), (Prod.mk 500 (AObj.sym (l14) false 5))])
 (X Go.Exit.ret [(Prod.mk 4 (Pt 1000 0)), (Prod.mk 5 (Pt 1001 0)), (Prod.mk 6 (Pt 1002 0)), (Prod.mk 1000000 (Value.map (some 1003)))] [(Prod.mk 1000 (AObj.cells [(vI y0), (Sl 1004 1 1)] 67 false 2)), (Prod.mk 1001 (AObj.cells [(vI 0)] 35 false 1)), (Prod.mk 1002 (AObj.cells [(vI x2), (vI x3), (vI x4), (vI x5), (vI x6), (vI x7), (Sl 500 (n8) (c9)), (vI x10), (vI x11), (vI x12), (vI x13)] 89 false 11)), (Prod.mk 1003 AObj.deferred), (Prod.mk 1004 (AObj.sym [(vI 1)] true 1)), (Prod.mk 500 (AObj.sym (l14) false 5))])))))))))))
 False)))))))))))
 False)
 (bcase (decide (0 + n8 * 5 ≤ List.length l14))
 (∃ n18 : Int,
 (∃ n19 : Int,
 (∃ n20 : Int,
 (∃ n21 : Int,
 (∃ n22 : Int,
 (∃ n23 : Int,
 (∃ n24 : Int,
 (∃ n25 : Int,
 ((Says C 76 [(D.agg [(D.val (vI x2)), (D.val (vI x3)), (D.val (vI x4)), (D.val (vI x5)), (D.val (vI x6)), (D.val (vI x7)), (D.sl (n8) 5 (List.take (n8 * 5) (List.drop 0 l14))), (D.val (vI x10)), (D.val (vI x11)), (D.val (vI x12)), (D.val (vI x13))]), (D.agg [(D.val (vI y0)), (D.val (vI y1)), (D.val (vI y2))])] [(D.agg [(D.val (vI n18)), (D.val (vI n19)), (D.val (vI n20)), (D.val (vI n21)), (D.val (vI n22)), (D.val (vI n23)), (D.val (vI n24)), (D.val (vI n25))])]) ∧
 (bcase (decide (n22 < 0))
 (bcase (decide (0 + n8 * 5 ≤ List.length l14))
 (∃ n26 : Int,
 (∃ n27 : Int,
 (∃ n28 : Int,
 (∃ n29 : Int,
 (∃ n30 : Int,
 (∃ n31 : Int,
 (∃ n32 : Int,
 (∃ n33 : Int,
 ((Says C 76 [(D.agg [(D.val (vI x2)), (D.val (vI x3)), (D.val (vI x4)), (D.val (vI x5)), (D.val (vI x6)), (D.val (vI x7)), (D.sl (n8) 5 (List.take (n8 * 5) (List.drop 0 l14))), (D.val (vI x10)), (D.val (vI x11)), (D.val (vI x12)), (D.val (vI x13))]), (D.agg [(D.val (vI y0)), (D.val (vI y1)), (D.val (vI y2))])] [(D.agg [(D.val (vI n26)), (D.val (vI n27)), (D.val (vI n28)), (D.val (vI n29)), (D.val (vI n30)), (D.val (vI n31)), (D.val (vI n32)), (D.val (vI n33))])]) ∧
 (bcase (decide (n32 < 0))
 (X Go.Exit.ret [(Prod.mk 4 (Pt 1000 0)), (Prod.mk 5 (Pt 1001 0)), (Prod.mk 6 (Pt 1002 0)), (Prod.mk 1000000 (Value.map (some 1003)))] [(Prod.mk 1000 (AObj.cells [(vI y0), (Sl 1004 2 2)] 67 false 2)), (Prod.mk 1001 (AObj.cells [(vI 0)] 35 false 1)), (Prod.mk 1002 (AObj.cells [(vI x2), (vI x3), (vI x4), (vI x5), (vI x6), (vI x7), (Sl 500 (n8) (c9)), (vI x10), (vI x11), (vI x12), (vI x13)] 89 false 11)), (Prod.mk 1003 AObj.deferred), (Prod.mk 1004 (AObj.sym [(vI 2), (vI 3)] true 1)), (Prod.mk 500 (AObj.sym (l14) false 5))])
 (X Go.Exit.ret [(Prod.mk 4 (Pt 1000 0)), (Prod.mk 5 (Pt 1001 0)), (Prod.mk 6 (Pt 1002 0)), (Prod.mk 1000000 (Value.map (some 1003)))] [(Prod.mk 1000 (AObj.cells [(vI y0), (Sl 1004 1 1)] 67 false 2)), (Prod.mk 1001 (AObj.cells [(vI 0)] 35 false 1)), (Prod.mk 1002 (AObj.cells [(vI x2), (vI x3), (vI x4), (vI x5), (vI x6), (vI x7), (Sl 500 (n8) (c9)), (vI x10), (vI x11), (vI x12), (vI x13)] 89 false 11)), (Prod.mk 1003 AObj.deferred), (Prod.mk 1004 (AObj.sym [(vI 2)] true 1)), (Prod.mk 500 (AObj.sym (l14) false 5))])))))))))))
 False)
 (bcase (decide (0 + n8 * 5 ≤ List.length l14))
 (∃ n26 : Int,
 (∃ n27 : Int,
 (∃ n28 : Int,
 (∃ n29 : Int,
 (∃ n30 : Int,
 (∃ n31 : Int,
 (∃ n32 : Int,
 (∃ n33 : Int,
 ((Says C 76 [(D.agg [(D.val (vI x2)), (D.val (vI x3)), (D.val (vI x4)), (D.val (vI x5)), (D.val (vI x6)), (D.val (vI x7)), (D.sl (n8) 5 (List.take (n8 * 5) (List.drop 0 l14))), (D.val (vI x10)), (D.val (vI x11)), (D.val (vI x12)), (D.val (vI x13))]), (D.agg [(D.val (vI y0)), (D.val (vI y1)), (D.val (vI y2))])] [(D.agg [(D.val (vI n26)), (D.val (vI n27)), (D.val (vI n28)), (D.val (vI n29)), (D.val (vI n30)), (D.val (vI n31)), (D.val (vI n32)), (D.val (vI n33))])]) ∧
 (bcase (decide (n32 < 0))
 (X Go.Exit.ret [(Prod.mk 4 (Pt 1000 0)), (Prod.mk 5 (Pt 1001 0)), (Prod.mk 6 (Pt 1002 0)), (Prod.mk 1000000 (Value.map (some 1003)))] [(Prod.mk 1000 (AObj.cells [(vI y0), (Sl 1004 1 1)] 67 false 2)), (Prod.mk 1001 (AObj.cells [(vI 0)] 35 false 1)), (Prod.mk 1002 (AObj.cells [(vI x2), (vI x3), (vI x4), (vI x5), (vI x6), (vI x7), (Sl 500 (n8) (c9)), (vI x10), (vI x11), (vI x12), (vI x13)] 89 false 11)), (Prod.mk 1003 AObj.deferred), (Prod.mk 1004 (AObj.sym [(vI 3)] true 1)), (Prod.mk 500 (AObj.sym (l14) false 5))])
 (B [(Prod.mk 4 (Pt 1000 0)), (Prod.mk 5 (Pt 1001 0)), (Prod.mk 6 (Pt 1002 0)), (Prod.mk 1000000 (Value.map (some 1003)))] [(Prod.mk 1000 (AObj.cells [(vI x0), (Value.slice none 0 0)] 67 false 2)), (Prod.mk 1001 (AObj.cells [(vI x1)] 35 false 1)), (Prod.mk 1002 (AObj.cells [(vI x2), (vI x3), (vI x4), (vI x5), (vI x6), (vI x7), (Sl 500 (n8) (c9)), (vI x10), (vI x11), (vI x12), (vI x13)] 89 false 11)), (Prod.mk 1003 AObj.deferred), (Prod.mk 500 (AObj.sym (l14) false 5))])))))))))))
 False)))))))))))
 False)))))))))))
 False)))))))))))
 False)) := by kernel_rfl
def nWO6 (C : Ct) (L : AtLoop) (x0 : Int) (x1 : Int) (x2 : Int) (x3 : Int) (x4 : Int) (x5 : Int) (x6 : Int) (x7 : Int) (n8 : Nat) (c9 : Nat) (x10 : Int) (x11 : Int) (x12 : Int) (x13 : Int) (l14 : List Value) (k : List D → Prop) : Prop := jNext Tryz.prog (hP C) L [] 31 50005 .normal [(4, (Value.pointer (some ⟨1000, 0, none⟩))), (5, (Value.pointer (some ⟨1001, 0, none⟩))), (6, (Value.pointer (some ⟨1002, 0, none⟩))), (1000000, (Go.Value.map (Option.some 1003)))] [(1000, (AObj.cells [(Value.int .i64 x0), (Value.slice none 0 0)] 67 false 2)), (1001, (AObj.cells [(Value.int .i64 x1)] 35 false 1)), (1002, (AObj.cells [(Value.int .i64 x2), (Value.int .i64 x3), (Value.int .i64 x4), (Value.int .i64 x5), (Value.int .i64 x6), (Value.int .i64 x7), (Value.slice (some ⟨500, 0, none⟩) n8 c9), (Value.int .i64 x10), (Value.int .i64 x11), (Value.int .i64 x12), (Value.int .i64 x13)] 89 false 11)), (1003, AObj.deferred), (500, (AObj.sym l14 false 5))] (dataK k)
theorem nWO6_text (C : Ct) (L : AtLoop) (x0 : Int) (x1 : Int) (x2 : Int) (x3 : Int) (x4 : Int) (x5 : Int) (x6 : Int) (x7 : Int) (n8 : Nat) (c9 : Nat) (x10 : Int) (x11 : Int) (x12 : Int) (x13 : Int) (l14 : List Go.Value) (k : List D → Prop) : nWO6 C L x0 x1 x2 x3 x4 x5 x6 x7 n8 c9 x10 x11 x12 x13 l14 k =
 (k [(D.agg [(D.val (vI 0)), D.nil]), (D.val (vI 12))]) := by kernel_rfl
def nWO8 (C : Ct) (L : AtLoop) (x0 : Int) (n1 : Nat) (x2 : Int) (x3 : Int) (x4 : Int) (x5 : Int) (x6 : Int) (x7 : Int) (x8 : Int) (n9 : Nat) (c10 : Nat) (x11 : Int) (x12 : Int) (x13 : Int) (x14 : Int) (l15 : List Value) (l16 : List Value) (k : List D → Prop) : Prop := jNext Tryz.prog (hP C) L [] 31 50005 .ret [(4, (Value.pointer (some ⟨1000, 0, none⟩))), (5, (Value.pointer (some ⟨1001, 0, none⟩))), (6, (Value.pointer (some ⟨1002, 0, none⟩))), (1000000, (Go.Value.map (Option.some 1003)))] [(1000, (AObj.cells [(Value.int .i64 x0), (Value.slice (some ⟨1004, 0, none⟩) n1 n1)] 67 false 2)), (1001, (AObj.cells [(Value.int .i64 x2)] 35 false 1)), (1002, (AObj.cells [(Value.int .i64 x3), (Value.int .i64 x4), (Value.int .i64 x5), (Value.int .i64 x6), (Value.int .i64 x7), (Value.int .i64 x8), (Value.slice (some ⟨500, 0, none⟩) n9 c10), (Value.int .i64 x11), (Value.int .i64 x12), (Value.int .i64 x13), (Value.int .i64 x14)] 89 false 11)), (1003, AObj.deferred), (1004, (AObj.sym l15 true 1)), (500, (AObj.sym l16 false 5))] (dataK k)
theorem nWO8_text (C : Ct) (L : AtLoop) (x0 : Int) (n1 : Nat) (x2 : Int) (x3 : Int) (x4 : Int) (x5 : Int) (x6 : Int) (x7 : Int) (x8 : Int) (n9 : Nat) (c10 : Nat) (x11 : Int) (x12 : Int) (x13 : Int) (x14 : Int) (l15 : List Go.Value) (l16 : List Go.Value) (k : List D → Prop) : nWO8 C L x0 n1 x2 x3 x4 x5 x6 x7 x8 n9 c10 x11 x12 x13 x14 l15 l16 k =
 (((Qv (n1)) ∧
 ((List.length l15) = (n1 * 1))) ∧
 (k [(D.agg [(D.val (vI x0)), (D.sl (n1) 1 (l15))]), (D.val (vI x2))])) := by kernel_rfl
end Go.Proofs.G5o.R
