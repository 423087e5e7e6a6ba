/- Texts of the proof, put together: GmMS1r, AbsNum, AbsLow, GStr3, GName, GmMXP1, GmMXP2, GmMXP3, GStr5, GmMXS, GmMX1, GmMX2, GmXW, GmMX3. -/
import Derived.Test.YtocehmejiaelcaaGreatDoorP5
import Derived.Test.YtocehmejiaelcaaGreatDoorP4
import Derived.Test.YtocehmejiaelcaaGreatDoorP3
/- The small functions on strings of the references, in data. -/
namespace Go.Proofs.G5m
open Go Go.Abs Go.Proofs Go.Str
set_option maxRecDepth 100000
theorem hokE : HandlerOK Tryz.prog (hE C5) := handlerX_ok mixed (fun g h he => by cases he) (by decide) 6
/-- pieces between separators -/
theorem conCu (l : List UInt8) (c : UInt8) (hl : l.length < 4294967281) : C5 31 [dS l, .val (.int .u8 (c.toNat : Int))] [dSs (cutA c [] l)] := by
  let inv : Nat × Nat × List (List UInt8) → Prop := fun x => x.2.1 ≤ x.1 ∧ x.1 ≤ l.length ∧ x.2.2.length ≤ x.1 ∧ x.2.2 ++ cutA c ((l.drop x.2.1).take (x.1 - x.2.1)) (l.drop x.1) = cutA c [] l
  let st : Nat × Nat × List (List UInt8) → Slots × Blocks := fun x => match x.2.2 with
    | [] => zCu1 (bs l) c.toNat x.2.1 x.1
    | y :: r => zCu2 (bs l) c.toNat (y :: r).length x.2.1 x.1 (strs (y :: r))
  refine con_of (L := fun _ s b => ∃ x, inv x ∧ st x = (s, b)) hokE mixed Tryz.func31 rfl (by show 0 ≤ 400; omega) rfl (ids := [0]) (by kernel_rfl) rfl (fun caps => ?_) (fun id hid => ?_)
  · show gCu _ _ (bs l) c.toNat _
    rw [gCu_text]
    exact ⟨(0, 0, []), ⟨Nat.le_refl _, Nat.zero_le _, Nat.le_refl _, by simp⟩, rfl⟩
  · obtain rfl := List.mem_singleton.1 hid
    refine ⟨Nat × Nat × List (List UInt8), st, inv, fun x => l.length - x.1, ⟨fun s b h => h, by kernel_rfl, ?_⟩⟩
    rintro ⟨i, f, out⟩ ⟨h1, h2, h3, h4⟩
    simp only at h1 h2 h3 h4
    have hx : ∀ j, (bs l).extract f j = bs ((l.drop f).take (j - f)) := fun j => bs_extract l f j
    have hend : ¬ i < l.length → out ++ [(l.drop f).take (l.length - f)] = cutA c [] l := by
      intro hi
      obtain rfl : i = l.length := by omega
      rw [List.drop_length, cutA] at h4
      exact h4
    have step : ∀ hi : i < l.length, if l[i] = c then inv (i + 1, i + 1, out ++ [(l.drop f).take (i - f)]) else inv (i + 1, f, out) := by
      intro hi
      rw [List.drop_eq_getElem_cons hi, cutA] at h4
      split
      · next hc =>
        rw [if_pos hc] at h4
        exact ⟨Nat.le_refl _, hi, by simp; omega, by simpa using h4⟩
      · next hc =>
        rw [if_neg hc] at h4
        exact ⟨by show f ≤ i + 1; omega, hi, by show out.length ≤ i + 1; omega, by show out ++ cutA c ((l.drop f).take (i + 1 - f)) (l.drop (i + 1)) = _; rw [take_snoc h1 hi]; exact h4⟩
    cases out with
    | nil =>
      show rCu1 _ _ (bs l) c.toNat f i _ _ _
      rw [rCu1_text]
      simp only [bs_size]
      refine bc_dec (fun h => ?_) (fun h => ?_)
      · have hi : i < l.length := by omega
        have step := step hi
        simp only [bc_t (show (0 : Int) ≤ (i : Int) by omega), Int.toNat_natCast, byte1 (List.getElem?_eq_getElem hi), wi1 hi (by omega)]
        refine bc_beq (fun hc => ?_) (fun hc => ?_)
        · rw [if_pos (u8_eq hc)] at step
          simp only [bc_t (show (i : Int) ≤ (l.length : Int) by omega), bc_t (show (0 : Int) ≤ (f : Int) by omega), bc_t (show (f : Int) ≤ (i : Int) by omega), hx]
          exact ⟨_, step, by show l.length - (i + 1) < l.length - i; omega, rfl⟩
        · rw [if_neg (fun e => hc (by rw [e]))] at step
          exact ⟨_, step, by show l.length - (i + 1) < l.length - i; omega, rfl⟩
      · show nCu3 _ _ (bs l) f _
        rw [nCu3_text]
        simp only [bs_size, bc_t (show (0 : Int) ≤ (f : Int) by omega), bc_t (show (f : Int) ≤ (l.length : Int) by omega), Int.toNat_natCast, hx]
        refine ⟨⟨trivial, trivial⟩, ?_⟩
        rw [← hend (by omega)]
        rfl
    | cons y r =>
      show rCu2 _ _ (bs l) c.toNat (y :: r).length f i (strs (y :: r)) _ _ _
      rw [rCu2_text]
      simp only [bs_size]
      have hlen : (y :: r).length ≤ i := h3
      refine bc_dec (fun h => ?_) (fun h => ?_)
      · have hi : i < l.length := by omega
        have step := step hi
        simp only [bc_t (show (0 : Int) ≤ (i : Int) by omega), Int.toNat_natCast, byte1 (List.getElem?_eq_getElem hi), wi1 hi (by omega)]
        refine bc_beq (fun hc => ?_) (fun hc => ?_)
        · rw [if_pos (u8_eq hc)] at step
          simp only [bc_t (show (i : Int) ≤ (l.length : Int) by omega), bc_t (show (0 : Int) ≤ (f : Int) by omega), bc_t (show (f : Int) ≤ (i : Int) by omega), hx,
            bc_t (Nat.lt_succ_self (y :: r).length), bc_t (show (2 * ((y :: r).length + 1) + 768) * 16 ≤ 281474976710656 by omega), bc_t (show (y :: r).length + 1 ≤ 1099511627776 by omega), bc_t (whole_le (y :: r)), bc_t (whole_eq (y :: r)), strs_whole]
          refine ⟨_, step, by show l.length - (i + 1) < l.length - i; omega, ?_⟩
          show zCu2 _ _ ((y :: r) ++ [_]).length _ _ (strs ((y :: r) ++ [_])) = _
          rw [List.length_append]
          simp only [strs, List.map_append]
          rfl
        · rw [if_neg (fun e => hc (by rw [e]))] at step
          exact ⟨_, step, by show l.length - (i + 1) < l.length - i; omega, rfl⟩
      · show nCu4 _ _ (bs l) (y :: r).length f (strs (y :: r)) _
        rw [nCu4_text]
        simp only [bs_size, bc_t (show (0 : Int) ≤ (f : Int) by omega), bc_t (show (f : Int) ≤ (l.length : Int) by omega), Int.toNat_natCast, hx,
          bc_t (Nat.lt_succ_self (y :: r).length), bc_t (show (2 * ((y :: r).length + 1) + 768) * 16 ≤ 281474976710656 by omega), bc_t (show (y :: r).length + 1 ≤ 1099511627776 by omega), bc_t (whole_le (y :: r)), bc_t (whole_eq (y :: r)), strs_whole]
        refine ⟨⟨trivial, by first | (simp; done) | (simp; rfl) | (simp; kernel_rfl)⟩, ?_⟩
        rw [← hend (by omega)]
        show [_] = [D.sl ((y :: r) ++ [_]).length 1 (strs ((y :: r) ++ [_]))]
        rw [List.length_append]
        simp only [strs, List.map_append]
        rfl
/-! ### decimal numerals -/
/-! ### numbers that are read -/
theorem pow_le {k : Nat} (h : k ≤ 17) : (10 : Int) ^ k ≤ 100000000000000000 := by
  have := pow10_le h
  rw [p17] at this; exact this
theorem isDig_no {b : UInt8} (h : ¬ (48 ≤ b.toNat ∧ b.toNat ≤ 57)) : isDig b = false := by
  unfold isDig
  rw [Bool.and_eq_false_iff, decide_eq_false_iff_not, decide_eq_false_iff_not]; omega
theorem byte48 {b : UInt8} (h1 : 48 ≤ b.toNat) (h2 : b.toNat ≤ 57) : IntKind.wrap .i64 (IntKind.wrap .u8 ((b.toNat : Int) - 48)) = (b.toNat : Int) - 48 := by
  rw [IntKind.wrap_u8]
  rw [w64 (by omega) (by omega)]; omega
theorem conNu (l : List UInt8) (d : Nat) (hd : d ≤ 18) (hl : l.length < 4294967281) : C5 63 [dS l, dI d] [dI (readNum d l).1, dB (readNum d l).2] := by
  let inv : Nat × Nat → Prop := fun x => x.1 ≤ 1 ∧ x.1 ≤ x.2 ∧ x.2 ≤ l.length ∧ l.length ≤ d + x.1 ∧ ((l.drop x.1).take (x.2 - x.1)).all isDig = true ∧ readNum d l = rdT x.1 l
  let st : Nat × Nat → Slots × Blocks := fun x => zNu1 (bs l) x.1 (numF 0 ((l.drop x.1).take (x.2 - x.1))) x.2
  refine con_of (L := fun _ s b => ∃ x, inv x ∧ st x = (s, b)) hokE mixed Tryz.func63 rfl (by show 0 ≤ 400; omega) rfl (ids := [0]) (by kernel_rfl) rfl (fun caps => ?_) (fun id hid => ?_)
  · show gNu _ _ (bs l) d _
    rw [gNu_text]
    simp only [bs_size]
    have pos : (∀ b, l[0]? = some b → b.toNat ≠ 45) → bcase ((l.length : Int) == 0) ([dI 0, dB false] = [dI (readNum d l).1, dB (readNum d l).2])
        (bcase (decide (IntKind.wrap .i64 ((l.length : Int) - 0) > (d : Int))) ([dI 0, dB false] = [dI (readNum d l).1, dB (readNum d l).2])
        (∃ b2 : UInt8, ByteAt (bs l) 0 b2 ∧ bcase ((b2.toNat : Int) == 48) (bcase (decide ((l.length : Int) > 1)) ([dI 0, dB false] = [dI (readNum d l).1, dB (readNum d l).2]) (∃ x, inv x ∧ st x = zNu1 (bs l) 0 0 0)) (∃ x, inv x ∧ st x = zNu1 (bs l) 0 0 0))) := by
      intro hno
      have hh : l.head? ≠ some 45 := by
        intro e
        cases l with
        | nil => simp at e
        | cons b r =>
          simp only [List.head?_cons, Option.some.injEq] at e
          subst e
          exact hno 45 rfl rfl
      have hr := readNum_pos (d := d) hh
      refine bc_beq (fun h => ?_) (fun h => ?_)
      · rw [hr, if_pos (by omega)]
      · rw [if_neg (by omega)] at hr
        have e1 : IntKind.wrap .i64 ((l.length : Int) - 0) = (l.length : Int) := by rw [w64 (by omega) (by omega)]; omega
        simp only [e1]
        refine bc_dec (fun h2 => ?_) (fun h2 => ?_)
        · rw [hr, if_pos (by omega)]
        · rw [if_neg (by omega)] at hr
          cases l with
          | nil => simp at h
          | cons b r =>
            rw [byte1 (l := b :: r) (i := 0) (b := b) rfl]
            have go : ¬ ((b :: r).head? = some 48 ∧ 1 < (b :: r).length) → ∃ x, inv x ∧ st x = zNu1 (bs (b :: r)) 0 0 0 := by
              intro hc
              rw [if_neg hc] at hr
              exact ⟨(0, 0), ⟨by decide, Nat.le_refl _, Nat.zero_le _, by show _ ≤ d + 0; omega, rfl, hr⟩, rfl⟩
            refine bc_beq (fun h3 => ?_) (fun h3 => ?_)
            · have hb : b = 48 := u8_eq (c := 48) h3
              refine bc_dec (fun h4 => ?_) (fun h4 => go (by omega))
              rw [hr, if_pos ⟨by rw [hb]; rfl, by omega⟩]
            · exact go (fun ⟨e, _⟩ => h3 (by simp only [List.head?_cons, Option.some.injEq] at e; rw [e]; rfl))
    refine bc_dec (fun h => ?_) (fun h => ?_)
    · cases l with
      | nil => simp at h
      | cons b r =>
        rw [byte1 (l := b :: r) (i := 0) (b := b) rfl]
        refine bc_beq (fun h45 => ?_) (fun h45 => pos ?_)
        · obtain rfl : b = 45 := u8_eq (c := 45) h45
          have hr := readNum_neg (d := d) (r := r)
          simp only [List.length_cons] at hl ⊢
          refine bc_beq (fun h1 => ?_) (fun h1 => ?_)
          · rw [hr, if_pos (by omega)]
          · rw [if_neg (by omega)] at hr
            have e1 : IntKind.wrap .i64 (((r.length + 1 : Nat) : Int) - 1) = (r.length : Int) := by rw [w64 (by omega) (by omega)]; omega
            simp only [e1]
            refine bc_dec (fun h2 => ?_) (fun h2 => ?_)
            · rw [hr, if_pos (by omega)]
            · rw [if_neg (by omega)] at hr
              cases r with
              | nil => simp at h1
              | cons c r =>
                rw [byte1 (l := 45 :: c :: r) (i := 1) (b := c) rfl]
                refine bc_beq (fun h3 => ?_) (fun h3 => ?_)
                · have hc : c = 48 := u8_eq (c := 48) h3
                  refine bc_yes (by simp only [List.length_cons]; omega) ?_
                  rw [hr, if_pos (by rw [hc]; rfl)]
                · rw [if_neg (fun e => h3 (by simp only [List.head?_cons, Option.some.injEq] at e; rw [e]; rfl))] at hr
                  refine ⟨(1, 1), ⟨by decide, Nat.le_refl _, by simp, by simp only [List.length_cons] at h2 ⊢; omega, rfl, hr⟩, rfl⟩
        · intro b' hb' e
          obtain rfl : b = b' := by simpa using hb'
          exact h45 (by omega)
    · exact pos (fun b hb => by
        have := (List.getElem?_eq_some_iff.1 hb).1
        omega)
  · obtain rfl := List.mem_singleton.1 hid
    refine ⟨Nat × Nat, st, inv, fun x => l.length - x.2, ⟨fun s b h => h, by kernel_rfl, ?_⟩⟩
    rintro ⟨a, i⟩ ⟨ha, hai, hil, hld, hall, hr⟩
    simp only at ha hai hil hld hall hr
    show rNu1 _ _ (bs l) a (numF 0 ((l.drop a).take (i - a))) i _ _ _
    rw [rNu1_text]
    simp only [bs_size]
    have hn := numF_ge _ 0 (by decide) hall
    have hlen : ((l.drop a).take (i - a)).length = i - a := by simp; omega
    rw [hlen] at hn
    refine bc_dec (fun h => ?_) (fun h => ?_)
    · have hi : i < l.length := by omega
      have fail : isDig l[i] = false → [dI 0, dB false] = [dI (readNum d l).1, dB (readNum d l).2] := by
        intro hb
        have hg : (l.drop a)[i - a]? = some l[i] := by rw [List.getElem?_drop, show a + (i - a) = i by omega, List.getElem?_eq_getElem hi]
        rw [hr]; unfold rdT; rw [not_all hg hb]; rfl
      have hp := pow_le (k := i - a) (by omega)
      simp only [bc_t (show (0 : Int) ≤ (i : Int) by omega), Int.toNat_natCast, byte1 (List.getElem?_eq_getElem hi), wi1 hi (by omega)]
      refine bc_dec (fun hb => fail (isDig_no (by omega))) (fun hb => ?_)
      refine bc_dec (fun hb2 => fail (isDig_no (by omega))) (fun hb2 => ?_)
      have hdig : isDig l[i] = true := by unfold isDig; rw [decide_eq_true (by omega), decide_eq_true (by omega)]; rfl
      refine ⟨(a, i + 1), ⟨ha, by show a ≤ i + 1; omega, hi, hld, by show ((l.drop a).take (i + 1 - a)).all isDig = true; rw [take_snoc hai hi, List.all_append, hall]; simp [hdig], hr⟩, by show l.length - (i + 1) < l.length - i; omega, ?_⟩
      show zNu1 (bs l) a (numF 0 ((l.drop a).take (i + 1 - a))) ((i + 1 : Nat) : Int) = _
      rw [take_snoc hai hi, numF_append, numF_cons, numF_nil, byte48 (by omega) (by omega), w64 (z := 10 * _) (by omega) (by omega), w64 (by omega) (by omega)]
    · have hi : i = l.length := by omega
      subst hi
      show nNu2 _ _ a _ _
      rw [nNu2_text]
      have ht : (l.drop a).take (l.length - a) = l.drop a := List.take_of_length_le (by simp)
      rw [ht] at hall hn ⊢
      have hp : (10 : Int) ^ (l.length - a) ≤ 1000000000000000000 := by
        have := pow10_le (k := l.length - a) (d := 18) (by omega)
        rw [p18] at this; exact this
      rw [hr]
      unfold rdT
      rw [if_pos hall]
      refine bc_beq (fun h1 => ?_) (fun h1 => ?_)
      · rw [if_pos (by omega), w64 (by omega) (by omega), Int.zero_sub]
      · rw [if_neg (by omega)]
end Go.Proofs.G5m

/- Numbers: greatest divisors, quotients rounded down, fractions in lowest terms. -/
namespace Go.Abs
theorem natAbs_tmod (a b : Int) : (a.tmod b).natAbs = a.natAbs % b.natAbs := Int.natAbs_tmod a b
/-- one step of the division of both -/
theorem gcd_step (a b : Int) : (Int.gcd b (a.tmod b) : Int) = Int.gcd a b := by
  have : Int.gcd b (a.tmod b) = Int.gcd a b := by
    show Nat.gcd b.natAbs (a.tmod b).natAbs = Nat.gcd a.natAbs b.natAbs
    rw [natAbs_tmod, Nat.gcd_comm b.natAbs, ← Nat.gcd_rec, Nat.gcd_comm]
  rw [this]
theorem gcd_step_lt {a b : Int} (h : b ≠ 0) : (a.tmod b).natAbs < b.natAbs := by
  rw [natAbs_tmod]; exact Nat.mod_lt _ (by omega)
theorem gcd_end (a : Int) : (Int.gcd a 0 : Int) = if a < 0 then -a else a := by
  have : Int.gcd a 0 = a.natAbs := Nat.gcd_zero_right _
  rw [this]; split <;> omega
theorem gcd_pos {a b : Int} (h : a ≠ 0 ∨ b ≠ 0) : 0 < (Int.gcd a b : Int) := by
  have : Int.gcd a b ≠ 0 := fun e => by
    have := Int.gcd_eq_zero_iff.1 e
    omega
  omega
end Go.Abs

/- Fractions in lowest terms: their parts, and how they compare. -/
namespace Go.Abs
/-- a fraction in lowest terms -/
def low (n d : Int) : Int × Int := if d < 0 then ((0 - n).tdiv (Int.gcd n d), (0 - d).tdiv (Int.gcd n d)) else (n.tdiv (Int.gcd n d), d.tdiv (Int.gcd n d))
theorem tdiv_small {n g : Int} (hn : -4611686018427387904 ≤ n ∧ n ≤ 4611686018427387904) (_ : 0 < g) : -4611686018427387904 ≤ n.tdiv g ∧ n.tdiv g ≤ 4611686018427387904 := by
  have h := Int.natAbs_tdiv_le_natAbs n g
  omega
end Go.Abs

/- Words that are read by a reader; pairs of numbers that may be below naught. -/
namespace Go.Str
variable {α : Type}
/-! ### readings by strconv.Atoi -/
end Go.Str

/- Names: a letter, then letters, digits and hyphens. -/
namespace Go.Str
open Go Go.Abs
def isLet (b : UInt8) : Bool := (decide (97 ≤ b.toNat) && decide (b.toNat ≤ 122)) || (decide (65 ≤ b.toNat) && decide (b.toNat ≤ 90))
def nameC (b : UInt8) : Bool := isLet b || isDig b || b.toNat == 45
def nameOK (l : List UInt8) : Bool := decide (1 ≤ l.length) && decide (l.length ≤ 12) && l.head?.any isLet && l.all nameC
theorem let_t {b : UInt8} (h : (97 ≤ b.toNat ∧ b.toNat ≤ 122) ∨ (65 ≤ b.toNat ∧ b.toNat ≤ 90)) : isLet b = true := by
  simp [isLet]; omega
theorem let_f {b : UInt8} (h : ¬ ((97 ≤ b.toNat ∧ b.toNat ≤ 122) ∨ (65 ≤ b.toNat ∧ b.toNat ≤ 90))) : isLet b = false := by
  simp [isLet]; omega
theorem dig_t {b : UInt8} (h : 48 ≤ b.toNat ∧ b.toNat ≤ 57) : isDig b = true := by simp [isDig, h]
theorem dig_f {b : UInt8} (h : ¬ (48 ≤ b.toNat ∧ b.toNat ≤ 57)) : isDig b = false := by simp [isDig]; omega
theorem name_t {b : UInt8} (h : ((97 ≤ b.toNat ∧ b.toNat ≤ 122) ∨ (65 ≤ b.toNat ∧ b.toNat ≤ 90)) ∨ (48 ≤ b.toNat ∧ b.toNat ≤ 57) ∨ b.toNat = 45) : nameC b = true := by
  simp [nameC, isLet, isDig]; omega
theorem name_f {b : UInt8} (h : ¬ (((97 ≤ b.toNat ∧ b.toNat ≤ 122) ∨ (65 ≤ b.toNat ∧ b.toNat ≤ 90)) ∨ (48 ≤ b.toNat ∧ b.toNat ≤ 57) ∨ b.toNat = 45)) : nameC b = false := by
  simp [nameC, isLet, isDig]; omega
/-- how far a walk over a name has come: what is left decides -/
def goesN (l : List UInt8) (i : Nat) : Prop := i ≤ l.length ∧ (1 ≤ l.length ∧ l.length ≤ 12) ∧ (i = 0 ∨ l.head?.any isLet = true) ∧ l.all nameC = (l.drop i).all nameC
theorem goesN_0 {l : List UInt8} (h : 1 ≤ l.length ∧ l.length ≤ 12) : goesN l 0 := ⟨Nat.zero_le _, h, .inl rfl, rfl⟩
theorem nameOK_len {l : List UInt8} (h : ¬ (1 ≤ l.length ∧ l.length ≤ 12)) : nameOK l = false := by
  unfold nameOK
  rcases Nat.lt_or_ge l.length 1 with h1 | h1
  · rw [decide_eq_false (by omega : ¬ 1 ≤ l.length)]; rfl
  · rw [decide_eq_false (by omega : ¬ l.length ≤ 12)]; simp
theorem head_of {l : List UInt8} (h : 0 < l.length) : l.head? = some l[0] := by
  cases l with
  | nil => cases h
  | cons a r => rfl
theorem nameOK_head {l : List UInt8} (h : 0 < l.length) (hb : isLet l[0] = false) : nameOK l = false := by
  unfold nameOK
  rw [head_of h]
  simp [hb]
theorem goesN_bad {l : List UInt8} {i : Nat} (h : goesN l i) (hi : i < l.length) (hb : nameC l[i] = false) : nameOK l = false := by
  obtain ⟨_, _, _, h4⟩ := h
  unfold nameOK
  rw [h4, List.drop_eq_getElem_cons hi, List.all_cons, hb]
  simp
theorem goesN_first {l : List UInt8} {i : Nat} (hi : i < l.length) (h0 : i = 0) (hb : isLet l[i] = false) : nameOK l = false := by
  subst h0; exact nameOK_head hi hb
theorem goesN_step {l : List UInt8} {i : Nat} (h : goesN l i) (hi : i < l.length) (hb : nameC l[i] = true) (h0 : i = 0 → isLet l[i] = true) : goesN l (i + 1) := by
  obtain ⟨h1, h2, h3, h4⟩ := h
  refine ⟨hi, h2, .inr ?_, ?_⟩
  · rcases h3 with h3 | h3
    · have := h0 h3
      subst h3
      rw [head_of hi]; simpa using this
    · exact h3
  · rw [h4, List.drop_eq_getElem_cons hi, List.all_cons, hb]; simp
theorem goesN_end {l : List UInt8} {i : Nat} (h : goesN l i) (hi : ¬ i < l.length) : nameOK l = true := by
  obtain ⟨h1, h2, h3, h4⟩ := h
  have e : i = l.length := by omega
  subst e
  rw [List.drop_length] at h4
  have h5 : l.head?.any isLet = true := by
    rcases h3 with h3 | h3
    · omega
    · exact h3
  unfold nameOK
  rw [h4, h5, decide_eq_true h2.1, decide_eq_true h2.2]; rfl
end Go.Str

/- Chapter 3: how functions are met, and small functions, in data. -/
namespace Go.Proofs.G5m
open Go Go.Abs Go.Proofs Go.Str
set_option maxRecDepth 100000
abbrev dI (a : Int) : D := .val (.int .i64 a)
abbrev dB (b : Bool) : D := .val (.bool b)
abbrev dS (l : List UInt8) : D := .val (.string (bs l))
theorem ite_so {c : Prop} [Decidable c] {α : Type} {x h : α} {r : Option α} (e : (if c then some x else r) = some h) : (c ∧ x = h) ∨ r = some h := by
  by_cases hc : c
  · rw [if_pos hc] at e; exact .inl ⟨hc, Option.some.inj e⟩
  · rw [if_neg hc] at e; exact .inr e
theorem prePOK : PreOK Tryz.prog (preP C5) := by
  intro g h he args ats H k hk
  unfold preP at he
  rcases ite_so he with ⟨_, rfl⟩ | he
  · exact freshH_ok hk
  rcases ite_so he with ⟨_, rfl⟩ | he
  · exact saidH_ok (fun _ _ _ h => h) _ _ _ _ _ hk
  · cases he
theorem hokP : HandlerOK Tryz.prog (hP C5) := handlerX_ok mixed prePOK (by decide) 6
theorem v1le (l : List Int) : 0 + l.length * 1 ≤ (vi l).length := by simp
theorem bc_nf {a : Int} {x y : Prop} : bcase (a != a) x y = y := by rw [show (a != a) = false by simp]; rfl
theorem conFE (l : List Int) (hlen : l.length < 1000000000) : C5 47 [.sl l.length 1 (vi l)] [dI (fst0 l)] := by
  let inv : Nat × Nat → Prop := fun x => x.1 ≤ l.length ∧ fst0 l = fst0 (l.drop x.1)
  let st : Nat × Nat → Slots × Blocks := fun x => zFE1 l.length x.2 l.length x.1 (vi l)
  refine con_of (L := fun _ s b => ∃ x, inv x ∧ st x = (s, b)) hokE mixed Tryz.func47 rfl (by show 1 ≤ 400; omega) rfl (ids := [0]) (by kernel_rfl) rfl (fun caps => ?_) (fun id hid => ?_)
  · show gFE _ _ l.length (caps 500) (vi l) _
    rw [gFE_text]
    exact ⟨(0, caps 500), ⟨by simp, rfl⟩, rfl⟩
  · obtain rfl := List.mem_singleton.1 hid
    refine ⟨Nat × Nat, st, inv, fun x => l.length - x.1, ⟨fun s b h => h, by kernel_rfl, ?_⟩⟩
    rintro ⟨i, cap⟩ ⟨hi, hr⟩
    simp only at hi hr
    show rFE1 _ _ l.length cap l.length i (vi l) _ _ _
    rw [rFE1_text]
    refine bc_dec (fun h => ?_) (fun h => ?_)
    · have hi' : i < l.length := by omega
      rw [List.drop_eq_getElem_cons hi', fst0] at hr
      simp only [bc_t h, bc_t (show (0 : Int) ≤ (i : Int) by omega), Int.toNat_natCast, at1 (vi_at l i hi')]
      refine bc_bne (fun hc => ?_) (fun hc => ?_)
      · rw [if_neg hc] at hr
        show [dI l[i]] = [dI (fst0 l)]
        rw [hr]
      · rw [if_pos hc] at hr
        refine ⟨(i + 1, cap), ⟨by show i + 1 ≤ l.length; omega, hr⟩, by show l.length - (i + 1) < l.length - i; omega, ?_⟩
        rw [w64 (by omega) (by omega)]; rfl
    · show (if 0 = 0 then _ else _)
      rw [if_pos rfl]
      show nFE2 _ _ _
      rw [nFE2_text]
      have : i = l.length := by omega
      rw [this, List.drop_length] at hr
      show [dI 0] = [dI (fst0 l)]
      rw [hr]; rfl
theorem conWj (a b c : Int) : C5 64 [dI a, dI b, dI c] [.val (.bool (decide (b ≤ a ∧ a ≤ c)))] := by
  refine con_flat hokE mixed Tryz.func64 rfl (by show 0 ≤ 400; omega) rfl (by kernel_rfl) (fun caps => ?_)
  show gWj _ _ a b c _
  rw [gWj_text]
  refine bc_dec (fun h => bc_dec (fun h2 => ?_) (fun h2 => ?_)) (fun h => ?_)
  · show _ = _; rw [decide_eq_true (show b ≤ a ∧ a ≤ c from ⟨h, h2⟩)]
  · show _ = _; rw [decide_eq_false (show ¬ (b ≤ a ∧ a ≤ c) by omega)]
  · show _ = _; rw [decide_eq_false (show ¬ (b ≤ a ∧ a ≤ c) by omega)]
theorem sayWt {a b c : Int} (h : b ≤ a ∧ a ≤ c) : Says C5 64 [dI a, dI b, dI c] [.val (.bool true)] := by
  have := conWj a b c
  rw [decide_eq_true h] at this
  exact ⟨this⟩
theorem sayWf {a b c : Int} (h : ¬ (b ≤ a ∧ a ≤ c)) : Says C5 64 [dI a, dI b, dI c] [.val (.bool false)] := by
  have := conWj a b c
  rw [decide_eq_false h] at this
  exact ⟨this⟩
theorem sayOr {f : FuncId} {args : List D} {b : Bool} {A B : Prop} (h : C5 f args [dB b]) (h1 : b = true → A) (h2 : b = false → B) : (Says C5 f args [.val (.bool true)] ∧ A) ∨ (Says C5 f args [.val (.bool false)] ∧ B) := by
  cases b with
  | true => exact .inl ⟨⟨h⟩, h1 rfl⟩
  | false => exact .inr ⟨⟨h⟩, h2 rfl⟩
theorem coniL (b : UInt8) : C5 59 [.val (.int .u8 (b.toNat : Int))] [dB (isLet b)] := by
  refine con_flat hokP mixed Tryz.func59 rfl (by show 0 ≤ 400; omega) rfl (by kernel_rfl) (fun caps => ?_)
  show giL _ _ (b.toNat : Int) _
  rw [giL_text]
  repeat' refine bc_dec (fun _ => ?_) (fun _ => ?_)
  all_goals first
    | (show [D.val (Value.bool true)] = [dB (isLet b)]; rw [let_t (by omega)])
    | (show [D.val (Value.bool false)] = [dB (isLet b)]; rw [let_f (by omega)])
theorem coniD (b : UInt8) : C5 58 [.val (.int .u8 (b.toNat : Int))] [dB (isDig b)] := by
  refine con_flat hokP mixed Tryz.func58 rfl (by show 0 ≤ 400; omega) rfl (by kernel_rfl) (fun caps => ?_)
  show giD _ _ (b.toNat : Int) _
  rw [giD_text]
  repeat' refine bc_dec (fun _ => ?_) (fun _ => ?_)
  all_goals first
    | (show [D.val (Value.bool true)] = [dB (isDig b)]; rw [dig_t (by omega)])
    | (show [D.val (Value.bool false)] = [dB (isDig b)]; rw [dig_f (by omega)])
theorem conIN (l : List UInt8) : C5 33 [dS l] [dB (nameOK l)] := by
  let inv : Nat → Prop := fun i => goesN l i
  let st : Nat → Slots × Blocks := fun i => zIN1 (bs l) i
  refine con_of (L := fun _ s b => ∃ x, inv x ∧ st x = (s, b)) hokP mixed Tryz.func33 rfl (by show 0 ≤ 400; omega) rfl (ids := [0]) (by kernel_rfl) rfl (fun caps => ?_) (fun id hid => ?_)
  · show gIN _ _ (bs l) _
    rw [gIN_text]
    simp only [bs_size]
    refine bc_dec (fun h => ?_) (fun h => bc_dec (fun h2 => ?_) (fun h2 => ⟨0, goesN_0 (by omega), rfl⟩))
    · show [D.val (Value.bool false)] = [dB (nameOK l)]
      rw [nameOK_len (by omega)]
    · show [D.val (Value.bool false)] = [dB (nameOK l)]
      rw [nameOK_len (by omega)]
  · obtain rfl := List.mem_singleton.1 hid
    refine ⟨Nat, st, inv, fun x => l.length - x, ⟨fun s b h => h, by kernel_rfl, ?_⟩⟩
    intro i hg
    have hb := hg.1
    have h12 := hg.2.1
    show rIN1 _ _ (bs l) i _ _ _
    rw [rIN1_text]
    simp only [bs_size]
    refine bc_dec (fun h => ?_) (fun h => ?_)
    · have hi : i < l.length := by omega
      simp only [bc_t (show (0 : Int) ≤ (i : Int) by omega), Int.toNat_natCast, byte1 (List.getElem?_eq_getElem hi), wi1 hi (by omega)]
      have good : nameC l[i] = true → (i = 0 → isLet l[i] = true) → ∃ x, inv x ∧ l.length - x < l.length - i ∧ st x = ([(0, Value.string (bs l)), (3, .int .i64 ((i + 1 : Nat) : Int))], []) := fun hc h0 =>
        ⟨i + 1, goesN_step hg hi hc h0, by omega, rfl⟩
      repeat' first
        | refine bc_dec (fun _ => ?_) (fun _ => ?_)
        | refine bc_beq (fun _ => ?_) (fun _ => ?_)
        | refine bc_bne (fun _ => ?_) (fun _ => ?_)
      all_goals first
        | exact good (name_t (by omega)) (fun _ => let_t (by omega))
        | exact good (name_t (by omega)) (fun h0 => absurd h0 (by omega))
        | (show [D.val (Value.bool false)] = [dB (nameOK l)]; rw [goesN_bad hg hi (name_f (by omega))])
        | (show [D.val (Value.bool false)] = [dB (nameOK l)]; rw [goesN_first hi (by omega) (let_f (by omega))])
    · show nIN2 _ _ _
      rw [nIN2_text]
      show [D.val (Value.bool true)] = [dB (nameOK l)]
      rw [goesN_end hg (by omega)]
def lowP (n d : Int) : Prop := 0 < d ∧ Int.gcd n d = 1
instance (n d : Int) : Decidable (lowP n d) := by unfold lowP; infer_instance
theorem v5le (l : List Fv) : 0 + l.length * 5 ≤ (vs5 l).length := by simp
theorem v5_whole (l : List Fv) : List.take (l.length * 5) (List.drop 0 (vs5 l)) = vs5 l := by simp [List.take_of_length_le]
theorem coniN (l : List UInt8) : C5 24 [dS l] [dB (nameOK l)] := by
  let inv : Nat → Prop := fun i => goesN l i ∧ l.head?.any isLet = true
  let st : Nat → Slots × Blocks := fun i => ziN1 (bs l) l.length i
  refine con_of (L := fun _ s b => ∃ x, inv x ∧ st x = (s, b)) hokP mixed Tryz.func24 rfl (by show 0 ≤ 400; omega) rfl (ids := [0]) (by kernel_rfl) rfl (fun caps => ?_) (fun id hid => ?_)
  · show giN _ _ (bs l) _
    rw [giN_text]
    simp only [bs_size]
    refine bc_beq (fun h => ?_) (fun h => bc_dec (fun h2 => ?_) (fun h2 => ?_))
    · show [dB false] = [dB (nameOK l)]
      rw [nameOK_len (by omega)]
    · show [dB false] = [dB (nameOK l)]
      rw [nameOK_len (by omega)]
    · have hl : 0 < l.length := by omega
      simp only [byte1 (List.getElem?_eq_getElem hl)]
      refine sayOr (coniL _) (fun h3 => ⟨0, ⟨goesN_0 (by omega), ?_⟩, rfl⟩) (fun h3 => ?_)
      · rw [head_of hl]; simpa using h3
      · show [dB false] = [dB (nameOK l)]
        rw [nameOK_head hl h3]
  · obtain rfl := List.mem_singleton.1 hid
    refine ⟨Nat, st, inv, fun x => l.length - x, ⟨fun s b h => h, by kernel_rfl, ?_⟩⟩
    rintro i ⟨hg, hh⟩
    have hb := hg.1
    have h12 := hg.2.1
    show riN1 _ _ (bs l) l.length i _ _ _
    rw [riN1_text]
    refine bc_dec (fun h => ?_) (fun h => ?_)
    · have hi : i < l.length := by omega
      have h0 : i = 0 → isLet l[i] = true := by
        rintro rfl
        rw [head_of hi] at hh; simpa using hh
      simp only [bc_t (show (0 : Int) ≤ (i : Int) by omega), Int.toNat_natCast, byte1 (List.getElem?_eq_getElem hi), wi1 hi (by omega)]
      have good : nameC l[i] = true → ∃ x, inv x ∧ l.length - x < l.length - i ∧ st x = ([(0, Value.string (bs l)), (19, .int .i64 (l.length : Int)), (20, .int .i64 ((i + 1 : Nat) : Int))], []) := fun hc =>
        ⟨i + 1, ⟨goesN_step hg hi hc h0, hh⟩, by omega, rfl⟩
      refine sayOr (coniL _) (fun h1 => good (by unfold nameC; rw [h1]; rfl)) (fun h1 => ?_)
      refine sayOr (coniD _) (fun h2 => good (by unfold nameC; rw [h2]; simp)) (fun h2 => ?_)
      refine bc_bne (fun h3 => ?_) (fun h3 => good (by unfold nameC; rw [show l[i].toNat = 45 by omega]; simp))
      show [dB false] = [dB (nameOK l)]
      rw [goesN_bad hg hi (by unfold nameC; rw [h1, h2]; simp; omega)]
    · show (if 0 = 0 then _ else _)
      rw [if_pos rfl]
      show niN2 _ _ _
      rw [niN2_text]
      show [dB true] = [dB (nameOK l)]
      rw [goesN_end hg (by omega)]
theorem conlT (n d : Int) (hn : -4611686018427387904 ≤ n ∧ n ≤ 4611686018427387904) (hd : 0 < d ∧ d ≤ 4611686018427387904) : C5 51 [dI n, dI d] [.agg [dI (low n d).1, dI (low n d).2]] := by
  have hg := gcd_pos (a := n) (b := d) (.inr (by omega))
  let inv : Int × Int → Prop := fun x => 0 ≤ x.1 ∧ 0 ≤ x.2 ∧ Int.gcd x.1 x.2 = Int.gcd n d
  let st : Int × Int → Slots × Blocks := fun x => zlT1 n d x.1 x.2 0 0
  refine con_of (L := fun _ s b => ∃ x, inv x ∧ st x = (s, b)) hokP mixed Tryz.func51 rfl (by show 0 ≤ 400; omega) rfl (ids := [0]) (by kernel_rfl) rfl (fun caps => ?_) (fun id hid => ?_)
  · show glT _ _ n d _
    rw [glT_text, w64 (by omega) (by omega)]
    refine ⟨(if 0 - n > n then 0 - n else n, d), ⟨by show 0 ≤ (if 0 - n > n then 0 - n else n); split <;> omega, by show 0 ≤ d; omega, ?_⟩, rfl⟩
    show Int.gcd (if 0 - n > n then 0 - n else n) d = _
    split
    · rw [show (0 : Int) - n = -n by omega, Int.neg_gcd]
    · rfl
  · obtain rfl := List.mem_singleton.1 hid
    refine ⟨Int × Int, st, inv, fun x => x.2.natAbs, ⟨fun s b h => h, by kernel_rfl, ?_⟩⟩
    rintro ⟨x, y⟩ ⟨hx, hy, hgx⟩
    simp only at hx hy hgx
    show rlT1 _ _ n d x y 0 0 _ _ _
    rw [rlT1_text]
    refine bc_dec (fun h => ?_) (fun h => ?_)
    · have hne : y ≠ 0 := by omega
      simp only [bc_n hne, true_and, and_true]
      have hlt := gcd_step_lt (a := x) hne
      have hst := gcd_step x y
      exact ⟨(y, x.tmod y), ⟨hy, Int.tmod_nonneg _ hx, by show Int.gcd y (x.tmod y) = _; omega⟩, hlt, rfl⟩
    · show (if 0 = 0 then _ else _)
      rw [if_pos rfl]
      show nlT2 _ _ n d x 0 0 _
      obtain rfl : y = 0 := by omega
      have he := gcd_end x
      rw [if_neg (by omega)] at he
      rw [nlT2_text]
      obtain rfl : x = (Int.gcd n d : Nat) := by omega
      have hne : ((Int.gcd n d : Nat) : Int) ≠ 0 := by omega
      simp only [bc_n hne, true_and, and_true]
      have b1 := tdiv_small (n := n) (g := Int.gcd n d) (by omega) hg
      have b2 := tdiv_small (n := d) (g := Int.gcd n d) (by omega) hg
      rw [w64 (by omega) (by omega), w64 (by omega) (by omega)]
      show [D.agg _] = [D.agg _]
      rw [low, if_neg (by omega)]
end Go.Proofs.G5m

/- Chapter 3: what rules and schedules are valid, in data. -/
namespace Go.Proofs.G5m
open Go Go.Abs Go.Proofs Go.Str
set_option maxRecDepth 100000
/-- rules: the stands are radius, force, torque, and the two ends of the loss -/
structure Ru where
  w : Int
  st : Int
  fi : Int
  hlo : Int
  hhi : Int
  co : Int
  ss : List Fv
  slo : Int
  shi : Int
  flo : Int
  fhi : Int
abbrev Ru.d (r : Ru) : D := .agg [dI r.w, dI r.st, dI r.fi, dI r.hlo, dI r.hhi, dI r.co, .sl r.ss.length 5 (vs5 r.ss), dI r.slo, dI r.shi, dI r.flo, dI r.fhi]
abbrev Ru.dn (r : Ru) : D := .agg [dI r.w, dI r.st, dI r.fi, dI r.hlo, dI r.hhi, dI r.co, .nil, dI r.slo, dI r.shi, dI r.flo, dI r.fhi]
def wE (lo hi : Int) : List Int → Int
  | [] => 0
  | x :: r => if x < lo ∨ x > hi then 2 else wE lo hi r
def eE : List (Int × Int) → Int
  | [] => 0
  | p :: r => if p.1 > p.2 then 9 else eE r
def cntE (n : Nat) : Int := if n = 0 then 10 else if n > 6 then 8 else 0
def rngB (r : Ru) : Prop := (1 ≤ r.w ∧ r.w ≤ 2500) ∧ ((1 ≤ r.st ∧ r.st ≤ 1000) ∧ 1 ≤ r.fi ∧ r.fi ≤ 1000) ∧ ((0 ≤ r.hlo ∧ r.hlo ≤ 20000) ∧ (0 ≤ r.hhi ∧ r.hhi ≤ 20000) ∧ 0 ≤ r.co ∧ r.co ≤ 20000) ∧ ((1 ≤ r.slo ∧ r.slo ≤ 100) ∧ 1 ≤ r.shi ∧ r.shi ≤ 100) ∧ (0 ≤ r.flo ∧ r.flo ≤ 100) ∧ 0 ≤ r.fhi ∧ r.fhi ≤ 100
def ordB (r : Ru) : Prop := r.fi ≤ r.st ∧ r.hlo ≤ r.hhi ∧ r.slo ≤ r.shi ∧ r.flo ≤ r.fhi
instance (r : Ru) : Decidable (rngB r) := by unfold rngB; infer_instance
instance (r : Ru) : Decidable (ordB r) := by unfold ordB; infer_instance
def headE (r : Ru) : Int := if rngB r then if ordB r then cntE r.ss.length else 9 else 2
def stB (s : Fv) : Prop := (1 ≤ s.a ∧ s.a ≤ 1000) ∧ ((0 ≤ s.b ∧ s.b ≤ 1000000000000) ∧ 0 ≤ s.c ∧ s.c ≤ 1000000000000) ∧ (0 ≤ s.d ∧ s.d ≤ 1000) ∧ 0 ≤ s.e ∧ s.e ≤ 1000
instance (s : Fv) : Decidable (stB s) := by unfold stB; infer_instance
def stE (s : Fv) : Int := if stB s then if s.d ≤ s.e then 0 else 9 else 2
def stsE : Int → List Fv → Int × Int
  | _, [] => (0, 0)
  | i, s :: r => if stE s = 0 then stsE (i + 1) r else (i, stE s)
def chk (r : Ru) : Int × Int := if headE r = 0 then stsE 0 r.ss else (0, headE r)
theorem fst0_z (r : List Int) : fst0 (0 :: r) = fst0 r := by rw [fst0, if_pos rfl]
theorem fst0_n {a : Int} (h : a ≠ 0) (r : List Int) : fst0 (a :: r) = a := by rw [fst0, if_neg h]
theorem wE1 (lo hi a : Int) : wE lo hi [a] = if lo ≤ a ∧ a ≤ hi then 0 else 2 := by
  simp only [wE]; split <;> split <;> first | rfl | omega
theorem wE2 (lo hi a b : Int) : wE lo hi [a, b] = if (lo ≤ a ∧ a ≤ hi) ∧ lo ≤ b ∧ b ≤ hi then 0 else 2 := by
  simp only [wE]; repeat' split
  all_goals first | rfl | omega
theorem wE3 (lo hi a b c : Int) : wE lo hi [a, b, c] = if (lo ≤ a ∧ a ≤ hi) ∧ (lo ≤ b ∧ b ≤ hi) ∧ lo ≤ c ∧ c ≤ hi then 0 else 2 := by
  simp only [wE]; repeat' split
  all_goals first | rfl | omega
theorem eE1 (a b : Int) : eE [(a, b)] = if a ≤ b then 0 else 9 := by
  simp only [eE]; repeat' split
  all_goals first | rfl | omega
theorem eE4 (a b c d e f g h : Int) : eE [(a, b), (c, d), (e, f), (g, h)] = if a ≤ b ∧ c ≤ d ∧ e ≤ f ∧ g ≤ h then 0 else 9 := by
  simp only [eE]; repeat' split
  all_goals first | rfl | omega
theorem headE_eq (r : Ru) : fst0 [wE 1 2500 [r.w], wE 1 1000 [r.st, r.fi], wE 0 20000 [r.hlo, r.hhi, r.co], wE 1 100 [r.slo, r.shi], wE 0 100 [r.flo, r.fhi], eE [(r.fi, r.st), (r.hlo, r.hhi), (r.slo, r.shi), (r.flo, r.fhi)], cntE r.ss.length] = headE r := by
  rw [wE1, wE2, wE3, wE2, wE2, eE4]
  have two : ∀ {c : Prop} [Decidable c] (l : List Int) , ¬ c → fst0 ((if c then 0 else 2) :: l) = 2 := fun l h => by rw [if_neg h]; rfl
  have bad : ¬ rngB r → headE r = 2 := fun h => by rw [headE, if_neg h]
  by_cases h1 : 1 ≤ r.w ∧ r.w ≤ 2500
  · rw [if_pos h1, fst0_z]
    by_cases h2 : (1 ≤ r.st ∧ r.st ≤ 1000) ∧ 1 ≤ r.fi ∧ r.fi ≤ 1000
    · rw [if_pos h2, fst0_z]
      by_cases h3 : (0 ≤ r.hlo ∧ r.hlo ≤ 20000) ∧ (0 ≤ r.hhi ∧ r.hhi ≤ 20000) ∧ 0 ≤ r.co ∧ r.co ≤ 20000
      · rw [if_pos h3, fst0_z]
        by_cases h4 : (1 ≤ r.slo ∧ r.slo ≤ 100) ∧ 1 ≤ r.shi ∧ r.shi ≤ 100
        · rw [if_pos h4, fst0_z]
          by_cases h5 : (0 ≤ r.flo ∧ r.flo ≤ 100) ∧ 0 ≤ r.fhi ∧ r.fhi ≤ 100
          · rw [if_pos h5, fst0_z, headE, if_pos (show rngB r from ⟨h1, h2, h3, h4, h5⟩)]
            by_cases h6 : r.fi ≤ r.st ∧ r.hlo ≤ r.hhi ∧ r.slo ≤ r.shi ∧ r.flo ≤ r.fhi
            · rw [if_pos h6, fst0_z, if_pos (show ordB r from h6)]
              by_cases h7 : cntE r.ss.length = 0
              · rw [h7]; rfl
              · rw [fst0_n h7]
            · rw [if_neg h6, if_neg (show ¬ ordB r from h6)]; rfl
          · rw [two _ h5, bad (fun h => h5 h.2.2.2.2)]
        · rw [two _ h4, bad (fun h => h4 h.2.2.2.1)]
      · rw [two _ h3, bad (fun h => h3 h.2.2.1)]
    · rw [two _ h2, bad (fun h => h2 h.2.1)]
  · rw [two _ h1, bad (fun h => h1 h.1)]
theorem stE_eq (s : Fv) : fst0 [wE 1 1000 [s.a], wE 0 1000000000000 [s.b, s.c], wE 0 1000 [s.d, s.e], eE [(s.d, s.e)]] = stE s := by
  rw [wE1, wE2, wE2, eE1]
  have two : ∀ {c : Prop} [Decidable c] (l : List Int) , ¬ c → fst0 ((if c then 0 else 2) :: l) = 2 := fun l h => by rw [if_neg h]; rfl
  have bad : ¬ stB s → stE s = 2 := fun h => by rw [stE, if_neg h]
  by_cases h1 : 1 ≤ s.a ∧ s.a ≤ 1000
  · rw [if_pos h1, fst0_z]
    by_cases h2 : (0 ≤ s.b ∧ s.b ≤ 1000000000000) ∧ 0 ≤ s.c ∧ s.c ≤ 1000000000000
    · rw [if_pos h2, fst0_z]
      by_cases h3 : (0 ≤ s.d ∧ s.d ≤ 1000) ∧ 0 ≤ s.e ∧ s.e ≤ 1000
      · rw [if_pos h3, fst0_z, stE, if_pos (show stB s from ⟨h1, h2, h3⟩)]
        by_cases h4 : s.d ≤ s.e
        · rw [if_pos h4]; rfl
        · rw [if_neg h4]; rfl
      · rw [two _ h3, bad (fun h => h3 h.2.2)]
    · rw [two _ h2, bad (fun h => h2 h.2.1)]
  · rw [two _ h1, bad (fun h => h1 h.1)]
theorem wE_drop {lo hi : Int} (l : List Int) (i : Nat) (h : i < l.length) : wE lo hi (l.drop i) = if l[i] < lo ∨ l[i] > hi then 2 else wE lo hi (l.drop (i + 1)) := by
  rw [List.drop_eq_getElem_cons h]; rfl
theorem conCW (lo hi : Int) (l : List Int) (hlen : l.length < 1000000000) : C5 48 [dI lo, dI hi, .sl l.length 1 (vi l)] [dI (wE lo hi l)] := by
  let inv : Nat × Nat → Prop := fun x => x.1 ≤ l.length ∧ wE lo hi l = wE lo hi (l.drop x.1)
  let st : Nat × Nat → Slots × Blocks := fun x => zCW1 lo hi l.length x.2 l.length x.1 (vi l)
  refine con_of (L := fun _ s b => ∃ x, inv x ∧ st x = (s, b)) hokE mixed Tryz.func48 rfl (by show 1 ≤ 400; omega) rfl (ids := [0]) (by kernel_rfl) rfl (fun caps => ?_) (fun id hid => ?_)
  · show gCW _ _ lo hi l.length (caps 500) (vi l) _
    rw [gCW_text]
    exact ⟨(0, caps 500), ⟨by simp, rfl⟩, rfl⟩
  · obtain rfl := List.mem_singleton.1 hid
    refine ⟨Nat × Nat, st, inv, fun x => l.length - x.1, ⟨fun s b h => h, by kernel_rfl, ?_⟩⟩
    rintro ⟨i, cap⟩ ⟨hi', hr⟩
    simp only at hi' hr
    show rCW1 _ _ lo hi l.length cap l.length i (vi l) _ _ _
    rw [rCW1_text]
    refine bc_dec (fun h => ?_) (fun h => ?_)
    · have hi2 : i < l.length := by omega
      rw [wE_drop l i hi2] at hr
      simp only [bc_t h, bc_t (show (0 : Int) ≤ (i : Int) by omega), Int.toNat_natCast, at1 (vi_at l i hi2)]
      refine bc_dec (fun h1 => ?_) (fun h1 => bc_dec (fun h2 => ?_) (fun h2 => ?_))
      · rw [if_pos (.inl h1)] at hr; show [dI 2] = _; rw [hr]
      · rw [if_pos (.inr h2)] at hr; show [dI 2] = _; rw [hr]
      · rw [if_neg (by omega)] at hr
        refine ⟨(i + 1, cap), ⟨hi2, hr⟩, by show l.length - (i + 1) < l.length - i; omega, ?_⟩
        rw [w64 (by omega) (by omega)]; rfl
    · show (if 0 = 0 then _ else _)
      rw [if_pos rfl]
      show nCW2 _ _ _
      rw [nCW2_text]
      have : i = l.length := by omega
      rw [this, List.drop_length] at hr
      show [dI 0] = _
      rw [hr]; rfl
theorem eE_drop (l : List (Int × Int)) (i : Nat) (h : i < l.length) : eE (l.drop i) = if l[i].1 > l[i].2 then 9 else eE (l.drop (i + 1)) := by
  rw [List.drop_eq_getElem_cons h]; rfl
theorem conCN (l : List (Int × Int)) (hlen : l.length < 1000000000) : C5 60 [.sl l.length 2 (vp l)] [dI (eE l)] := by
  let inv : Nat × Nat → Prop := fun x => x.1 ≤ l.length ∧ eE l = eE (l.drop x.1)
  let st : Nat × Nat → Slots × Blocks := fun x => zCN1 l.length x.2 l.length x.1 (vp l)
  refine con_of (L := fun _ s b => ∃ x, inv x ∧ st x = (s, b)) hokE mixed Tryz.func60 rfl (by show 1 ≤ 400; omega) rfl (ids := [0]) (by kernel_rfl) rfl (fun caps => ?_) (fun id hid => ?_)
  · show gCN _ _ l.length (caps 500) (vp l) _
    rw [gCN_text]
    exact ⟨(0, caps 500), ⟨by simp, rfl⟩, rfl⟩
  · obtain rfl := List.mem_singleton.1 hid
    refine ⟨Nat × Nat, st, inv, fun x => l.length - x.1, ⟨fun s b h => h, by kernel_rfl, ?_⟩⟩
    rintro ⟨i, cap⟩ ⟨hi', hr⟩
    simp only at hi' hr
    show rCN1 _ _ l.length cap l.length i (vp l) _ _ _
    rw [rCN1_text]
    refine bc_dec (fun h => ?_) (fun h => ?_)
    · have hi2 : i < l.length := by omega
      rw [eE_drop l i hi2] at hr
      simp only [bc_t h, bc_t (show (0 : Int) ≤ (i : Int) by omega), Int.toNat_natCast, at2 (vp_two l i hi2)]
      refine bc_dec (fun h1 => ?_) (fun h1 => ?_)
      · rw [if_pos h1] at hr; show [dI 9] = _; rw [hr]
      · rw [if_neg h1] at hr
        refine ⟨(i + 1, cap), ⟨hi2, hr⟩, by show l.length - (i + 1) < l.length - i; omega, ?_⟩
        rw [w64 (by omega) (by omega)]; rfl
    · show (if 0 = 0 then _ else _)
      rw [if_pos rfl]
      show nCN2 _ _ _
      rw [nCN2_text]
      have : i = l.length := by omega
      rw [this, List.drop_length] at hr
      show [dI 0] = _
      rw [hr]; rfl
theorem conCC (l : List Fv) : C5 61 [.sl l.length 5 (vs5 l)] [dI (cntE l.length)] := by
  refine con_flat hokE mixed Tryz.func61 rfl (by show 1 ≤ 400; omega) rfl (by kernel_rfl) (fun caps => ?_)
  show gCC _ _ l.length (caps 500) (vs5 l) _
  rw [gCC_text]; unfold cntE
  refine bc_beq (fun h => ?_) (fun h => bc_dec (fun h2 => ?_) (fun h2 => ?_))
  · show _ = _; rw [if_pos (by omega)]
  · show _ = _; rw [if_neg (by omega), if_pos (by omega)]
  · show _ = _; rw [if_neg (by omega), if_neg (by omega)]
theorem conCS (s : Fv) : C5 62 [.agg [dI s.a, dI s.b, dI s.c, dI s.d, dI s.e]] [dI (stE s)] := by
  refine con_flat hokP mixed Tryz.func62 rfl (by show 0 ≤ 400; omega) rfl (by kernel_rfl) (fun caps => ?_)
  show gCS _ _ s.a s.b s.c s.d s.e _
  rw [gCS_text]
  simp only [Qv, eq_self, true_and, and_true]
  refine ⟨_, ⟨conCW 1 1000 [s.a] (by simp)⟩, _, ⟨conCW 0 1000000000000 [s.b, s.c] (by simp)⟩, _, ⟨conCW 0 1000 [s.d, s.e] (by simp)⟩, _, ⟨conCN [(s.d, s.e)] (by simp)⟩, _, ⟨conFE [_, _, _, _] (by simp)⟩, ?_⟩
  show [dI _] = [dI _]
  rw [stE_eq]
theorem conCT (h : Int) : C5 26 [dI h] [dI (wE 1 1000 [h])] := by
  refine con_flat hokP mixed Tryz.func26 rfl (by show 0 ≤ 400; omega) rfl (by kernel_rfl) (fun caps => ?_)
  show gCT _ _ h _
  rw [gCT_text]
  exact ⟨_, ⟨conCW 1 1000 [h] (by simp)⟩, rfl⟩
theorem stsE_drop (l : List Fv) (i : Nat) (h : i < l.length) : stsE i (l.drop i) = if stE l[i] = 0 then stsE ((i + 1 : Nat) : Int) (l.drop (i + 1)) else ((i : Int), stE l[i]) := by
  rw [List.drop_eq_getElem_cons h]; rfl
theorem conKR (r : Ru) (hlen : r.ss.length < 1000000000) : C5 30 [r.d] [dI (chk r).1, dI (chk r).2] := by
  let inv : Nat × Nat → Prop := fun x => x.1 ≤ r.ss.length ∧ chk r = stsE x.1 (r.ss.drop x.1)
  let st : Nat × Nat → Slots × Blocks := fun x => zKR1 r.ss.length x.2 r.ss.length x.1 (vs5 r.ss)
  refine con_of (L := fun _ s b => ∃ x, inv x ∧ st x = (s, b)) hokP mixed Tryz.func30 rfl (by show 1 ≤ 400; omega) rfl (ids := [0]) (by kernel_rfl) rfl (fun caps => ?_) (fun id hid => ?_)
  · show gKR _ _ r.w r.st r.fi r.hlo r.hhi r.co r.ss.length (caps 500) (vs5 r.ss) r.slo r.shi r.flo r.fhi _
    rw [gKR_text]
    simp only [Qv, eq_self, true_and, and_true]
    refine ⟨_, ⟨conCW 1 2500 [r.w] (by simp)⟩, _, ⟨conCW 1 1000 [r.st, r.fi] (by simp)⟩, _, ⟨conCW 0 20000 [r.hlo, r.hhi, r.co] (by simp)⟩, _, ⟨conCW 1 100 [r.slo, r.shi] (by simp)⟩, _, ⟨conCW 0 100 [r.flo, r.fhi] (by simp)⟩, _, ⟨conCN [(r.fi, r.st), (r.hlo, r.hhi), (r.slo, r.shi), (r.flo, r.fhi)] (by simp)⟩, ?_⟩
    rw [bc_t (v5le r.ss), v5_whole]
    refine ⟨_, ⟨conCC r.ss⟩, _, ⟨conFE [_, _, _, _, _, _, _] (by simp)⟩, ?_⟩
    rw [headE_eq]
    refine bc_bne (fun h => ?_) (fun h => ⟨(0, caps 500), ⟨Nat.zero_le _, by rw [chk, if_pos h]; rfl⟩, rfl⟩)
    show [dI 0, dI (headE r)] = _
    rw [chk, if_neg h]
  · obtain rfl := List.mem_singleton.1 hid
    refine ⟨Nat × Nat, st, inv, fun x => r.ss.length - x.1, ⟨fun s b h => h, by kernel_rfl, ?_⟩⟩
    rintro ⟨i, cap⟩ ⟨hi', hr⟩
    simp only at hi' hr
    show rKR1 _ _ r.ss.length cap r.ss.length i (vs5 r.ss) _ _ _
    rw [rKR1_text]
    refine bc_dec (fun h => ?_) (fun h => ?_)
    · have hi2 : i < r.ss.length := by omega
      rw [stsE_drop r.ss i hi2] at hr
      simp only [bc_t h, bc_t (show (0 : Int) ≤ (i : Int) by omega), Int.toNat_natCast, at5 (vs5_all r.ss i hi2)]
      refine ⟨_, ⟨conCS r.ss[i]⟩, bc_bne (fun h1 => ?_) (fun h1 => ?_)⟩
      · rw [if_neg h1] at hr; show [dI (i : Int), dI (stE _)] = _; rw [hr]
      · rw [if_pos h1] at hr
        refine ⟨(i + 1, cap), ⟨hi2, hr⟩, by show r.ss.length - (i + 1) < r.ss.length - i; omega, ?_⟩
        rw [w64 (by omega) (by omega)]; rfl
    · show (if 0 = 0 then _ else _)
      rw [if_pos rfl]
      show nKR2 _ _ _
      rw [nKR2_text]
      have : i = r.ss.length := by omega
      rw [this, List.drop_length] at hr
      show [dI 0, dI 0] = _
      rw [hr]; rfl
abbrev scD (nm : List UInt8) (th : List Int) : D := .agg [dS nm, .sl th.length 1 (vi th)]
end Go.Proofs.G5m

/- Chapter 3: the reference's checks, in data. -/
namespace Go.Proofs.G5m
open Go Go.Abs Go.Proofs Go.Str
set_option maxRecDepth 100000
theorem sayW {a b c : Int} {A B : Prop} (h1 : b ≤ a ∧ a ≤ c → A) (h2 : ¬ (b ≤ a ∧ a ≤ c) → B) : (Says C5 64 [dI a, dI b, dI c] [.val (.bool true)] ∧ A) ∨ (Says C5 64 [dI a, dI b, dI c] [.val (.bool false)] ∧ B) := by
  by_cases h : b ≤ a ∧ a ≤ c
  · exact .inl ⟨sayWt h, h1 h⟩
  · exact .inr ⟨sayWf h, h2 h⟩
theorem chk_rng {r : Ru} (h : ¬ rngB r) : chk r = (0, 2) := by
  have : headE r = 2 := by rw [headE, if_neg h]
  rw [chk, this]; rfl
theorem chk_ord {r : Ru} (h1 : rngB r) (h2 : ¬ ordB r) : chk r = (0, 9) := by
  have : headE r = 9 := by rw [headE, if_pos h1, if_neg h2]
  rw [chk, this]; rfl
theorem chk_cnt {r : Ru} (h1 : rngB r) (h2 : ordB r) : chk r = if cntE r.ss.length = 0 then stsE 0 r.ss else (0, cntE r.ss.length) := by
  rw [chk, headE, if_pos h1, if_pos h2]
theorem conRK (r : Ru) (hlen : r.ss.length < 1000000000) : C5 65 [r.d] [dI (chk r).1, dI (chk r).2] := by
  let inv : Nat × Nat → Prop := fun x => x.1 ≤ r.ss.length ∧ chk r = stsE x.1 (r.ss.drop x.1)
  let st : Nat × Nat → Slots × Blocks := fun x => zRK1 x.1 r.w r.st r.fi r.hlo r.hhi r.co r.ss.length x.2 r.slo r.shi r.flo r.fhi (vs5 r.ss)
  refine con_of (L := fun _ s b => ∃ x, inv x ∧ st x = (s, b)) hokP mixed Tryz.func65 rfl (by show 1 ≤ 400; omega) rfl (ids := [0]) (by kernel_rfl) rfl (fun caps => ?_) (fun id hid => ?_)
  · show gRK _ _ r.w r.st r.fi r.hlo r.hhi r.co r.ss.length (caps 500) (vs5 r.ss) r.slo r.shi r.flo r.fhi _
    rw [gRK_text]
    have bad : ¬ rngB r → [dI 0, dI 2] = [dI (chk r).1, dI (chk r).2] := fun h => by rw [chk_rng h]
    refine sayW (fun h1 => ?_) (fun h1 => bad (fun h => h1 h.1))
    refine sayW (fun h2 => ?_) (fun h2 => bad (fun h => h2 h.2.1.1))
    refine sayW (fun h3 => ?_) (fun h3 => bad (fun h => h3 h.2.1.2))
    refine sayW (fun h4 => ?_) (fun h4 => bad (fun h => h4 h.2.2.1.1))
    refine sayW (fun h5 => ?_) (fun h5 => bad (fun h => h5 h.2.2.1.2.1))
    refine sayW (fun h6 => ?_) (fun h6 => bad (fun h => h6 h.2.2.1.2.2))
    refine sayW (fun h7 => ?_) (fun h7 => bad (fun h => h7 h.2.2.2.1.1))
    refine sayW (fun h8 => ?_) (fun h8 => bad (fun h => h8 h.2.2.2.1.2))
    refine sayW (fun h9 => ?_) (fun h9 => bad (fun h => h9 h.2.2.2.2.1))
    refine sayW (fun h10 => ?_) (fun h10 => bad (fun h => h10 h.2.2.2.2.2))
    have hr : rngB r := ⟨h1, ⟨h2, h3⟩, ⟨h4, h5, h6⟩, ⟨h7, h8⟩, h9, h10⟩
    have bad2 : ¬ ordB r → [dI 0, dI 9] = [dI (chk r).1, dI (chk r).2] := fun h => by rw [chk_ord hr h]
    refine bc_dec (fun g1 => bad2 (fun h => by have := h.1; omega)) (fun g1 => ?_)
    refine bc_dec (fun g2 => bad2 (fun h => by have := h.2.1; omega)) (fun g2 => ?_)
    refine bc_dec (fun g3 => bad2 (fun h => by have := h.2.2.1; omega)) (fun g3 => ?_)
    refine bc_dec (fun g4 => bad2 (fun h => by have := h.2.2.2; omega)) (fun g4 => ?_)
    have ho : ordB r := ⟨by omega, by omega, by omega, by omega⟩
    have hc := chk_cnt hr ho
    refine bc_beq (fun g5 => ?_) (fun g5 => bc_dec (fun g6 => ?_) (fun g6 => ?_))
    · have e : cntE r.ss.length = 10 := by rw [cntE, if_pos (by omega)]
      rw [hc, e]; rfl
    · have e : cntE r.ss.length = 8 := by rw [cntE, if_neg (by omega), if_pos (by omega)]
      rw [hc, e]; rfl
    · have e : cntE r.ss.length = 0 := by rw [cntE, if_neg (by omega), if_neg (by omega)]
      exact ⟨(0, caps 500), ⟨Nat.zero_le _, by rw [hc, e]; rfl⟩, rfl⟩
  · obtain rfl := List.mem_singleton.1 hid
    refine ⟨Nat × Nat, st, inv, fun x => r.ss.length - x.1, ⟨fun s b h => h, by kernel_rfl, ?_⟩⟩
    rintro ⟨i, cap⟩ ⟨hi', hr⟩
    simp only at hi' hr
    show rRK1 _ _ i r.w r.st r.fi r.hlo r.hhi r.co r.ss.length cap r.slo r.shi r.flo r.fhi (vs5 r.ss) _ _ _
    rw [rRK1_text]
    refine bc_dec (fun h => ?_) (fun h => ?_)
    · have hi2 : i < r.ss.length := by omega
      rw [stsE_drop r.ss i hi2] at hr
      simp only [bc_t h, bc_t (show (0 : Int) ≤ (i : Int) by omega), Int.toNat_natCast, at5 (vs5_all r.ss i hi2)]
      have bad : ¬ stB r.ss[i] → [dI (i : Int), dI 2] = [dI (chk r).1, dI (chk r).2] := fun h => by
        have e : stE r.ss[i] = 2 := by rw [stE, if_neg h]
        rw [e, if_neg (by omega)] at hr; rw [hr]
      refine sayW (fun h1 => ?_) (fun h1 => bad (fun h => h1 h.1))
      refine sayW (fun h2 => ?_) (fun h2 => bad (fun h => h2 h.2.1.1))
      refine sayW (fun h3 => ?_) (fun h3 => bad (fun h => h3 h.2.1.2))
      refine sayW (fun h4 => ?_) (fun h4 => bad (fun h => h4 h.2.2.1))
      refine sayW (fun h5 => ?_) (fun h5 => bad (fun h => h5 h.2.2.2))
      have hb : stB r.ss[i] := ⟨h1, ⟨h2, h3⟩, h4, h5⟩
      refine bc_dec (fun h6 => ?_) (fun h6 => ?_)
      · have e : stE r.ss[i] = 9 := by rw [stE, if_pos hb, if_neg (by omega)]
        rw [e, if_neg (by omega)] at hr
        show [dI (i : Int), dI 9] = _
        rw [hr]
      · have e : stE r.ss[i] = 0 := by rw [stE, if_pos hb, if_pos (by omega)]
        rw [if_pos e] at hr
        refine ⟨(i + 1, cap), ⟨hi2, hr⟩, by show r.ss.length - (i + 1) < r.ss.length - i; omega, ?_⟩
        rw [w64 (by omega) (by omega)]; rfl
    · show (if 0 = 0 then _ else _)
      rw [if_pos rfl]
      show nRK2 _ _ _
      rw [nRK2_text]
      have : i = r.ss.length := by omega
      rw [this, List.drop_length] at hr
      show [dI 0, dI 0] = _
      rw [hr]; rfl
theorem conRKn (r : Ru) (hnil : r.ss = []) : C5 65 [r.dn] [dI (chk r).1, dI (chk r).2] := by
  refine con_of (L := fun _ s b => False) hokP mixed Tryz.func65 rfl (by show 0 ≤ 400; omega) rfl (ids := [0]) (by kernel_rfl) rfl (fun caps => ?_) (fun id hid => ?_)
  · show gRKn _ _ r.w r.st r.fi r.hlo r.hhi r.co r.slo r.shi r.flo r.fhi _
    rw [gRKn_text]
    have bad : ¬ rngB r → [dI 0, dI 2] = [dI (chk r).1, dI (chk r).2] := fun h => by rw [chk_rng h]
    refine sayW (fun h1 => ?_) (fun h1 => bad (fun h => h1 h.1))
    refine sayW (fun h2 => ?_) (fun h2 => bad (fun h => h2 h.2.1.1))
    refine sayW (fun h3 => ?_) (fun h3 => bad (fun h => h3 h.2.1.2))
    refine sayW (fun h4 => ?_) (fun h4 => bad (fun h => h4 h.2.2.1.1))
    refine sayW (fun h5 => ?_) (fun h5 => bad (fun h => h5 h.2.2.1.2.1))
    refine sayW (fun h6 => ?_) (fun h6 => bad (fun h => h6 h.2.2.1.2.2))
    refine sayW (fun h7 => ?_) (fun h7 => bad (fun h => h7 h.2.2.2.1.1))
    refine sayW (fun h8 => ?_) (fun h8 => bad (fun h => h8 h.2.2.2.1.2))
    refine sayW (fun h9 => ?_) (fun h9 => bad (fun h => h9 h.2.2.2.2.1))
    refine sayW (fun h10 => ?_) (fun h10 => bad (fun h => h10 h.2.2.2.2.2))
    have hr : rngB r := ⟨h1, ⟨h2, h3⟩, ⟨h4, h5, h6⟩, ⟨h7, h8⟩, h9, h10⟩
    have bad2 : ¬ ordB r → [dI 0, dI 9] = [dI (chk r).1, dI (chk r).2] := fun h => by rw [chk_ord hr h]
    refine bc_dec (fun g1 => bad2 (fun h => by have := h.1; omega)) (fun g1 => ?_)
    refine bc_dec (fun g2 => bad2 (fun h => by have := h.2.1; omega)) (fun g2 => ?_)
    refine bc_dec (fun g3 => bad2 (fun h => by have := h.2.2.1; omega)) (fun g3 => ?_)
    refine bc_dec (fun g4 => bad2 (fun h => by have := h.2.2.2; omega)) (fun g4 => ?_)
    have ho : ordB r := ⟨by omega, by omega, by omega, by omega⟩
    have hc := chk_cnt hr ho
    have e : cntE r.ss.length = 10 := by rw [hnil]; rfl
    first
      | (refine bc_beq (fun g5 => ?_) (fun g5 => absurd rfl g5); rw [hc, e]; rfl)
      | (rw [hc, e]; rfl)
  · obtain rfl := List.mem_singleton.1 hid
    exact ⟨Unit, fun _ => ([], []), fun _ => False, fun _ => 0, ⟨fun s b h => h.elim, by kernel_rfl, fun _ h => h.elim⟩⟩
theorem conRE (r : Ru) (hlen : r.ss.length < 1000000000) : C5 35 [r.d] [dI (chk r).2] := by
  refine con_flat hokP mixed Tryz.func35 rfl (by show 1 ≤ 400; omega) rfl (by kernel_rfl) (fun caps => ?_)
  show gRE _ _ r.w r.st r.fi r.hlo r.hhi r.co r.ss.length (caps 500) (vs5 r.ss) r.slo r.shi r.flo r.fhi _
  rw [gRE_text, bc_t (v5le r.ss), v5_whole]
  exact ⟨_, _, ⟨conRK r hlen⟩, rfl⟩
theorem conREn (r : Ru) (hnil : r.ss = []) : C5 35 [r.dn] [dI (chk r).2] := by
  refine con_flat hokP mixed Tryz.func35 rfl (by show 0 ≤ 400; omega) rfl (by kernel_rfl) (fun caps => ?_)
  show gREn _ _ r.w r.st r.fi r.hlo r.hhi r.co r.slo r.shi r.flo r.fhi _
  rw [gREn_text]
  exact ⟨_, _, ⟨conRKn r hnil⟩, rfl⟩
end Go.Proofs.G5m

/- Parts between " ; " against words that are grouped at ";" (no program in it). -/
namespace Go.Str
open Go
/-- pieces between " ; " -/
def cut3 : List UInt8 → List UInt8 → List (List UInt8)
  | acc, [] => [acc]
  | acc, b :: r => if ([32, 59, 32] : List UInt8).isPrefixOf (b :: r) then acc :: cut3 [] (r.drop 2) else cut3 (acc ++ [b]) r
termination_by _ l => l.length
decreasing_by all_goals (simp only [List.length_cons, List.length_drop]; omega)
theorem pre3 {l : List UInt8} (h : ([32, 59, 32] : List UInt8).isPrefixOf l = true) : l = 32 :: 59 :: 32 :: l.drop 3 := by
  rw [List.isPrefixOf_iff_prefix] at h
  obtain ⟨t, rfl⟩ := h
  rfl
theorem cut3_hit {acc r : List UInt8} : cut3 acc (32 :: 59 :: 32 :: r) = acc :: cut3 [] r := by
  rw [cut3, if_pos (by simp [List.isPrefixOf])]; rfl
theorem cut3_skip {acc r : List UInt8} {b : UInt8} (h : ([32, 59, 32] : List UInt8).isPrefixOf (b :: r) = false) : cut3 acc (b :: r) = cut3 (acc ++ [b]) r := by
  rw [cut3, if_neg (by rw [h]; decide)]
theorem cut3_nil {acc : List UInt8} : cut3 acc [] = [acc] := by rw [cut3]
theorem cut3_ne (acc l : List UInt8) : cut3 acc l ≠ [] := by
  cases l with
  | nil => rw [cut3_nil]; simp
  | cons b r =>
    rw [cut3]; split
    · simp
    · exact cut3_ne _ r
termination_by l.length
theorem pre3_no {b : UInt8} {a r : List UInt8} (h : (59 : UInt8) ∉ b :: a) (hr : ∀ x q, r = x :: q → x = 32) : ([32, 59, 32] : List UInt8).isPrefixOf (b :: (a ++ r)) = false := by
  cases hp : ([32, 59, 32] : List UInt8).isPrefixOf (b :: (a ++ r)) with
  | false => rfl
  | true =>
    have e := pre3 hp
    cases a with
    | nil =>
      rw [List.nil_append] at e
      simp only [List.cons.injEq] at e
      cases r with
      | nil => simp at e
      | cons x q => simp only [List.cons.injEq] at e; rw [hr x q rfl] at e; exact absurd e.2.1 (by decide)
    | cons x q =>
      simp only [List.cons_append, List.cons.injEq] at e
      exact absurd (by rw [e.2.1]; simp) h
theorem cut3_miss : ∀ {l acc : List UInt8}, (59 : UInt8) ∉ l → cut3 acc l = [acc ++ l]
  | [], acc, _ => by rw [cut3_nil]; simp
  | b :: r, acc, h => by
    have := pre3_no (a := r) (r := []) h (by simp)
    rw [List.append_nil] at this
    rw [cut3_skip this, cut3_miss (fun hm => h (List.mem_cons_of_mem _ hm))]
    simp
theorem cut3_part : ∀ {a r acc : List UInt8}, (59 : UInt8) ∉ a → cut3 acc (a ++ 32 :: 59 :: 32 :: r) = (acc ++ a) :: cut3 [] r
  | [], r, acc, _ => by rw [List.nil_append, cut3_hit]; simp
  | b :: a, r, acc, h => by
    rw [List.cons_append, cut3_skip (pre3_no h (by rintro x q e; simp only [List.cons.injEq] at e; exact e.1.symm)), cut3_part (fun hm => h (List.mem_cons_of_mem _ hm))]
    simp
/-- joined with " ; " -/
def j3 : List (List UInt8) → List UInt8
  | [] => []
  | [p] => p
  | p :: q :: r => p ++ 32 :: 59 :: 32 :: j3 (q :: r)
theorem j3_cons {p : List UInt8} {r : List (List UInt8)} (h : r ≠ []) : j3 (p :: r) = p ++ 32 :: 59 :: 32 :: j3 r := by
  cases r with
  | nil => exact absurd rfl h
  | cons q r => rfl
theorem j3_cut : ∀ (n : Nat) (l acc : List UInt8), l.length ≤ n → j3 (cut3 acc l) = acc ++ l
  | _, [], acc, _ => by rw [cut3_nil]; simp [j3]
  | 0, b :: r, acc, h => by simp at h
  | n + 1, b :: r, acc, h => by
    cases hp : ([32, 59, 32] : List UInt8).isPrefixOf (b :: r) with
    | false => rw [cut3_skip hp, j3_cut n r _ (by simpa using h)]; simp
    | true =>
      have e := pre3 hp
      rw [e, cut3_hit, j3_cons (cut3_ne _ _), j3_cut n _ [] (by simp at h ⊢; omega)]
      simp
theorem cut3_j3 : ∀ {ps : List (List UInt8)}, ps ≠ [] → (∀ p ∈ ps, (59 : UInt8) ∉ p) → cut3 [] (j3 ps) = ps
  | [], h, _ => absurd rfl h
  | [p], _, h => by rw [j3, cut3_miss (h p (by simp))]; simp
  | p :: q :: r, _, h => by
    rw [j3, cut3_part (h p (by simp)), cut3_j3 (by simp) (fun x hx => h x (List.mem_cons_of_mem _ hx))]
    simp
/-- strings.Split at " ; " -/
theorem index3 : ∀ (l : List UInt8), (Lib.index l [32, 59, 32] = -1 ∧ ∀ acc, cut3 acc l = [acc ++ l]) ∨ ∃ a r, l = a ++ 32 :: 59 :: 32 :: r ∧ (∀ acc, cut3 acc l = (acc ++ a) :: cut3 [] r) ∧ Lib.index l [32, 59, 32] = (a.length : Nat)
  | [] => .inl ⟨rfl, fun acc => by rw [cut3_nil]; simp⟩
  | b :: l => by
    cases hp : ([32, 59, 32] : List UInt8).isPrefixOf (b :: l) with
    | true =>
      have e := pre3 hp
      refine .inr ⟨[], (b :: l).drop 3, e, fun acc => ?_, ?_⟩
      · conv => lhs; rw [e]
        rw [cut3_hit]; simp
      · rw [Lib.index, if_pos hp]; rfl
    | false =>
      rcases index3 l with ⟨h1, h2⟩ | ⟨a, r, h0, h2, h3⟩
      · refine .inl ⟨?_, fun acc => by rw [cut3_skip hp, h2]; simp⟩
        rw [Lib.index, if_neg (by rw [hp]; decide), h1]; rfl
      · refine .inr ⟨b :: a, r, by rw [h0]; rfl, fun acc => by rw [cut3_skip hp, h2]; simp, ?_⟩
        rw [Lib.index, if_neg (by rw [hp]; decide), h3, if_neg (by simp only [beq_iff_eq]; omega)]
        simp
theorem split3 : ∀ (n : Nat) (l : List UInt8), l.length ≤ n → (Lib.splitB (bs [32, 59, 32]) 0 (Lib.countB (bs l) (bs [32, 59, 32])) (bs l)) = (cut3 [] l).map bs := by
  have hs : (bs [32, 59, 32]).size = 3 := by rw [bs_size]; rfl
  intro n
  induction n with
  | zero =>
    intro l hl
    obtain rfl : l = [] := List.length_eq_zero_iff.1 (by omega)
    rw [Lib.countB_miss _ _ rfl, cut3_nil]; rfl
  | succ n ih =>
    intro l hl
    rcases index3 l with ⟨h1, h2⟩ | ⟨a, r, rfl, h2, h3⟩
    · have h1' : Lib.indexB (bs l) (bs [32, 59, 32]) = -1 := by unfold Lib.indexB; simpa [bs] using h1
      rw [Lib.countB_miss _ _ h1', Lib.splitB_zero, h2]; simp
    · have h3' : Lib.indexB (bs (a ++ 32 :: 59 :: 32 :: r)) (bs [32, 59, 32]) = (a.length : Nat) := by unfold Lib.indexB; simpa [bs] using h3
      rw [Lib.countB_hit _ _ _ (by rw [hs]; decide) h3', Nat.add_comm, Lib.splitB_hit _ _ _ _ _ h3', h2]
      have e1 : (bs (a ++ 32 :: 59 :: 32 :: r)).extract 0 (a.length + 0) = bs a := by rw [bs_extract]; simp
      have e2 : (bs (a ++ 32 :: 59 :: 32 :: r)).extract (a.length + (bs [32, 59, 32]).size) (bs (a ++ 32 :: 59 :: 32 :: r)).size = bs r := by
        rw [bs_extract, hs, bs_size]
        congr 1
        have : (a ++ 32 :: 59 :: 32 :: r).drop (a.length + 3) = r := by
          rw [← List.drop_drop]; simp
        rw [this]
        simp only [List.length_append, List.length_cons]
        rw [List.take_of_length_le (by omega)]
      rw [e1, e2, ih r (by simp at hl; omega)]
      simp
/-! ### Groups of words -/
theorem join_cut {c : UInt8} : ∀ {l acc : List UInt8}, Lib.join (cutA c acc l) [c] = acc ++ l
  | [], acc => by rw [cutA, Lib.join_one]; simp
  | b :: r, acc => by
    rw [cutA]
    split
    · next h =>
      have e := join_cut (c := c) (l := r) (acc := [])
      cases hc : cutA c [] r with
      | nil => exact absurd hc cutA_ne
      | cons x q =>
        rw [hc, Lib.join_cons] at e
        rw [Lib.join_cons, h]
        simp only [Lib.joinTail, List.map_cons, List.flatten_cons] at e ⊢
        rw [show ([c] ++ x : List UInt8) ++ (List.map (fun s => [c] ++ s) q).flatten = c :: (x ++ (List.map (fun s => [c] ++ s) q).flatten) by simp, e]
        simp
    · rw [join_cut]; simp
theorem join_two {c : UInt8} {a b : List (List UInt8)} (ha : a ≠ []) (hb : b ≠ []) : Lib.join (a ++ b) [c] = Lib.join a [c] ++ c :: Lib.join b [c] := by
  cases a with
  | nil => exact absurd rfl ha
  | cons x a =>
    cases b with
    | nil => exact absurd rfl hb
    | cons y b =>
      rw [List.cons_append, Lib.join_cons, Lib.join_cons, Lib.join_cons]
      simp [Lib.joinTail]
abbrev jn (ws : List (List UInt8)) : List UInt8 := Lib.join ws [32]
/-- words, in groups between ";" -/
def grp : List (List UInt8) → List (List UInt8) → List (List (List UInt8))
  | acc, [] => [acc]
  | acc, w :: r => if w = [59] then acc :: grp [] r else grp (acc ++ [w]) r
/-- groups, one behind another -/
def fl : List (List (List UInt8)) → List (List UInt8)
  | [] => []
  | [g] => g
  | g :: h :: r => g ++ [59] :: fl (h :: r)
theorem grp_ne : ∀ (acc ws : List (List UInt8)), grp acc ws ≠ []
  | _, [] => by simp [grp]
  | acc, w :: r => by
    rw [grp]; split
    · simp
    · exact grp_ne _ r
theorem fl_cons {g : List (List UInt8)} {r : List (List (List UInt8))} (h : r ≠ []) : fl (g :: r) = g ++ [59] :: fl r := by
  cases r with
  | nil => exact absurd rfl h
  | cons q r => rfl
theorem fl_grp : ∀ (ws acc : List (List UInt8)), fl (grp acc ws) = acc ++ ws
  | [], acc => by simp [grp, fl]
  | w :: r, acc => by
    rw [grp]
    split
    · next h => rw [fl_cons (grp_ne _ _), fl_grp r [], h]; simp
    · rw [fl_grp r]; simp
theorem grp_skip : ∀ {g acc r : List (List UInt8)}, (∀ w ∈ g, w ≠ [59]) → grp acc (g ++ [59] :: r) = (acc ++ g) :: grp [] r
  | [], acc, r, _ => by rw [List.nil_append, grp, if_pos rfl]; simp
  | w :: g, acc, r, h => by
    rw [List.cons_append, grp, if_neg (h w (by simp)), grp_skip (fun x hx => h x (List.mem_cons_of_mem _ hx))]; simp
theorem grp_last : ∀ {g acc : List (List UInt8)}, (∀ w ∈ g, w ≠ [59]) → grp acc g = [acc ++ g]
  | [], acc, _ => by simp [grp]
  | w :: g, acc, h => by
    rw [grp, if_neg (h w (by simp)), grp_last (fun x hx => h x (List.mem_cons_of_mem _ hx))]; simp
theorem grp_fl : ∀ {G : List (List (List UInt8))}, G ≠ [] → (∀ g ∈ G, ∀ w ∈ g, w ≠ [59]) → grp [] (fl G) = G
  | [], h, _ => absurd rfl h
  | [g], _, h => by rw [fl, grp_last (h g (by simp))]; simp
  | g :: q :: r, _, h => by
    rw [fl, grp_skip (h g (by simp)), grp_fl (by simp) (fun x hx => h x (List.mem_cons_of_mem _ hx))]; simp
theorem fl_ne : ∀ {G : List (List (List UInt8))}, G ≠ [] → (∀ g ∈ G, g ≠ []) → fl G ≠ []
  | [], h, _ => absurd rfl h
  | [g], _, h => by rw [fl]; exact h g (by simp)
  | g :: q :: r, _, h => by rw [fl]; simp
theorem jn_fl : ∀ {G : List (List (List UInt8))}, G ≠ [] → (∀ g ∈ G, g ≠ []) → jn (fl G) = j3 (G.map jn)
  | [], h, _ => absurd rfl h
  | [g], _, _ => rfl
  | g :: q :: r, _, h => by
    have hr : (q :: r) ≠ [] := by simp
    have hq : ∀ x ∈ q :: r, x ≠ [] := fun x hx => h x (List.mem_cons_of_mem _ hx)
    have e : fl (g :: q :: r) = g ++ ([[59]] ++ fl (q :: r)) := by rw [fl]; rfl
    rw [e, jn, join_two (h g (by simp)) (by simp), join_two (by simp) (fl_ne hr hq), Lib.join_one]
    have := jn_fl hr hq
    rw [jn] at this
    rw [this]
    rfl
/-- groups of numbers, none of them empty -/
structure GoodG (d : Nat) (G : List (List (List UInt8))) : Prop where
  ne : G ≠ []
  some : ∀ g ∈ G, g ≠ []
  num : ∀ g ∈ G, ∀ w ∈ g, okNum d w = true
theorem okNum_59 {d : Nat} {w : List UInt8} (h : okNum d w = true) : (32 : UInt8) ∉ w ∧ (59 : UInt8) ∉ w ∧ w ≠ [59] :=
  ⟨okNum_mem h (by decide), okNum_mem h (by decide), fun e => okNum_mem h (c := 59) (by decide) (by rw [e]; simp)⟩
theorem mem_join {c b : UInt8} : ∀ {ws : List (List UInt8)}, b ∈ Lib.join ws [c] → b = c ∨ ∃ w ∈ ws, b ∈ w
  | [], h => by simp [Lib.join_nil] at h
  | w :: r, h => by
    rw [Lib.join_cons] at h
    rcases List.mem_append.1 h with h | h
    · exact .inr ⟨w, by simp, h⟩
    · simp only [Lib.joinTail, List.mem_flatten, List.mem_map] at h
      obtain ⟨l, ⟨x, hx, rfl⟩, hb⟩ := h
      rcases List.mem_append.1 hb with hb | hb
      · exact .inl (by simpa using hb)
      · exact .inr ⟨x, List.mem_cons_of_mem _ hx, hb⟩
theorem fl_mem : ∀ {G : List (List (List UInt8))} {w : List UInt8}, w ∈ fl G → w = [59] ∨ ∃ g ∈ G, w ∈ g
  | [], w, h => by simp [fl] at h
  | [g], w, h => .inr ⟨g, by simp, h⟩
  | g :: q :: r, w, h => by
    rw [fl] at h
    rcases List.mem_append.1 h with h | h
    · exact .inr ⟨g, by simp, h⟩
    · rcases List.mem_cons.1 h with h | h
      · exact .inl h
      · rcases fl_mem h with h | ⟨x, hx, hw⟩
        · exact .inl h
        · exact .inr ⟨x, List.mem_cons_of_mem _ hx, hw⟩
abbrev partsG (t : List UInt8) : List (List (List UInt8)) := (cut3 [] t).map (cutA 32 [])
abbrev wordsG (t : List UInt8) : List (List (List UInt8)) := grp [] (cutA 32 [] t)
theorem parts_words {d : Nat} {t : List UInt8} (h : GoodG d (partsG t)) : wordsG t = partsG t := by
  have e : t = jn (fl (partsG t)) := by
    rw [jn_fl h.ne h.some]
    have : (partsG t).map jn = cut3 [] t := by
      rw [List.map_map]
      conv => rhs; rw [← List.map_id (cut3 [] t)]
      exact List.map_congr_left fun x _ => by show Lib.join (cutA 32 [] x) [32] = x; rw [join_cut]; rfl
    rw [this, j3_cut _ _ _ (Nat.le_refl _)]; rfl
  show grp [] (cutA 32 [] t) = _
  conv => lhs; rw [e]
  rw [jn, cutA_join (fl_ne h.ne h.some), grp_fl h.ne (fun g hg w hw => (okNum_59 (h.num g hg w hw)).2.2)]
  intro w hw
  rcases fl_mem hw with rfl | ⟨g, hg, hw⟩
  · decide
  · exact (okNum_59 (h.num g hg w hw)).1
theorem words_parts {d : Nat} {t : List UInt8} (h : GoodG d (wordsG t)) : partsG t = wordsG t := by
  have e : t = j3 ((wordsG t).map jn) := by
    rw [← jn_fl h.ne h.some, fl_grp, jn, List.nil_append, join_cut]; rfl
  show (cut3 [] t).map (cutA 32 []) = _
  conv => lhs; rw [e]
  rw [cut3_j3 (by simpa using h.ne), List.map_map]
  · conv => rhs; rw [← List.map_id (wordsG t)]
    refine List.map_congr_left fun g hg => ?_
    exact cutA_join (h.some g hg) fun w hw => (okNum_59 (h.num g hg w hw)).1
  · intro p hp hm
    obtain ⟨g, hg, rfl⟩ := List.mem_map.1 hp
    rcases mem_join hm with h1 | ⟨w, hw, hb⟩
    · exact absurd h1 (by decide)
    · exact (okNum_59 (h.num g hg w hw)).2.1 hb
/-- both ways give the same, whatever is made of good groups -/
theorem groups_same {α : Type} {d : Nat} {f : List (List (List UInt8)) → Option α} (hf : ∀ G, (f G).isSome = true → GoodG d G) (t : List UInt8) : f (partsG t) = f (wordsG t) := by
  cases h1 : f (partsG t) with
  | some r =>
    have := parts_words (hf _ (by rw [h1]; rfl))
    rw [this, h1]
  | none =>
    cases h2 : f (wordsG t) with
    | none => rfl
    | some r =>
      have := words_parts (hf _ (by rw [h2]; rfl))
      rw [this, h2] at h1; cases h1
end Go.Str

/- Chapter 3, strings: what they mean. -/
namespace Go.Proofs.G5m
open Go Go.Abs Go.Proofs Go.Str
set_option maxRecDepth 100000
abbrev W := List (List UInt8)
def okW (ws : W) : Bool := ws.all (okNum 13)
def numsW (ws : W) : List Int := ws.map (numF 0)
def mkS (l : List Int) : Fv := ⟨l.getD 0 0, l.getD 1 0, l.getD 2 0, l.getD 3 0, l.getD 4 0⟩
def mkR (l : List Int) (ss : List Fv) : Ru := ⟨l.getD 0 0, l.getD 1 0, l.getD 2 0, l.getD 3 0, l.getD 4 0, l.getD 5 0, ss, l.getD 6 0, l.getD 7 0, l.getD 8 0, l.getD 9 0⟩
def okP (n : Nat) (g : W) : Bool := decide (g.length = n) && okW g
/-- rules by their groups of words -/
def synG : List W → Option Ru
  | [] => none
  | g :: gs => if okP 10 g && gs.all (okP 5) then some (mkR (numsW g) (gs.map fun h => mkS (numsW h))) else none
def zeroR : Ru := ⟨0, 0, 0, 0, 0, 0, [], 0, 0, 0, 0⟩
def resR (o : Option Ru) : List D := match o with
  | none => [zeroR.dn, dI 7]
  | some r => if (chk r).2 = 0 then [r.d, dI 0] else [zeroR.dn, dI (chk r).2]
theorem okW_mem {ws : W} (h : okW ws = true) {w : List UInt8} (hw : w ∈ ws) : okNum 13 w = true := List.all_eq_true.1 h w hw
theorem okP_out {n : Nat} {g : W} (h : okP n g = true) : g.length = n ∧ okW g = true := by simpa [okP] using h
theorem synG_good (G : List W) (h : (synG G).isSome = true) : GoodG 13 G := by
  cases G with
  | nil => cases h
  | cons g gs =>
    rw [synG] at h
    split at h
    · rename_i hc
      simp only [Bool.and_eq_true, List.all_eq_true] at hc
      obtain ⟨h1, h2⟩ := hc
      have key : ∀ q ∈ g :: gs, q ≠ [] ∧ okW q = true := fun q hq => by
        rcases List.mem_cons.1 hq with rfl | hq
        · have := okP_out h1; exact ⟨fun e => by rw [e] at this; exact absurd this.1 (by decide), this.2⟩
        · have := okP_out (h2 q hq); exact ⟨fun e => by rw [e] at this; exact absurd this.1 (by decide), this.2⟩
      exact ⟨by simp, fun q hq => (key q hq).1, fun q hq w hw => okW_mem (key q hq).2 hw⟩
    · cases h
theorem syn_same (t : List UInt8) : synG (partsG t) = synG (wordsG t) := groups_same synG_good t
/-! ### Schedules -/
def psE (nm : List UInt8) (nums : W) : Int := if nm.length = 0 ∨ okW nums = false then 7 else if nameOK nm = false then 4 else if 6 < nums.length then 8 else if ∀ n ∈ numsW nums, 1 ≤ n ∧ n ≤ 1000 then 0 else 2
def slT (l : List Int) : D := if l.length = 0 then .nil else .sl l.length 1 (vi l)
def resS (nm : List UInt8) (nums : W) : List D := if psE nm nums = 0 then [.agg [dS nm, slT (numsW nums)], dI 0] else [.agg [dS [], .nil], dI (psE nm nums)]
/-! ### Formats -/
def rNs (r : Ru) : List Int := [r.w, r.st, r.fi, r.hlo, r.hhi, r.co, r.slo, r.shi, r.flo, r.fhi]
def sNs (s : Fv) : List Int := [s.a, s.b, s.c, s.d, s.e]
structure NumR (r : Ru) : Prop where
  head : ∀ n ∈ rNs r, 0 ≤ n ∧ n < 10000000000000
  all : ∀ s ∈ r.ss, ∀ n ∈ sNs s, 0 ≤ n ∧ n < 10000000000000
theorem stsE_zero : ∀ {l : List Fv} {i : Int}, (stsE i l).2 = 0 → ∀ s ∈ l, stE s = 0
  | [], _, _, _, hs => by simp at hs
  | t :: r, i, h, s, hs => by
    rw [stsE] at h
    split at h
    · rename_i h0
      rcases List.mem_cons.1 hs with rfl | hs
      · exact h0
      · exact stsE_zero h s hs
    · rename_i h0; exact absurd h h0
theorem num_chk {r : Ru} (h : (chk r).2 = 0) : NumR r ∧ 1 ≤ r.ss.length ∧ r.ss.length ≤ 6 := by
  unfold chk at h
  split at h
  · rename_i h0
    unfold headE at h0
    split at h0
    · rename_i hr
      split at h0
      · unfold cntE at h0
        refine ⟨⟨fun n hn => ?_, fun s hs n hn => ?_⟩, ?_⟩
        · unfold rngB at hr
          simp only [rNs, List.mem_cons, List.not_mem_nil, or_false] at hn
          rcases hn with rfl | rfl | rfl | rfl | rfl | rfl | rfl | rfl | rfl | rfl <;> omega
        · have h1 := stsE_zero h s hs
          unfold stE at h1
          split at h1
          · rename_i hb
            unfold stB at hb
            simp only [sNs, List.mem_cons, List.not_mem_nil, or_false] at hn
            rcases hn with rfl | rfl | rfl | rfl | rfl <;> omega
          · exact absurd h1 (by decide)
        · repeat' split at h0
          all_goals omega
      · exact absurd h0 (by decide)
    · exact absurd h0 (by decide)
  · rename_i h0; exact absurd h h0
end Go.Proofs.G5m

/- Chapter 3, strings: numbers, words, in data. -/
namespace Go.Proofs.G5m
open Go Go.Abs Go.Proofs Go.Str
set_option maxRecDepth 100000
theorem preXOK : PreOK Tryz.prog (preX C5) := by
  intro g h he args ats H k hk
  unfold preX at he
  rcases ite_so he with ⟨e, rfl⟩ | he
  · exact saidH_ok (fun _ _ _ h => h) _ _ _ _ _ hk
  · exact prePOK g h he args ats H k hk
theorem hokX : HandlerOK Tryz.prog (hX C5) := handlerX_ok mixed preXOK (by decide) 6
theorem okNum_of {d : Nat} {l : List UInt8} (h1 : 1 ≤ l.length) (h2 : l.length ≤ d) (h3 : 1 < l.length → l.head? ≠ some 48) (h4 : l.all isDig = true) : okNum d l = true := by
  unfold okNum
  simp only [h1, h2, h4, decide_true, Bool.and_true, Bool.true_and, Bool.not_eq_true', Bool.and_eq_false_iff, decide_eq_false_iff_not, beq_eq_false_iff_ne]
  by_cases h : 1 < l.length
  · exact .inr (h3 h)
  · exact .inl h
theorem okW_drop {ws : W} {i : Nat} (h : i < ws.length) : okW (ws.drop i) = (okNum 13 ws[i] && okW (ws.drop (i + 1))) := by
  rw [List.drop_eq_getElem_cons h]; rfl
theorem head0 {l : List UInt8} (h : 0 < l.length) : l[0]? = some l[0] ∧ l.head? = some l[0] := by
  cases l with
  | nil => simp at h
  | cons a r => exact ⟨rfl, rfl⟩
theorem conaN (ws : W) (hn : ws.length < 1000000000) : C5 23 [dSs ws] [dB (okW ws)] := by
  let inv : Nat × Nat → Prop := fun x => x.1 ≤ ws.length ∧ okW ws = okW (ws.drop x.1)
  let st : Nat × Nat → Slots × Blocks := fun x => zaN1 ws.length x.2 ws.length x.1 (strs ws)
  refine con_J hokX mixed [] (L := fun _ s' bl => ∃ y, inv y ∧ st y = (s', bl)) Tryz.func23 rfl (by show 1 ≤ 400; omega) rfl (pts := [0]) (loops := [0]) (by kernel_rfl) (by kernel_rfl) (fun caps _ => ?_) (fun id q1 q2 => absurd q1 q2) (fun id hid => ?_)
  · show gaN _ _ ws.length (caps 500) (strs ws) _
    rw [gaN_text]
    exact ⟨(0, caps 500), ⟨Nat.zero_le _, rfl⟩, rfl⟩
  · obtain rfl := List.mem_singleton.1 hid
    refine ⟨⟨_, st, inv, fun y => ws.length - y.1, fun s' bl h => h, [2], [2], by kernel_rfl, by kernel_rfl, ?_⟩⟩
    rintro ⟨i, c⟩ ⟨hi, hok⟩
    have hi : i ≤ ws.length := hi
    have hok : okW ws = okW (ws.drop i) := hok
    let w : List UInt8 := ws.getD i []
    let inv2 : Nat → Prop := fun j => (i < ws.length ∧ j ≤ w.length) ∧ (1 ≤ w.length ∧ w.length ≤ 13 ∧ (1 < w.length → w.head? ≠ some 48)) ∧ w.all isDig = (w.drop j).all isDig
    let st2 : Nat → Slots × Blocks := fun j => zaN2 (bs w) ws.length c ws.length i w.length j (strs ws)
    refine ⟨fun _ s' bl => ∃ j, inv2 j ∧ st2 j = (s', bl), ?_, fun id2 q1 q2 => absurd q1 q2, fun id2 hid2 => ?_⟩
    · show raN1 _ _ ws.length c ws.length (i : Int) (strs ws) _ _ _
      rw [raN1_text]
      refine bc_dec (fun h => ?_) (fun h => ?_)
      · have h1 : i < ws.length := by omega
        have ew : w = ws[i] := by show ws.getD i [] = _; rw [List.getD_eq_getElem?_getD, List.getElem?_eq_getElem h1]; rfl
        rw [okW_drop h1, ← ew] at hok
        have bad : okNum 13 w = false → (fun r => r = [dB (okW ws)]) [dB false] := fun hb => by rw [hok, hb]; rfl
        simp only [bc_t (show (0 : Int) ≤ (i : Int) by omega), bc_t h, Int.toNat_natCast, atS (strs_at ws i h1)]
        rw [← ew]
        simp only [bs_size]
        refine bc_beq (fun q => ?_) (fun q => bc_dec (fun q2 => ?_) (fun q2 => bc_dec (fun q3 => ?_) (fun q3 => ?_)))
        · exact bad (by have : w.length = 0 := by omega
                        rw [List.length_eq_zero_iff.1 this]; exact okNum_nil)
        · exact bad (by cases h : okNum 13 w with
                        | false => rfl
                        | true => have := okNum_inv h; omega)
        · obtain ⟨e1, e2⟩ := head0 (l := w) (by omega)
          simp only [byte1 e1]
          refine bc_beq (fun q4 => ?_) (fun q4 => ?_)
          · refine bad ?_
            cases h : okNum 13 w with
            | false => rfl
            | true => exact absurd (by rw [e2]; congr 1; exact u8_eq (by rw [q4]; rfl)) ((okNum_inv h).2.2.1 (by omega))
          · refine ⟨0, ⟨⟨h1, Nat.zero_le _⟩, ⟨by omega, by omega, fun _ e => ?_⟩, rfl⟩, rfl⟩
            rw [e2] at e
            exact q4 (by rw [Option.some.inj e]; rfl)
        · exact ⟨0, ⟨⟨h1, Nat.zero_le _⟩, ⟨by omega, by omega, fun h => by omega⟩, rfl⟩, rfl⟩
      · show (if 0 = 0 then _ else _)
        rw [if_pos rfl]
        show naN3 _ _ _
        rw [naN3_text]
        show [dB true] = [dB (okW ws)]
        rw [hok, List.drop_eq_nil_of_le (by omega)]; rfl
    · obtain rfl := List.mem_singleton.1 hid2
      refine ⟨⟨Nat, st2, inv2, fun j => w.length - j, fun s' bl h => h, [], by kernel_rfl, by kernel_rfl, fun j hj => ⟨fun _ _ _ => False, ?_, fun id3 h3 => by cases h3⟩⟩⟩
      obtain ⟨⟨h1, hj1⟩, ⟨g1, g2, g3⟩, hd⟩ := hj
      have ew : w = ws[i] := by show ws.getD i [] = _; rw [List.getD_eq_getElem?_getD, List.getElem?_eq_getElem h1]; rfl
      rw [okW_drop h1, ← ew] at hok
      show raN2 _ _ (bs w) ws.length c ws.length (i : Int) w.length (j : Int) (strs ws) _ _ _
      rw [raN2_text]
      refine bc_dec (fun h => ?_) (fun h => ?_)
      · have h2 : j < w.length := by omega
        simp only [bc_t (show (0 : Int) ≤ (j : Int) by omega), Int.toNat_natCast, byte1 (List.getElem?_eq_getElem h2)]
        rw [List.drop_eq_getElem_cons h2, List.all_cons] at hd
        have c1 := coniD w[j]
        cases hq : isDig w[j] with
        | true =>
          rw [hq] at c1 hd
          refine .inl ⟨⟨c1⟩, j + 1, ⟨⟨h1, by omega⟩, ⟨g1, g2, g3⟩, by simpa using hd⟩, by omega, ?_⟩
          rw [w64 (by omega) (by omega)]; rfl
        | false =>
          rw [hq] at c1 hd
          refine .inr ⟨⟨c1⟩, ?_⟩
          show [dB false] = [dB (okW ws)]
          have : okNum 13 w = false := by
            cases h : okNum 13 w with
            | false => rfl
            | true => rw [(okNum_inv h).2.2.2] at hd; simp at hd
          rw [hok, this]; rfl
      · simp only [if_true]
        show iaN4 _ _ ws.length c ws.length (i : Int) (strs ws) _ _ _
        rw [iaN4_text]
        have : okNum 13 w = true := okNum_of g1 g2 g3 (by rw [hd, List.drop_eq_nil_of_le (by omega)]; rfl)
        rw [this, Bool.true_and] at hok
        refine ⟨(i + 1, c), ⟨by show i + 1 ≤ ws.length; omega, hok⟩, by show ws.length - (i + 1) < ws.length - i; omega, ?_⟩
        rw [w64 (by omega) (by omega)]; rfl
theorem numF_take {l : List UInt8} {j : Nat} (h : j < l.length) (n : Int) : numF n (l.take (j + 1)) = 10 * numF n (l.take j) + ((l[j].toNat : Int) - 48) := by
  rw [List.take_succ_eq_append_getElem h, numF_append]; rfl
theorem connO (w : List UInt8) (hw : okNum 13 w = true) : C5 25 [dS w] [dI (numF 0 w)] := by
  obtain ⟨h1, h13, -, hd⟩ := okNum_inv hw
  let inv : Nat → Prop := fun i => i ≤ w.length
  let st : Nat → Slots × Blocks := fun i => znO1 (bs w) (numF 0 (w.take i)) w.length i
  refine con_of (L := fun _ s b => ∃ x, inv x ∧ st x = (s, b)) hokX mixed Tryz.func25 rfl (by show 0 ≤ 400; omega) rfl (ids := [0]) (by kernel_rfl) rfl (fun caps => ?_) (fun id hid => ?_)
  · show gnO _ _ (bs w) _
    rw [gnO_text]
    exact ⟨0, Nat.zero_le _, by simp only [bs_size]; rfl⟩
  · obtain rfl := List.mem_singleton.1 hid
    refine ⟨_, st, inv, fun i => w.length - i, ⟨fun s b h => h, by kernel_rfl, ?_⟩⟩
    intro i hi
    have hi : i ≤ w.length := hi
    show rnO1 _ _ (bs w) (numF 0 (w.take i)) w.length (i : Int) _ _ _
    rw [rnO1_text]
    refine bc_dec (fun h => ?_) (fun h => ?_)
    · have h2 : i < w.length := by omega
      have hdi : isDig w[i] = true := List.all_eq_true.1 hd _ (List.getElem_mem h2)
      have hb : 48 ≤ w[i].toNat ∧ w[i].toNat ≤ 57 := by unfold isDig at hdi; simp at hdi; omega
      have hg := numF_ge (w.take i) 0 (by decide) (by rw [List.all_eq_true]; exact fun x hx => List.all_eq_true.1 hd x (List.mem_of_mem_take hx))
      have hp : (10 : Int) ^ (w.take i).length ≤ 10 ^ 13 := pow10_le (by rw [List.length_take]; omega)
      have h13' : (10 : Int) ^ 13 = 10000000000000 := by decide
      simp only [bc_t (show (0 : Int) ≤ (i : Int) by omega), Int.toNat_natCast, byte1 (List.getElem?_eq_getElem h2)]
      refine ⟨i + 1, by show i + 1 ≤ w.length; omega, by show w.length - (i + 1) < w.length - i; omega, ?_⟩
      have u8 : IntKind.wrap .u8 ((w[i].toNat : Int) - 48) = (w[i].toNat : Int) - 48 := by
        show ((w[i].toNat : Int) - 48) % 256 = _
        omega
      rw [u8, w64 (z := 10 * numF 0 (w.take i)) (by omega) (by omega), w64 (z := (w[i].toNat : Int) - 48) (by omega) (by omega), w64 (by omega) (by omega), w64 (by omega) (by omega), ← numF_take h2]; rfl
    · show (if 0 = 0 then _ else _)
      rw [if_pos rfl]
      show nnO2 _ _ _ _
      rw [nnO2_text]
      show [dI (numF 0 (w.take i))] = _
      rw [List.take_of_length_le (by omega)]
/-- words as numbers -/
def pdR (ws : W) : List D := if okW ws = true then [slT (numsW ws), dB true] else [.nil, dB false]
theorem nums_snoc {ws : W} {i : Nat} (h : i < ws.length) : vi (numsW (ws.take i)) ++ [vI (numF 0 ws[i])] = vi (numsW (ws.take (i + 1))) := by
  rw [List.take_succ_eq_append_getElem h, numsW, numsW, List.map_append, vi, vi, List.map_append]; rfl
theorem conpd (ws : W) (hn : ws.length < 1000000000) (hl : ∀ w ∈ ws, w.length < 1000000000) : C5 32 [dSs ws] (pdR ws) := by
  let inv : Nat × Nat → Prop := fun x => x.1 ≤ ws.length ∧ okW ws = okW (ws.drop x.1)
  let st : Nat × Nat → Slots × Blocks := fun x => match x.1 with
    | 0 => zpd1 ws.length x.2 ((0 : Nat) : Int) (strs ws)
    | i + 1 => zpd2 ws.length x.2 (i + 1) ((i + 1 : Nat) : Int) (strs ws) (vi (numsW (ws.take (i + 1))))
  refine con_of (L := fun _ s b => ∃ x, inv x ∧ st x = (s, b)) hokX mixed Tryz.func32 rfl (by show 1 ≤ 400; omega) rfl (ids := [0]) (by kernel_rfl) rfl (fun caps => ?_) (fun id hid => ?_)
  · show gpd _ _ ws.length (caps 500) (strs ws) _
    rw [gpd_text]
    exact ⟨(0, caps 500), ⟨Nat.zero_le _, rfl⟩, rfl⟩
  · obtain rfl := List.mem_singleton.1 hid
    refine ⟨_, st, inv, fun x => ws.length - x.1, ⟨fun s b h => h, by kernel_rfl, ?_⟩⟩
    rintro ⟨i, c⟩ ⟨hi, hok⟩
    have hi : i ≤ ws.length := hi
    have hok : okW ws = okW (ws.drop i) := hok
    have step : ∀ (h1 : i < ws.length), (okNum 13 ws[i] = true ∧ (readNum 13 ws[i]) = (numF 0 ws[i], true) ∧ 0 ≤ numF 0 ws[i] ∧ okW ws = okW (ws.drop (i + 1))) ∨ ((fun r => r = pdR ws) [.nil, dB false] ∧ ((readNum 13 ws[i]).2 = false ∨ (readNum 13 ws[i]).2 = true ∧ (readNum 13 ws[i]).1 < 0)) := fun h1 => by
      rw [okW_drop h1] at hok
      cases h : okNum 13 ws[i] with
      | true => rw [h, Bool.true_and] at hok; exact .inl ⟨rfl, readNum_ok h, (numF_pos h).1, hok⟩
      | false =>
        rw [h, Bool.false_and] at hok
        refine .inr ⟨by show _ = pdR ws; unfold pdR; rw [hok]; rfl, ?_⟩
        cases h2 : (readNum 13 ws[i]).2 with
        | false => exact .inl rfl
        | true => exact .inr ⟨rfl, readNum_no h h2⟩
    cases i with
    | zero =>
      show rpd1 _ _ ws.length c ((0 : Nat) : Int) (strs ws) _ _ _
      rw [rpd1_text]
      refine bc_dec (fun h => ?_) (fun h => ?_)
      · have h1 : 0 < ws.length := by omega
        have cN := conNu ws[0] 13 (by decide) (by have := hl _ (List.getElem_mem h1); omega)
        simp only [bc_t (show (0 : Int) ≤ ((0 : Nat) : Int) by omega), bc_t h, Int.toNat_natCast, atS (strs_at ws 0 h1)]
        rcases step h1 with ⟨h2, h3, h4, h5⟩ | ⟨hb, hf | ⟨ht, hneg⟩⟩
        · rw [h3] at cN
          refine ⟨_, .inl ⟨⟨cN⟩, bc_no (by omega) ⟨(1, c), ⟨by show 1 ≤ ws.length; omega, h5⟩, by show ws.length - 1 < ws.length - 0; omega, ?_⟩⟩⟩
          show zpd2 _ _ _ _ _ (vi (numsW (ws.take (0 + 1)))) = _
          rw [← nums_snoc h1, w64 (by omega) (by omega)]; rfl
        · rw [hf] at cN
          exact ⟨_, .inr ⟨⟨cN⟩, hb⟩⟩
        · rw [ht] at cN
          exact ⟨_, .inl ⟨⟨cN⟩, bc_yes hneg hb⟩⟩
      · show (if 0 = 0 then _ else _)
        rw [if_pos rfl]
        show npd3 _ _ _
        rw [npd3_text]
        have : ws = [] := List.length_eq_zero_iff.1 (by omega)
        show _ = pdR ws
        rw [this]; rfl
    | succ i =>
      show rpd2 _ _ ws.length c (i + 1) ((i + 1 : Nat) : Int) (strs ws) (vi (numsW (ws.take (i + 1)))) _ _ _
      rw [rpd2_text]
      have hT : (vi (numsW (ws.take (i + 1)))).length = i + 1 := by simp [numsW]; omega
      refine bc_dec (fun h => ?_) (fun h => ?_)
      · have h1 : i + 1 < ws.length := by omega
        have cN := conNu ws[i + 1] 13 (by decide) (by have := hl _ (List.getElem_mem h1); omega)
        simp only [bc_t (show (0 : Int) ≤ ((i + 1 : Nat) : Int) by omega), bc_t h, Int.toNat_natCast, atS (strs_at ws (i + 1) h1)]
        rcases step h1 with ⟨h2, h3, h4, h5⟩ | ⟨hb, hf | ⟨ht, hneg⟩⟩
        · rw [h3] at cN
          refine ⟨_, .inl ⟨⟨cN⟩, bc_no (by omega) (bc_yes (by omega) (bc_yes (by omega) (bc_yes (by omega) (bc_yes (by omega) (bc_yes (by omega) ⟨(i + 2, c), ⟨by show i + 2 ≤ ws.length; omega, h5⟩, by show ws.length - (i + 2) < ws.length - (i + 1); omega, ?_⟩)))))⟩⟩
          show zpd2 _ _ _ _ _ (vi (numsW (ws.take (i + 1 + 1)))) = _
          rw [← nums_snoc h1, show List.take ((i + 1) * 1) (List.drop 0 (vi (numsW (ws.take (i + 1))))) = vi (numsW (ws.take (i + 1))) by rw [List.drop_zero, List.take_of_length_le (by omega)], w64 (by omega) (by omega)]; rfl
        · rw [hf] at cN
          exact ⟨_, .inr ⟨⟨cN⟩, hb⟩⟩
        · rw [ht] at cN
          exact ⟨_, .inl ⟨⟨cN⟩, bc_yes hneg hb⟩⟩
      · show (if 0 = 0 then _ else _)
        rw [if_pos rfl]
        show npd4 _ _ (i + 1) (vi (numsW (ws.take (i + 1)))) _
        rw [npd4_text]
        have e : i + 1 = ws.length := by omega
        refine ⟨⟨rfl, by omega⟩, ?_⟩
        show _ = pdR ws
        rw [e, List.take_length]
        unfold pdR
        rw [hok, List.drop_eq_nil_of_le (by omega), if_pos (show okW [] = true from rfl)]
        unfold slT
        rw [if_neg (by rw [numsW, List.length_map]; omega), numsW, List.length_map]
end Go.Proofs.G5m

/- Chapter 3, strings: the schedule of a string, in data. -/
namespace Go.Proofs.G5m
open Go Go.Abs Go.Proofs Go.Str
set_option maxRecDepth 100000
theorem bcT' {x y : Prop} : bcase true x y = x := rfl
theorem bc_o {cs : List Value} {n : Nat} (h : cs.length = n) {x y : Prop} : bcase (AObj.isOpen (.sym cs true 1) 0 n) x y = x := by
  rw [show AObj.isOpen (.sym cs true 1) 0 n = true by simp [AObj.isOpen, h]]; rfl
theorem tl0 : ByteArray.toList { data := #[] } = [] := by have := bs_toList []; exact this
theorem tail_strs (a : List UInt8) (r : W) {n : Nat} (h : n = (a :: r).length) : List.take ((n - 1) * 1) (List.drop 1 (strs (a :: r))) = strs r := by
  subst h; simp [strs, List.take_of_length_le]
theorem strs_at1 (a : List UInt8) (r : W) (i : Nat) (h : i < r.length) : At (strs (a :: r)) (1 + i * 1) 1 [str r[i]] := by
  have := strs_at (a :: r) (i + 1) (by simp; omega)
  rw [show 0 + (i + 1) * 1 = 1 + i * 1 by omega] at this
  exact this
theorem psE_7 {nm : List UInt8} {nums : W} (h : nm.length = 0 ∨ okW nums = false) : resS nm nums = [.agg [dS [], .nil], dI 7] := by
  have e : psE nm nums = 7 := by unfold psE; rw [if_pos h]
  unfold resS; rw [e]; rfl
theorem psE_4 {nm : List UInt8} {nums : W} (h : ¬ (nm.length = 0 ∨ okW nums = false)) (h4 : nameOK nm = false) : resS nm nums = [.agg [dS [], .nil], dI 4] := by
  have e : psE nm nums = 4 := by unfold psE; rw [if_neg h, if_pos h4]
  unfold resS; rw [e]; rfl
theorem psE_8 {nm : List UInt8} {nums : W} (h : ¬ (nm.length = 0 ∨ okW nums = false)) (h4 : ¬ nameOK nm = false) (h8 : 6 < nums.length) : resS nm nums = [.agg [dS [], .nil], dI 8] := by
  have e : psE nm nums = 8 := by unfold psE; rw [if_neg h, if_neg h4, if_pos h8]
  unfold resS; rw [e]; rfl
theorem psE_2 {nm : List UInt8} {nums : W} (h : ¬ (nm.length = 0 ∨ okW nums = false)) (h4 : ¬ nameOK nm = false) (h8 : ¬ 6 < nums.length) (h2 : ¬ ∀ n ∈ numsW nums, 1 ≤ n ∧ n ≤ 1000) : resS nm nums = [.agg [dS [], .nil], dI 2] := by
  have e : psE nm nums = 2 := by unfold psE; rw [if_neg h, if_neg h4, if_neg h8, if_neg h2]
  unfold resS; rw [e]; rfl
theorem psE_0 {nm : List UInt8} {nums : W} (h : ¬ (nm.length = 0 ∨ okW nums = false)) (h4 : ¬ nameOK nm = false) (h8 : ¬ 6 < nums.length) (h2 : ∀ n ∈ numsW nums, 1 ≤ n ∧ n ≤ 1000) : resS nm nums = [.agg [dS nm, slT (numsW nums)], dI 0] := by
  have e : psE nm nums = 0 := by unfold psE; rw [if_neg h, if_neg h4, if_neg h8, if_pos h2]
  unfold resS; rw [e, if_pos rfl]
theorem nums_at {ws : W} {i : Nat} (h : i < ws.length) : numF 0 ws[i] ∈ numsW ws := List.mem_map.2 ⟨_, List.getElem_mem h, rfl⟩
theorem nums_take {ws : W} {i : Nat} (h : i < ws.length) {Q : Int → Prop} (h1 : ∀ n ∈ numsW (ws.take i), Q n) (h2 : Q (numF 0 ws[i])) : ∀ n ∈ numsW (ws.take (i + 1)), Q n := by
  intro n hn
  rw [List.take_succ_eq_append_getElem h, numsW, List.map_append] at hn
  rcases List.mem_append.1 hn with hn | hn
  · exact h1 n hn
  · simp at hn; rw [hn]; exact h2
theorem isEmp {l : List UInt8} : (l == ([] : List UInt8)) = decide (l.length = 0) := by cases l <;> simp
structure PsOK (nm : List UInt8) (nums : W) : Prop where
  a : ¬ (nm.length = 0 ∨ okW nums = false)
  b : ¬ nameOK nm = false
  c : ¬ 6 < nums.length
theorem conPS (s nm : List UInt8) (nums : W) (hs : s.length < 1000000) (hw : cutA 32 [] s = nm :: nums) : C5 5 [dS s] (resS nm nums) := by
  have hlen : nums.length < 1000000 := by
    have h1 := cutA_len (c := 32) (l := s) (acc := [])
    rw [hw, List.length_cons] at h1
    have := List.count_le_length (a := (32 : UInt8)) (l := s)
    omega
  let inv : Nat → Prop := fun i => PsOK nm nums ∧ i ≤ nums.length ∧ ∀ n ∈ numsW (nums.take i), 1 ≤ n ∧ n ≤ 1000
  let st : Nat → Slots × Blocks := fun i => match i with
    | 0 => zPS1 1 nums.length nums.length ((0 : Nat) : Int) (bs []) (bs nm) (strs (nm :: nums))
    | i + 1 => zPS2 1 nums.length nums.length ((i + 1 : Nat) : Int) (bs []) (bs nm) (i + 1) (strs (nm :: nums)) (vi (numsW (nums.take (i + 1))))
  have cSp := conSp s 32 (by omega)
  rw [hw] at cSp
  refine con_of (L := fun _ s b => ∃ x, inv x ∧ st x = (s, b)) hokX mixed Tryz.func5 rfl (by show 0 ≤ 400; omega) rfl (ids := [1]) (by kernel_rfl) rfl (fun caps => ?_) (fun id hid => ?_)
  · show gPS _ _ (bs s) _
    rw [gPS_text]
    refine .inr ⟨_, _, ⟨cSp⟩, ?_⟩
    have p0 : (0 : Int) < ((nm :: nums).length : Int) := by simp only [List.length_cons]; omega
    have p1 : (1 : Int) ≤ ((nm :: nums).length : Int) := by simp only [List.length_cons]; omega
    have p2 : (nm :: nums).length ≤ (nm :: nums).length := Nat.le_refl _
    have p3 : 1 + ((nm :: nums).length - 1) * 1 ≤ (strs (nm :: nums)).length := by simp only [strs_length, List.length_cons]; omega
    have a0 : At (strs (nm :: nums)) 0 1 [str nm] := strs_at (nm :: nums) 0 (by simp)
    simp only [bc_t p0, bc_t p1, bc_t p2, bc_o (strs_length _), bc_t p3, atS a0, bs_toList, tl0, isEmp, tail_strs nm nums rfl, Qv, eq_self, true_and, and_true]
    have c1 := conaN nums (by omega)
    have c2 := coniN nm
    refine bc_dec (fun h => ?_) (fun h => ?_)
    · show _ = resS nm nums; rw [psE_7 (.inl h)]
    · cases hok : okW nums with
      | false =>
        rw [hok] at c1
        refine .inr ⟨⟨c1⟩, ?_⟩
        show _ = resS nm nums; rw [psE_7 (.inr hok)]
      | true =>
        rw [hok] at c1
        have g1 : ¬ (nm.length = 0 ∨ okW nums = false) := by rw [hok]; simp; exact fun e => h (by rw [e]; rfl)
        cases hnm : nameOK nm with
        | false =>
          rw [hnm] at c2
          refine .inl ⟨⟨c1⟩, .inr ⟨⟨c2⟩, ?_⟩⟩
          show _ = resS nm nums; rw [psE_4 g1 hnm]
        | true =>
          rw [hnm] at c2
          have g2 : ¬ nameOK nm = false := by rw [hnm]; decide
          refine .inl ⟨⟨c1⟩, .inl ⟨⟨c2⟩, bc_dec (fun q => ?_) (fun q => ?_)⟩⟩
          · show _ = resS nm nums; rw [psE_8 g1 g2 (by simp only [List.length_cons] at q; omega)]
          · exact ⟨0, ⟨⟨g1, g2, by simp only [List.length_cons] at q; omega⟩, Nat.zero_le _, by simp [numsW]⟩, rfl⟩
  · obtain rfl := List.mem_singleton.1 hid
    refine ⟨_, st, inv, fun i => nums.length - i, ⟨fun s b h => h, by kernel_rfl, ?_⟩⟩
    rintro i ⟨⟨g1, g2, g3⟩, hi, hall⟩
    have hok : okW nums = true := by cases h : okW nums with
      | true => rfl
      | false => exact absurd (.inr h) g1
    have cO : ∀ (h : i < nums.length), C5 25 [dS nums[i]] [dI (numF 0 nums[i])] := fun h => connO _ (okW_mem hok (List.getElem_mem h))
    have cT : ∀ (h : i < nums.length), C5 26 [dI (numF 0 nums[i])] [dI (if 1 ≤ numF 0 nums[i] ∧ numF 0 nums[i] ≤ 1000 then 0 else 2)] := fun h => by
      have c := conCT (numF 0 nums[i])
      rw [wE1] at c; exact c
    cases i with
    | zero =>
      show rPS1 _ _ 1 nums.length nums.length ((0 : Nat) : Int) (bs []) (bs nm) (strs (nm :: nums)) _ _ _
      rw [rPS1_text]
      refine bc_dec (fun h => ?_) (fun h => ?_)
      · have h1 : 0 < nums.length := by omega
        simp only [bc_t (show (0 : Int) ≤ ((0 : Nat) : Int) by omega), bc_t h, Int.toNat_natCast, atS (strs_at1 nm nums 0 h1)]
        refine ⟨_, ⟨cO h1⟩, _, ⟨cT h1⟩, ?_⟩
        by_cases hr : (1 : Int) ≤ numF 0 nums[0] ∧ numF 0 nums[0] ≤ (1000 : Int)
        · rw [if_pos hr]
          refine bc_bne (fun q => absurd rfl q) (fun _ => ?_)
          refine ⟨1, ⟨⟨g1, g2, g3⟩, by omega, nums_take h1 hall hr⟩, by show nums.length - 1 < nums.length - 0; omega, ?_⟩
          show zPS2 _ _ _ _ _ _ _ _ (vi (numsW (nums.take (0 + 1)))) = _
          rw [← nums_snoc h1, w64 (by omega) (by omega)]; rfl
        · rw [if_neg hr]
          refine bc_bne (fun _ => ?_) (fun q => absurd q (by decide))
          show _ = resS nm nums
          rw [psE_2 g1 g2 g3 (fun hh => hr (hh _ (nums_at h1)))]
      · show (if 1 = 1 then _ else _)
        rw [if_pos rfl]
        show nPS3 _ _ (bs []) (bs nm) _
        rw [nPS3_text]
        have : nums = [] := List.length_eq_zero_iff.1 (by omega)
        show _ = resS nm nums
        rw [psE_0 g1 g2 g3 (by rw [this]; simp [numsW]), this]; rfl
    | succ i =>
      show rPS2 _ _ 1 nums.length nums.length ((i + 1 : Nat) : Int) (bs []) (bs nm) (i + 1) (strs (nm :: nums)) (vi (numsW (nums.take (i + 1)))) _ _ _
      rw [rPS2_text]
      have hT : (vi (numsW (nums.take (i + 1)))).length = i + 1 := by simp [numsW]; omega
      refine bc_dec (fun h => ?_) (fun h => ?_)
      · have h1 : i + 1 < nums.length := by omega
        simp only [bc_t (show (0 : Int) ≤ ((i + 1 : Nat) : Int) by omega), bc_t h, Int.toNat_natCast, atS (strs_at1 nm nums (i + 1) h1)]
        refine ⟨_, ⟨cO h1⟩, _, ⟨cT h1⟩, ?_⟩
        by_cases hr : 1 ≤ numF 0 nums[i + 1] ∧ numF 0 nums[i + 1] ≤ 1000
        · rw [if_pos hr]
          refine bc_bne (fun q => absurd rfl q) (fun _ => ?_)
          refine bc_yes (by omega) (bc_yes (by omega) (bc_yes (by omega) (bc_yes (by omega) (bc_yes (by omega) ?_))))
          refine ⟨i + 2, ⟨⟨g1, g2, g3⟩, by omega, nums_take h1 hall hr⟩, by show nums.length - (i + 2) < nums.length - (i + 1); omega, ?_⟩
          show zPS2 _ _ _ _ _ _ _ _ (vi (numsW (nums.take (i + 1 + 1)))) = _
          rw [← nums_snoc h1, show List.take ((i + 1) * 1) (List.drop 0 (vi (numsW (nums.take (i + 1))))) = vi (numsW (nums.take (i + 1))) by rw [List.drop_zero, List.take_of_length_le (by omega)], w64 (by omega) (by omega)]; rfl
        · rw [if_neg hr]
          refine bc_bne (fun _ => ?_) (fun q => absurd q (by decide))
          show _ = resS nm nums
          rw [psE_2 g1 g2 g3 (fun hh => hr (hh _ (nums_at h1)))]
      · show (if 1 = 1 then _ else _)
        rw [if_pos rfl]
        show nPS4 _ _ (bs []) (bs nm) (i + 1) (vi (numsW (nums.take (i + 1)))) _
        rw [nPS4_text]
        have e : i + 1 = nums.length := by omega
        refine ⟨⟨rfl, by omega⟩, ?_⟩
        rw [e, List.take_length] at hall ⊢
        show _ = resS nm nums
        rw [psE_0 g1 g2 g3 hall]
        unfold slT
        rw [if_neg (by rw [numsW, List.length_map]; omega), numsW, List.length_map]
theorem coniT (n : Int) : C5 34 [dI n] [dB (decide (1 ≤ n ∧ n ≤ 1000))] := by
  refine con_flat hokX mixed Tryz.func34 rfl (by show 0 ≤ 400; omega) rfl (by kernel_rfl) (fun caps => ?_)
  show giT _ _ n _
  rw [giT_text]
  have c := conWj n 1 1000
  by_cases h : 1 ≤ n ∧ n ≤ 1000
  · rw [decide_eq_true h] at c ⊢; exact .inl ⟨⟨c⟩, rfl⟩
  · rw [decide_eq_false h] at c ⊢; exact .inr ⟨⟨c⟩, rfl⟩
theorem conrPS (s nm : List UInt8) (nums : W) (hs : s.length < 1000000) (hw : cutA 32 [] s = nm :: nums) : C5 7 [dS s] (resS nm nums) := by
  have hlen : nums.length < 1000000 := by
    have h1 := cutA_len (c := 32) (l := s) (acc := [])
    rw [hw, List.length_cons] at h1
    have := List.count_le_length (a := (32 : UInt8)) (l := s)
    omega
  have hmem : ∀ w ∈ nums, w.length < 1000000000 := fun w h => by
    have := cutA_le (c := 32) (l := s) (acc := []) w (by rw [hw]; exact List.mem_cons_of_mem _ h)
    simp at this; omega
  let inv : Nat → Prop := fun i => (PsOK nm nums ∧ 0 < nums.length) ∧ i ≤ nums.length ∧ ∀ n ∈ numsW (nums.take i), 1 ≤ n ∧ n ≤ 1000
  let inv0 : Prop := PsOK nm nums ∧ nums = []
  let st : Nat → Slots × Blocks := fun i => zrPS2 (nm :: nums).length nums.length (i : Int) (bs []) (bs []) (strs (nm :: nums)) (vi (numsW nums))
  let st0 : Slots × Blocks := zrPS1 (nm :: nums).length ((0 : Nat) : Int) (bs []) (bs []) (strs (nm :: nums))
  let Y : Option Nat → Prop := fun y => match y with | none => inv0 | some i => inv i
  let sY : Option Nat → Slots × Blocks := fun y => match y with | none => st0 | some i => st i
  have cCu := conCu s 32 (by omega)
  rw [hw] at cCu
  have a0 : At (strs (nm :: nums)) 0 1 [str nm] := strs_at (nm :: nums) 0 (by simp)
  have p0 : (0 : Int) < ((nm :: nums).length : Int) := by simp only [List.length_cons]; omega
  have hrest : nums.length ≠ 0 → slT (numsW nums) = .sl nums.length 1 (vi (numsW nums)) := fun h => by
    unfold slT; rw [if_neg (by rw [numsW, List.length_map]; exact h), numsW, List.length_map]
  refine con_of (L := fun _ s b => ∃ x, Y x ∧ sY x = (s, b)) hokX mixed Tryz.func7 rfl (by show 0 ≤ 400; omega) rfl (ids := [0]) (by kernel_rfl) rfl (fun caps => ?_) (fun id hid => ?_)
  · show grPS _ _ (bs s) _
    rw [grPS_text]
    refine .inr ⟨_, _, ⟨cCu⟩, ?_⟩
    have p1 : (1 : Int) ≤ ((nm :: nums).length : Int) := by simp only [List.length_cons]; omega
    have p2 : (nm :: nums).length ≤ (nm :: nums).length := Nat.le_refl _
    have p3 : 1 + ((nm :: nums).length - 1) * 1 ≤ (strs (nm :: nums)).length := by simp only [strs_length, List.length_cons]; omega
    simp only [bc_t p0, bc_t p1, bc_t p2, bc_o (strs_length _), bc_t p3, atS a0, bs_toList, tl0, isEmp, tail_strs nm nums rfl, Qv, eq_self, true_and, and_true]
    have c1 := conpd nums (by omega) hmem
    have c2 := conIN nm
    cases hok : okW nums with
    | false =>
      unfold pdR at c1
      rw [hok, if_neg (by decide)] at c1
      refine .inl (.inr ⟨⟨c1⟩, ?_⟩)
      show _ = resS nm nums; rw [psE_7 (.inr hok)]
    | true =>
      unfold pdR at c1
      rw [hok, if_pos rfl] at c1
      have rest : ∀ {A : Prop}, (¬ (nm.length = 0 ∨ okW nums = false) → ¬ nameOK nm = false → A) → (bcase (decide (nm.length = 0)) ((fun r => r = resS nm nums) [.agg [dS [], .nil], dI 7]) ((Says C5 33 [dS nm] [dB true] ∧ A) ∨ (Says C5 33 [dS nm] [dB false] ∧ (fun r => r = resS nm nums) [.agg [dS [], .nil], dI 4]))) := by
        intro A hA
        refine bc_dec (fun h => ?_) (fun h => ?_)
        · show _ = resS nm nums; rw [psE_7 (.inl h)]
        · have g1 : ¬ (nm.length = 0 ∨ okW nums = false) := by rw [hok]; simp; exact fun e => h (by rw [e]; rfl)
          cases hnm : nameOK nm with
          | false =>
            rw [hnm] at c2
            refine .inr ⟨⟨c2⟩, ?_⟩
            show _ = resS nm nums; rw [psE_4 g1 hnm]
          | true =>
            rw [hnm] at c2
            exact .inl ⟨⟨c2⟩, hA g1 (by rw [hnm]; decide)⟩
      by_cases h0 : nums.length = 0
      · have hn : nums = [] := List.length_eq_zero_iff.1 h0
        have c1' : C5 32 [dSs nums] [.nil, dB true] := by have c := c1; rw [hn] at c ⊢; exact c
        refine .inl (.inl ⟨⟨c1'⟩, rest fun g1 g2 => ?_⟩)
        exact ⟨none, ⟨⟨g1, g2, by omega⟩, hn⟩, rfl⟩
      · rw [hrest h0] at c1
        refine .inr ⟨_, _, .inl ⟨⟨c1⟩, rest fun g1 g2 => bc_dec (fun q => ?_) (fun q => ?_)⟩⟩
        · show _ = resS nm nums; rw [psE_8 g1 g2 (by omega)]
        · exact ⟨some 0, ⟨⟨⟨g1, g2, by omega⟩, by omega⟩, Nat.zero_le _, by simp [numsW]⟩, rfl⟩
  · obtain rfl := List.mem_singleton.1 hid
    refine ⟨_, sY, Y, fun y => match y with | none => 0 | some i => nums.length - i, ⟨fun s b h => h, by kernel_rfl, ?_⟩⟩
    rintro (_ | i) hy
    · obtain ⟨⟨g1, g2, g3⟩, hn⟩ : inv0 := hy
      show rrPS1 _ _ (nm :: nums).length ((0 : Nat) : Int) (bs []) (bs []) (strs (nm :: nums)) _ _ _
      rw [rrPS1_text]
      refine bc_no (by decide) ?_
      show (if 0 = 0 then _ else _)
      rw [if_pos rfl]
      show nrPS3 _ _ (nm :: nums).length (bs []) (strs (nm :: nums)) _
      rw [nrPS3_text]
      simp only [bc_t p0, atS a0]
      show _ = resS nm nums
      rw [psE_0 g1 g2 g3 (by rw [hn]; simp [numsW]), hn]; rfl
    · obtain ⟨⟨⟨g1, g2, g3⟩, h0⟩, hi, hall⟩ : inv i := hy
      show rrPS2 _ _ (nm :: nums).length nums.length (i : Int) (bs []) (bs []) (strs (nm :: nums)) (vi (numsW nums)) _ _ _
      rw [rrPS2_text]
      refine bc_dec (fun h => ?_) (fun h => ?_)
      · have h1 : i < nums.length := by omega
        have hn' : i < (numsW nums).length := by rw [numsW, List.length_map]; exact h1
        have av : At (vi (numsW nums)) (0 + i * 1) 1 [vI (numF 0 nums[i])] := by
          have := vi_at (numsW nums) i hn'
          rw [show (numsW nums)[i] = numF 0 nums[i] by simp [numsW]] at this
          exact this
        simp only [bc_t (show (0 : Int) ≤ (i : Int) by omega), bc_t h, Int.toNat_natCast, at1 av]
        have c := coniT (numF 0 nums[i])
        by_cases hr : 1 ≤ numF 0 nums[i] ∧ numF 0 nums[i] ≤ 1000
        · rw [decide_eq_true hr] at c
          refine .inl ⟨⟨c⟩, some (i + 1), ⟨⟨⟨g1, g2, g3⟩, h0⟩, by omega, nums_take h1 hall hr⟩, by show nums.length - (i + 1) < nums.length - i; omega, ?_⟩
          rw [w64 (by omega) (by omega)]; rfl
        · rw [decide_eq_false hr] at c
          refine .inr ⟨⟨c⟩, ?_⟩
          show _ = resS nm nums
          rw [psE_2 g1 g2 g3 (fun hh => hr (hh _ (nums_at h1)))]
      · show (if 0 = 0 then _ else _)
        rw [if_pos rfl]
        show nrPS4 _ _ (nm :: nums).length nums.length (bs []) (strs (nm :: nums)) (vi (numsW nums)) _
        rw [nrPS4_text]
        simp only [bc_t p0, atS a0]
        have e : i = nums.length := by omega
        rw [e, List.take_length] at hall
        refine ⟨by simp [numsW], ?_⟩
        show _ = resS nm nums
        rw [psE_0 g1 g2 g3 hall, hrest (by omega)]
end Go.Proofs.G5m

/- What is left to show of each function, written out; the kernel reckons it. -/
namespace Go.Proofs.G5m
open Go Go.Abs Go.Proofs
set_option maxRecDepth 100000
set_option linter.unusedVariables false
def gPR (C : Ct) (L : AtLoop) (s0 : ByteArray) (k : List D → Prop) : Prop := wpFn Tryz.prog (hX C) L 0 6 #[.string s0] (heapOf []) (dataK k)
theorem gPR_text (C : Ct) (L : AtLoop) (s0 : ByteArray) (k : List D → Prop) : gPR C L s0 k =
 (((Says C 22 [(D.val (Value.string (s0))), (D.val (Value.string ({ data := #[32, 59, 32] })))] [D.nil]) ∧
 (((Qv (Value.agg [(Pt 1001 0), (Pt 1001 1), (Pt 1001 2), (Pt 1001 3), (Pt 1001 4), (Pt 1001 5), (Pt 1001 7), (Pt 1001 8), (Pt 1001 9), (Pt 1001 10)].toArray)) ∧
 ((Qv (Pt 1001 10)) ∧
 ((Qv (Pt 1001 9)) ∧
 ((Qv (Pt 1001 0)) ∧
 ((Qv (Pt 1001 0)) ∧
 ((Qv (Pt 1001 9)) ∧
 ((Qv (Pt 1001 9)) ∧
 ((Qv (Pt 1001 0)) ∧
 ((Qv (Pt 1001 0)) ∧
 ((Qv (Pt 1001 8)) ∧
 ((Qv (Pt 1001 7)) ∧
 ((Qv (Pt 1001 0)) ∧
 ((Qv (Pt 1001 0)) ∧
 ((Qv (Pt 1001 7)) ∧
 ((Qv (Pt 1001 7)) ∧
 ((Qv (Pt 1001 0)) ∧
 ((Qv (Pt 1001 0)) ∧
 ((Qv (Pt 1001 5)) ∧
 ((Qv (Pt 1001 0)) ∧
 ((Qv (Pt 1001 0)) ∧
 ((Qv (Pt 1001 4)) ∧
 ((Qv (Pt 1001 3)) ∧
 ((Qv (Pt 1001 0)) ∧
 ((Qv (Pt 1001 0)) ∧
 ((Qv (Pt 1001 3)) ∧
 ((Qv (Pt 1001 3)) ∧
 ((Qv (Pt 1001 0)) ∧
 ((Qv (Pt 1001 0)) ∧
 ((Qv (Pt 1001 2)) ∧
 ((Qv (Pt 1001 0)) ∧
 ((Qv (Pt 1001 0)) ∧
 ((Qv (Pt 1001 1)) ∧
 ((Qv (Pt 1001 0)) ∧
 ((Qv (Pt 1001 0)) ∧
 ((Qv (Pt 1001 0)) ∧
 ((Qv (Pt 1001 0)) ∧
 ((Qv (Pt 1001 0)) ∧
 True))))))))))))))))))))))))))))))))))))) ∧
 (True ∧
 False))) ∨
 (∃ n1 : Nat,
 (∃ cs1 : List Go.Value,
 ((Says C 22 [(D.val (Value.string (s0))), (D.val (Value.string ({ data := #[32, 59, 32] })))] [(D.sl (n1) 1 (cs1))]) ∧
 (((Qv (Value.agg [(Pt 1001 0), (Pt 1001 1), (Pt 1001 2), (Pt 1001 3), (Pt 1001 4), (Pt 1001 5), (Pt 1001 7), (Pt 1001 8), (Pt 1001 9), (Pt 1001 10)].toArray)) ∧
 ((Qv (Pt 1001 10)) ∧
 ((Qv (Pt 1001 9)) ∧
 ((Qv (Pt 1001 0)) ∧
 ((Qv (Pt 1001 0)) ∧
 ((Qv (Pt 1001 9)) ∧
 ((Qv (Pt 1001 9)) ∧
 ((Qv (Pt 1001 0)) ∧
 ((Qv (Pt 1001 0)) ∧
 ((Qv (Pt 1001 8)) ∧
 ((Qv (Pt 1001 7)) ∧
 ((Qv (Pt 1001 0)) ∧
 ((Qv (Pt 1001 0)) ∧
 ((Qv (Pt 1001 7)) ∧
 ((Qv (Pt 1001 7)) ∧
 ((Qv (Pt 1001 0)) ∧
 ((Qv (Pt 1001 0)) ∧
 ((Qv (Pt 1001 5)) ∧
 ((Qv (Pt 1001 0)) ∧
 ((Qv (Pt 1001 0)) ∧
 ((Qv (Pt 1001 4)) ∧
 ((Qv (Pt 1001 3)) ∧
 ((Qv (Pt 1001 0)) ∧
 ((Qv (Pt 1001 0)) ∧
 ((Qv (Pt 1001 3)) ∧
 ((Qv (Pt 1001 3)) ∧
 ((Qv (Pt 1001 0)) ∧
 ((Qv (Pt 1001 0)) ∧
 ((Qv (Pt 1001 2)) ∧
 ((Qv (Pt 1001 0)) ∧
 ((Qv (Pt 1001 0)) ∧
 ((Qv (Pt 1001 1)) ∧
 ((Qv (Pt 1001 0)) ∧
 ((Qv (Pt 1001 0)) ∧
 ((Qv (Pt 1001 0)) ∧
 ((Qv (Pt 1001 0)) ∧
 ((Qv (Pt 1001 0)) ∧
 True))))))))))))))))))))))))))))))))))))) ∧
 (True ∧
 (bcase (decide (0 < (↑n1 : Int)))
 (∃ s1 : ByteArray,
 ((At (cs1) 0 1 [(Value.string (s1))]) ∧
 (((Qv (Sl 1004 10 10)) ∧
 ((∃ s2 : ByteArray,
 ((At (cs1) 0 1 [(Value.string (s2))]) ∧
 ((Value.string (s2)) = (Value.string (s1))))) ∧
 ((bcase (decide (0 < (↑n1 : Int)))
 (Qv (Pt 1002 0))
 False) ∧
 ((Qv (Sl 1002 (n1) (n1))) ∧
 True)))) ∧
 (((Says C 22 [(D.val (Value.string (s1))), (D.val (Value.string ({ data := #[32] })))] [D.nil]) ∧
 (((Qv (Value.bool true)) ∧
 ((bcase (decide (0 < (↑n1 : Int)))
 (Qv (Pt 1002 0))
 False) ∧
 ((Qv (Sl 1002 (n1) (n1))) ∧
 True))) ∧
 (k [(D.agg [(D.val (vI 0)), (D.val (vI 0)), (D.val (vI 0)), (D.val (vI 0)), (D.val (vI 0)), (D.val (vI 0)), D.nil, (D.val (vI 0)), (D.val (vI 0)), (D.val (vI 0)), (D.val (vI 0))]), (D.val (vI 7))]))) ∨
 (∃ n2 : Nat,
 (∃ cs2 : List Go.Value,
 ((Says C 22 [(D.val (Value.string (s1))), (D.val (Value.string ({ data := #[32] })))] [(D.sl (n2) 1 (cs2))]) ∧
 (bcase ((↑n2 : Int) != (↑10 : Int))
 (((Qv (Value.bool true)) ∧
 ((bcase (decide (0 < (↑n1 : Int)))
 (Qv (Pt 1002 0))
 False) ∧
 ((Qv (Sl 1002 (n1) (n1))) ∧
 True))) ∧
 (k [(D.agg [(D.val (vI 0)), (D.val (vI 0)), (D.val (vI 0)), (D.val (vI 0)), (D.val (vI 0)), (D.val (vI 0)), D.nil, (D.val (vI 0)), (D.val (vI 0)), (D.val (vI 0)), (D.val (vI 0))]), (D.val (vI 7))]))
 (bcase (decide (0 + n2 * 1 ≤ List.length cs2))
 (((Says C 23 [(D.sl (n2) 1 (List.take (n2 * 1) (List.drop 0 cs2)))] [(D.val (Value.bool true))]) ∧
 (bcase (decide (0 < (↑n2 : Int)))
 (bcase (decide (0 < (↑n2 : Int)))
 (∃ s2 : ByteArray,
 ((At (cs2) 0 1 [(Value.string (s2))]) ∧
 (((Qv (Value.string (s2))) ∧
 ((Qv (Pt 1001 0)) ∧
 ((Qv (Pt 1004 0)) ∧
 ((Qv (vI 0)) ∧
 ((Qv (Sl 1004 10 10)) ∧
 True))))) ∧
 (∃ n3 : Int,
 ((Says C 25 [(D.val (Value.string (s2)))] [(D.val (vI n3))]) ∧
 (((Qv (Pt 1001 0)) ∧
 ((Qv (Pt 1001 0)) ∧
 ((Qv (Pt 1004 0)) ∧
 ((Qv (vI 0)) ∧
 ((Qv (Sl 1004 10 10)) ∧
 True))))) ∧
 (True ∧
 (bcase (decide (IntKind.wrap .i64 (0 + 1) < (↑n2 : Int)))
 (bcase (decide (IntKind.wrap .i64 (0 + 1) < (↑n2 : Int)))
 (∃ s3 : ByteArray,
 ((At (cs2) 1 1 [(Value.string (s3))]) ∧
 (((Qv (Value.string (s3))) ∧
 ((Qv (Pt 1001 1)) ∧
 ((Qv (Pt 1004 1)) ∧
 ((Qv (vI 1)) ∧
 ((Qv (Sl 1004 10 10)) ∧
 True))))) ∧
 (∃ n4 : Int,
 ((Says C 25 [(D.val (Value.string (s3)))] [(D.val (vI n4))]) ∧
 (((Qv (Pt 1001 1)) ∧
 ((Qv (Pt 1001 1)) ∧
 ((Qv (Pt 1004 1)) ∧
 ((Qv (vI 1)) ∧
 ((Qv (Sl 1004 10 10)) ∧
 True))))) ∧
 (True ∧
 (bcase (decide (IntKind.wrap .i64 (IntKind.wrap .i64 (0 + 1) + 1) < (↑n2 : Int)))
 (bcase (decide (IntKind.wrap .i64 (IntKind.wrap .i64 (0 + 1) + 1) < (↑n2 : Int)))
 (∃ s4 : ByteArray,
 ((At (cs2) 2 1 [(Value.string (s4))]) ∧
 (((Qv (Value.string (s4))) ∧
 ((Qv (Pt 1001 2)) ∧
 ((Qv (Pt 1004 2)) ∧
 ((Qv (vI 2)) ∧
 ((Qv (Sl 1004 10 10)) ∧
 True))))) ∧
 (∃ n5 : Int,
 ((Says C 25 [(D.val (Value.string (s4)))] [(D.val (vI n5))]) ∧
 (((Qv (Pt 1001 2)) ∧
 ((Qv (Pt 1001 2)) ∧
 ((Qv (Pt 1004 2)) ∧
 ((Qv (vI 2)) ∧
 ((Qv (Sl 1004 10 10)) ∧
 True))))) ∧
 (True ∧
 (bcase (decide (IntKind.wrap .i64 (IntKind.wrap .i64 (IntKind.wrap .i64 (0 + 1) + 1) + 1) < (↑n2 : Int)))
 (bcase (decide (IntKind.wrap .i64 (IntKind.wrap .i64 (IntKind.wrap .i64 (0 + 1) + 1) + 1) < (↑n2 : Int)))
 (∃ s5 : ByteArray,
 ((At (cs2) 3 1 [(Value.string (s5))]) ∧
 (((Qv (Value.string (s5))) ∧
 ((Qv (Pt 1001 3)) ∧
 ((Qv (Pt 1004 3)) ∧
 ((Qv (vI 3)) ∧
 ((Qv (Sl 1004 10 10)) ∧
 True))))) ∧
 (∃ n6 : Int,
 ((Says C 25 [(D.val (Value.string (s5)))] [(D.val (vI n6))]) ∧
 (((Qv (Pt 1001 3)) ∧
 ((Qv (Pt 1001 3)) ∧
 ((Qv (Pt 1004 3)) ∧
 ((Qv (vI 3)) ∧
 ((Qv (Sl 1004 10 10)) ∧
 True))))) ∧
 (True ∧
 (bcase (decide (IntKind.wrap .i64 (IntKind.wrap .i64 (IntKind.wrap .i64 (IntKind.wrap .i64 (0 + 1) + 1) + 1) + 1) < (↑n2 : Int)))
 (bcase (decide (IntKind.wrap .i64 (IntKind.wrap .i64 (IntKind.wrap .i64 (IntKind.wrap .i64 (0 + 1) + 1) + 1) + 1) < (↑n2 : Int)))
 (∃ s6 : ByteArray,
 ((At (cs2) 4 1 [(Value.string (s6))]) ∧
 (((Qv (Value.string (s6))) ∧
 ((Qv (Pt 1001 4)) ∧
 ((Qv (Pt 1004 4)) ∧
 ((Qv (vI 4)) ∧
 ((Qv (Sl 1004 10 10)) ∧
 True))))) ∧
 (∃ n7 : Int,
 ((Says C 25 [(D.val (Value.string (s6)))] [(D.val (vI n7))]) ∧
 (((Qv (Pt 1001 4)) ∧
 ((Qv (Pt 1001 4)) ∧
 ((Qv (Pt 1004 4)) ∧
 ((Qv (vI 4)) ∧
 ((Qv (Sl 1004 10 10)) ∧
 True))))) ∧
 (True ∧
 (bcase (decide (IntKind.wrap .i64 (IntKind.wrap .i64 (IntKind.wrap .i64 (IntKind.wrap .i64 (IntKind.wrap .i64 (0 + 1) + 1) + 1) + 1) + 1) < (↑n2 : Int)))
 (bcase (decide (IntKind.wrap .i64 (IntKind.wrap .i64 (IntKind.wrap .i64 (IntKind.wrap .i64 (IntKind.wrap .i64 (0 + 1) + 1) + 1) + 1) + 1) < (↑n2 : Int)))
 (∃ s7 : ByteArray,
 ((At (cs2) 5 1 [(Value.string (s7))]) ∧
 (((Qv (Value.string (s7))) ∧
 ((Qv (Pt 1001 5)) ∧
 ((Qv (Pt 1004 5)) ∧
 ((Qv (vI 5)) ∧
 ((Qv (Sl 1004 10 10)) ∧
 True))))) ∧
 (∃ n8 : Int,
 ((Says C 25 [(D.val (Value.string (s7)))] [(D.val (vI n8))]) ∧
 (((Qv (Pt 1001 5)) ∧
 ((Qv (Pt 1001 5)) ∧
 ((Qv (Pt 1004 5)) ∧
 ((Qv (vI 5)) ∧
 ((Qv (Sl 1004 10 10)) ∧
 True))))) ∧
 (True ∧
 (bcase (decide (IntKind.wrap .i64 (IntKind.wrap .i64 (IntKind.wrap .i64 (IntKind.wrap .i64 (IntKind.wrap .i64 (IntKind.wrap .i64 (0 + 1) + 1) + 1) + 1) + 1) + 1) < (↑n2 : Int)))
 (bcase (decide (IntKind.wrap .i64 (IntKind.wrap .i64 (IntKind.wrap .i64 (IntKind.wrap .i64 (IntKind.wrap .i64 (IntKind.wrap .i64 (0 + 1) + 1) + 1) + 1) + 1) + 1) < (↑n2 : Int)))
 (∃ s8 : ByteArray,
 ((At (cs2) 6 1 [(Value.string (s8))]) ∧
 (((Qv (Value.string (s8))) ∧
 ((Qv (Pt 1001 7)) ∧
 ((Qv (Pt 1004 6)) ∧
 ((Qv (vI 6)) ∧
 ((Qv (Sl 1004 10 10)) ∧
 True))))) ∧
 (∃ n9 : Int,
 ((Says C 25 [(D.val (Value.string (s8)))] [(D.val (vI n9))]) ∧
 (((Qv (Pt 1001 7)) ∧
 ((Qv (Pt 1001 7)) ∧
 ((Qv (Pt 1004 6)) ∧
 ((Qv (vI 6)) ∧
 ((Qv (Sl 1004 10 10)) ∧
 True))))) ∧
 (True ∧
 (bcase (decide (IntKind.wrap .i64 (IntKind.wrap .i64 (IntKind.wrap .i64 (IntKind.wrap .i64 (IntKind.wrap .i64 (IntKind.wrap .i64 (IntKind.wrap .i64 (0 + 1) + 1) + 1) + 1) + 1) + 1) + 1) < (↑n2 : Int)))
 (bcase (decide (IntKind.wrap .i64 (IntKind.wrap .i64 (IntKind.wrap .i64 (IntKind.wrap .i64 (IntKind.wrap .i64 (IntKind.wrap .i64 (IntKind.wrap .i64 (0 + 1) + 1) + 1) + 1) + 1) + 1) + 1) < (↑n2 : Int)))
 (∃ s9 : ByteArray,
 ((At (cs2) 7 1 [(Value.string (s9))]) ∧
 (((Qv (Value.string (s9))) ∧
 ((Qv (Pt 1001 8)) ∧
 ((Qv (Pt 1004 7)) ∧
 ((Qv (vI 7)) ∧
 ((Qv (Sl 1004 10 10)) ∧
 True))))) ∧
 (∃ n10 : Int,
 ((Says C 25 [(D.val (Value.string (s9)))] [(D.val (vI n10))]) ∧
 (((Qv (Pt 1001 8)) ∧
 ((Qv (Pt 1001 8)) ∧
 ((Qv (Pt 1004 7)) ∧
 ((Qv (vI 7)) ∧
 ((Qv (Sl 1004 10 10)) ∧
 True))))) ∧
 (True ∧
 (bcase (decide (IntKind.wrap .i64 (IntKind.wrap .i64 (IntKind.wrap .i64 (IntKind.wrap .i64 (IntKind.wrap .i64 (IntKind.wrap .i64 (IntKind.wrap .i64 (IntKind.wrap .i64 (0 + 1) + 1) + 1) + 1) + 1) + 1) + 1) + 1) < (↑n2 : Int)))
 (bcase (decide (IntKind.wrap .i64 (IntKind.wrap .i64 (IntKind.wrap .i64 (IntKind.wrap .i64 (IntKind.wrap .i64 (IntKind.wrap .i64 (IntKind.wrap .i64 (IntKind.wrap .i64 (0 + 1) + 1) + 1) + 1) + 1) + 1) + 1) + 1) < (↑n2 : Int)))
 (∃ s10 : ByteArray,
 ((At (cs2) 8 1 [(Value.string (s10))]) ∧
 (((Qv (Value.string (s10))) ∧
 ((Qv (Pt 1001 9)) ∧
 ((Qv (Pt 1004 8)) ∧
 ((Qv (vI 8)) ∧
 ((Qv (Sl 1004 10 10)) ∧
 True))))) ∧
 (∃ n11 : Int,
 ((Says C 25 [(D.val (Value.string (s10)))] [(D.val (vI n11))]) ∧
 (((Qv (Pt 1001 9)) ∧
 ((Qv (Pt 1001 9)) ∧
 ((Qv (Pt 1004 8)) ∧
 ((Qv (vI 8)) ∧
 ((Qv (Sl 1004 10 10)) ∧
 True))))) ∧
 (True ∧
 (bcase (decide (IntKind.wrap .i64 (IntKind.wrap .i64 (IntKind.wrap .i64 (IntKind.wrap .i64 (IntKind.wrap .i64 (IntKind.wrap .i64 (IntKind.wrap .i64 (IntKind.wrap .i64 (IntKind.wrap .i64 (0 + 1) + 1) + 1) + 1) + 1) + 1) + 1) + 1) + 1) < (↑n2 : Int)))
 (bcase (decide (IntKind.wrap .i64 (IntKind.wrap .i64 (IntKind.wrap .i64 (IntKind.wrap .i64 (IntKind.wrap .i64 (IntKind.wrap .i64 (IntKind.wrap .i64 (IntKind.wrap .i64 (IntKind.wrap .i64 (0 + 1) + 1) + 1) + 1) + 1) + 1) + 1) + 1) + 1) < (↑n2 : Int)))
 (∃ s11 : ByteArray,
 ((At (cs2) 9 1 [(Value.string (s11))]) ∧
 (((Qv (Value.string (s11))) ∧
 ((Qv (Pt 1001 10)) ∧
 ((Qv (Pt 1004 9)) ∧
 ((Qv (vI 9)) ∧
 ((Qv (Sl 1004 10 10)) ∧
 True))))) ∧
 (∃ n12 : Int,
 ((Says C 25 [(D.val (Value.string (s11)))] [(D.val (vI n12))]) ∧
 (((Qv (Pt 1001 10)) ∧
 ((Qv (Pt 1001 10)) ∧
 ((Qv (Pt 1004 9)) ∧
 ((Qv (vI 9)) ∧
 ((Qv (Sl 1004 10 10)) ∧
 True))))) ∧
 (True ∧
 (bcase (decide (IntKind.wrap .i64 (IntKind.wrap .i64 (IntKind.wrap .i64 (IntKind.wrap .i64 (IntKind.wrap .i64 (IntKind.wrap .i64 (IntKind.wrap .i64 (IntKind.wrap .i64 (IntKind.wrap .i64 (IntKind.wrap .i64 (0 + 1) + 1) + 1) + 1) + 1) + 1) + 1) + 1) + 1) + 1) < (↑n2 : Int)))
 (bcase (decide (IntKind.wrap .i64 (IntKind.wrap .i64 (IntKind.wrap .i64 (IntKind.wrap .i64 (IntKind.wrap .i64 (IntKind.wrap .i64 (IntKind.wrap .i64 (IntKind.wrap .i64 (IntKind.wrap .i64 (IntKind.wrap .i64 (0 + 1) + 1) + 1) + 1) + 1) + 1) + 1) + 1) + 1) + 1) < (↑n2 : Int)))
 (∃ s12 : ByteArray,
 ((At (cs2) 10 1 [(Value.string (s12))]) ∧
 False))
 False)
 (((Qv (Value.bool false)) ∧
 ((bcase (decide (0 < (↑n1 : Int)))
 (Qv (Pt 1002 0))
 False) ∧
 ((Qv (Sl 1002 (n1) (n1))) ∧
 True))) ∧
 (bcase (decide (1 ≤ (↑n1 : Int)))
 (bcase (decide (n1 ≤ n1))
 (bcase (AObj.isOpen (AObj.sym cs1 Bool.true 1) 0 n1)
 (L 0 [(Prod.mk 2 (Pt 1000 0)), (Prod.mk 4 (Pt 1001 0)), (Prod.mk 24 (Value.slice (some (Addr.mk 1002 1 none)) (n1 - 1) (n1 - 1))), (Prod.mk 25 (vI ((↑(n1 - 1) : Int)))), (Prod.mk 26 (vI 0))] [(Prod.mk 1000 (AObj.cells [(vI 0), (vI 0), (vI 0), (vI 0), (vI 0), (vI 0), (Value.slice none 0 0), (vI 0), (vI 0), (vI 0), (vI 0)] 33 false 11)), (Prod.mk 1001 (AObj.cells [(vI n3), (vI n4), (vI n5), (vI n6), (vI n7), (vI n8), (Value.slice none 0 0), (vI n9), (vI n10), (vI n11), (vI n12)] 33 false 11)), (Prod.mk 1002 (AObj.sym (cs1) true 1))])
 False)
 False)
 False))))))))))
 False)
 (((Qv (Value.bool false)) ∧
 ((bcase (decide (0 < (↑n1 : Int)))
 (Qv (Pt 1002 0))
 False) ∧
 ((Qv (Sl 1002 (n1) (n1))) ∧
 True))) ∧
 (bcase (decide (1 ≤ (↑n1 : Int)))
 (bcase (decide (n1 ≤ n1))
 (bcase (AObj.isOpen (AObj.sym cs1 Bool.true 1) 0 n1)
 (L 0 [(Prod.mk 2 (Pt 1000 0)), (Prod.mk 4 (Pt 1001 0)), (Prod.mk 24 (Value.slice (some (Addr.mk 1002 1 none)) (n1 - 1) (n1 - 1))), (Prod.mk 25 (vI ((↑(n1 - 1) : Int)))), (Prod.mk 26 (vI 0))] [(Prod.mk 1000 (AObj.cells [(vI 0), (vI 0), (vI 0), (vI 0), (vI 0), (vI 0), (Value.slice none 0 0), (vI 0), (vI 0), (vI 0), (vI 0)] 33 false 11)), (Prod.mk 1001 (AObj.cells [(vI n3), (vI n4), (vI n5), (vI n6), (vI n7), (vI n8), (Value.slice none 0 0), (vI n9), (vI n10), (vI n11), (vI 0)] 33 false 11)), (Prod.mk 1002 (AObj.sym (cs1) true 1))])
 False)
 False)
 False))))))))))
 False)
 (((Qv (Value.bool false)) ∧
 ((bcase (decide (0 < (↑n1 : Int)))
 (Qv (Pt 1002 0))
 False) ∧
 ((Qv (Sl 1002 (n1) (n1))) ∧
 True))) ∧
 (bcase (decide (1 ≤ (↑n1 : Int)))
 (bcase (decide (n1 ≤ n1))
 (bcase (AObj.isOpen (AObj.sym cs1 Bool.true 1) 0 n1)
 (L 0 [(Prod.mk 2 (Pt 1000 0)), (Prod.mk 4 (Pt 1001 0)), (Prod.mk 24 (Value.slice (some (Addr.mk 1002 1 none)) (n1 - 1) (n1 - 1))), (Prod.mk 25 (vI ((↑(n1 - 1) : Int)))), (Prod.mk 26 (vI 0))] [(Prod.mk 1000 (AObj.cells [(vI 0), (vI 0), (vI 0), (vI 0), (vI 0), (vI 0), (Value.slice none 0 0), (vI 0), (vI 0), (vI 0), (vI 0)] 33 false 11)), (Prod.mk 1001 (AObj.cells [(vI n3), (vI n4), (vI n5), (vI n6), (vI n7), (vI n8), (Value.slice none 0 0), (vI n9), (vI n10), (vI 0), (vI 0)] 33 false 11)), (Prod.mk 1002 (AObj.sym (cs1) true 1))])
 False)
 False)
 False))))))))))
 False)
 (((Qv (Value.bool false)) ∧
 ((bcase (decide (0 < (↑n1 : Int)))
 (Qv (Pt 1002 0))
 False) ∧
 ((Qv (Sl 1002 (n1) (n1))) ∧
 True))) ∧
 (bcase (decide (1 ≤ (↑n1 : Int)))
 (bcase (decide (n1 ≤ n1))
 (bcase (AObj.isOpen (AObj.sym cs1 Bool.true 1) 0 n1)
 (L 0 [(Prod.mk 2 (Pt 1000 0)), (Prod.mk 4 (Pt 1001 0)), (Prod.mk 24 (Value.slice (some (Addr.mk 1002 1 none)) (n1 - 1) (n1 - 1))), (Prod.mk 25 (vI ((↑(n1 - 1) : Int)))), (Prod.mk 26 (vI 0))] [(Prod.mk 1000 (AObj.cells [(vI 0), (vI 0), (vI 0), (vI 0), (vI 0), (vI 0), (Value.slice none 0 0), (vI 0), (vI 0), (vI 0), (vI 0)] 33 false 11)), (Prod.mk 1001 (AObj.cells [(vI n3), (vI n4), (vI n5), (vI n6), (vI n7), (vI n8), (Value.slice none 0 0), (vI n9), (vI 0), (vI 0), (vI 0)] 33 false 11)), (Prod.mk 1002 (AObj.sym (cs1) true 1))])
 False)
 False)
 False))))))))))
 False)
 (((Qv (Value.bool false)) ∧
 ((bcase (decide (0 < (↑n1 : Int)))
 (Qv (Pt 1002 0))
 False) ∧
 ((Qv (Sl 1002 (n1) (n1))) ∧
 True))) ∧
 (bcase (decide (1 ≤ (↑n1 : Int)))
 (bcase (decide (n1 ≤ n1))
 (bcase (AObj.isOpen (AObj.sym cs1 Bool.true 1) 0 n1)
 (L 0 [(Prod.mk 2 (Pt 1000 0)), (Prod.mk 4 (Pt 1001 0)), (Prod.mk 24 (Value.slice (some (Addr.mk 1002 1 none)) (n1 - 1) (n1 - 1))), (Prod.mk 25 (vI ((↑(n1 - 1) : Int)))), (Prod.mk 26 (vI 0))] [(Prod.mk 1000 (AObj.cells [(vI 0), (vI 0), (vI 0), (vI 0), (vI 0), (vI 0), (Value.slice none 0 0), (vI 0), (vI 0), (vI 0), (vI 0)] 33 false 11)), (Prod.mk 1001 (AObj.cells [(vI n3), (vI n4), (vI n5), (vI n6), (vI n7), (vI n8), (Value.slice none 0 0), (vI 0), (vI 0), (vI 0), (vI 0)] 33 false 11)), (Prod.mk 1002 (AObj.sym (cs1) true 1))])
 False)
 False)
 False))))))))))
 False)
 (((Qv (Value.bool false)) ∧
 ((bcase (decide (0 < (↑n1 : Int)))
 (Qv (Pt 1002 0))
 False) ∧
 ((Qv (Sl 1002 (n1) (n1))) ∧
 True))) ∧
 (bcase (decide (1 ≤ (↑n1 : Int)))
 (bcase (decide (n1 ≤ n1))
 (bcase (AObj.isOpen (AObj.sym cs1 Bool.true 1) 0 n1)
 (L 0 [(Prod.mk 2 (Pt 1000 0)), (Prod.mk 4 (Pt 1001 0)), (Prod.mk 24 (Value.slice (some (Addr.mk 1002 1 none)) (n1 - 1) (n1 - 1))), (Prod.mk 25 (vI ((↑(n1 - 1) : Int)))), (Prod.mk 26 (vI 0))] [(Prod.mk 1000 (AObj.cells [(vI 0), (vI 0), (vI 0), (vI 0), (vI 0), (vI 0), (Value.slice none 0 0), (vI 0), (vI 0), (vI 0), (vI 0)] 33 false 11)), (Prod.mk 1001 (AObj.cells [(vI n3), (vI n4), (vI n5), (vI n6), (vI n7), (vI 0), (Value.slice none 0 0), (vI 0), (vI 0), (vI 0), (vI 0)] 33 false 11)), (Prod.mk 1002 (AObj.sym (cs1) true 1))])
 False)
 False)
 False))))))))))
 False)
 (((Qv (Value.bool false)) ∧
 ((bcase (decide (0 < (↑n1 : Int)))
 (Qv (Pt 1002 0))
 False) ∧
 ((Qv (Sl 1002 (n1) (n1))) ∧
 True))) ∧
 (bcase (decide (1 ≤ (↑n1 : Int)))
 (bcase (decide (n1 ≤ n1))
 (bcase (AObj.isOpen (AObj.sym cs1 Bool.true 1) 0 n1)
 (L 0 [(Prod.mk 2 (Pt 1000 0)), (Prod.mk 4 (Pt 1001 0)), (Prod.mk 24 (Value.slice (some (Addr.mk 1002 1 none)) (n1 - 1) (n1 - 1))), (Prod.mk 25 (vI ((↑(n1 - 1) : Int)))), (Prod.mk 26 (vI 0))] [(Prod.mk 1000 (AObj.cells [(vI 0), (vI 0), (vI 0), (vI 0), (vI 0), (vI 0), (Value.slice none 0 0), (vI 0), (vI 0), (vI 0), (vI 0)] 33 false 11)), (Prod.mk 1001 (AObj.cells [(vI n3), (vI n4), (vI n5), (vI n6), (vI 0), (vI 0), (Value.slice none 0 0), (vI 0), (vI 0), (vI 0), (vI 0)] 33 false 11)), (Prod.mk 1002 (AObj.sym (cs1) true 1))])
 False)
 False)
 False))))))))))
 False)
 (((Qv (Value.bool false)) ∧
 ((bcase (decide (0 < (↑n1 : Int)))
 (Qv (Pt 1002 0))
 False) ∧
 ((Qv (Sl 1002 (n1) (n1))) ∧
 True))) ∧
 (bcase (decide (1 ≤ (↑n1 : Int)))
 (bcase (decide (n1 ≤ n1))
 (bcase (AObj.isOpen (AObj.sym cs1 Bool.true 1) 0 n1)
 (L 0 [(Prod.mk 2 (Pt 1000 0)), (Prod.mk 4 (Pt 1001 0)), (Prod.mk 24 (Value.slice (some (Addr.mk 1002 1 none)) (n1 - 1) (n1 - 1))), (Prod.mk 25 (vI ((↑(n1 - 1) : Int)))), (Prod.mk 26 (vI 0))] [(Prod.mk 1000 (AObj.cells [(vI 0), (vI 0), (vI 0), (vI 0), (vI 0), (vI 0), (Value.slice none 0 0), (vI 0), (vI 0), (vI 0), (vI 0)] 33 false 11)), (Prod.mk 1001 (AObj.cells [(vI n3), (vI n4), (vI n5), (vI 0), (vI 0), (vI 0), (Value.slice none 0 0), (vI 0), (vI 0), (vI 0), (vI 0)] 33 false 11)), (Prod.mk 1002 (AObj.sym (cs1) true 1))])
 False)
 False)
 False))))))))))
 False)
 (((Qv (Value.bool false)) ∧
 ((bcase (decide (0 < (↑n1 : Int)))
 (Qv (Pt 1002 0))
 False) ∧
 ((Qv (Sl 1002 (n1) (n1))) ∧
 True))) ∧
 (bcase (decide (1 ≤ (↑n1 : Int)))
 (bcase (decide (n1 ≤ n1))
 (bcase (AObj.isOpen (AObj.sym cs1 Bool.true 1) 0 n1)
 (L 0 [(Prod.mk 2 (Pt 1000 0)), (Prod.mk 4 (Pt 1001 0)), (Prod.mk 24 (Value.slice (some (Addr.mk 1002 1 none)) (n1 - 1) (n1 - 1))), (Prod.mk 25 (vI ((↑(n1 - 1) : Int)))), (Prod.mk 26 (vI 0))] [(Prod.mk 1000 (AObj.cells [(vI 0), (vI 0), (vI 0), (vI 0), (vI 0), (vI 0), (Value.slice none 0 0), (vI 0), (vI 0), (vI 0), (vI 0)] 33 false 11)), (Prod.mk 1001 (AObj.cells [(vI n3), (vI n4), (vI 0), (vI 0), (vI 0), (vI 0), (Value.slice none 0 0), (vI 0), (vI 0), (vI 0), (vI 0)] 33 false 11)), (Prod.mk 1002 (AObj.sym (cs1) true 1))])
 False)
 False)
 False))))))))))
 False)
 (((Qv (Value.bool false)) ∧
 ((bcase (decide (0 < (↑n1 : Int)))
 (Qv (Pt 1002 0))
 False) ∧
 ((Qv (Sl 1002 (n1) (n1))) ∧
 True))) ∧
 (bcase (decide (1 ≤ (↑n1 : Int)))
 (bcase (decide (n1 ≤ n1))
 (bcase (AObj.isOpen (AObj.sym cs1 Bool.true 1) 0 n1)
 (L 0 [(Prod.mk 2 (Pt 1000 0)), (Prod.mk 4 (Pt 1001 0)), (Prod.mk 24 (Value.slice (some (Addr.mk 1002 1 none)) (n1 - 1) (n1 - 1))), (Prod.mk 25 (vI ((↑(n1 - 1) : Int)))), (Prod.mk 26 (vI 0))] [(Prod.mk 1000 (AObj.cells [(vI 0), (vI 0), (vI 0), (vI 0), (vI 0), (vI 0), (Value.slice none 0 0), (vI 0), (vI 0), (vI 0), (vI 0)] 33 false 11)), (Prod.mk 1001 (AObj.cells [(vI n3), (vI 0), (vI 0), (vI 0), (vI 0), (vI 0), (Value.slice none 0 0), (vI 0), (vI 0), (vI 0), (vI 0)] 33 false 11)), (Prod.mk 1002 (AObj.sym (cs1) true 1))])
 False)
 False)
 False))))))))))
 False)
 (((Qv (Value.bool false)) ∧
 ((bcase (decide (0 < (↑n1 : Int)))
 (Qv (Pt 1002 0))
 False) ∧
 ((Qv (Sl 1002 (n1) (n1))) ∧
 True))) ∧
 (bcase (decide (1 ≤ (↑n1 : Int)))
 (bcase (decide (n1 ≤ n1))
 (bcase (AObj.isOpen (AObj.sym cs1 Bool.true 1) 0 n1)
 (L 0 [(Prod.mk 2 (Pt 1000 0)), (Prod.mk 4 (Pt 1001 0)), (Prod.mk 24 (Value.slice (some (Addr.mk 1002 1 none)) (n1 - 1) (n1 - 1))), (Prod.mk 25 (vI ((↑(n1 - 1) : Int)))), (Prod.mk 26 (vI 0))] [(Prod.mk 1000 (AObj.cells [(vI 0), (vI 0), (vI 0), (vI 0), (vI 0), (vI 0), (Value.slice none 0 0), (vI 0), (vI 0), (vI 0), (vI 0)] 33 false 11)), (Prod.mk 1001 (AObj.cells [(vI 0), (vI 0), (vI 0), (vI 0), (vI 0), (vI 0), (Value.slice none 0 0), (vI 0), (vI 0), (vI 0), (vI 0)] 33 false 11)), (Prod.mk 1002 (AObj.sym (cs1) true 1))])
 False)
 False)
 False)))) ∨
 ((Says C 23 [(D.sl (n2) 1 (List.take (n2 * 1) (List.drop 0 cs2)))] [(D.val (Value.bool false))]) ∧
 (((Qv (Value.bool true)) ∧
 ((bcase (decide (0 < (↑n1 : Int)))
 (Qv (Pt 1002 0))
 False) ∧
 ((Qv (Sl 1002 (n1) (n1))) ∧
 True))) ∧
 (k [(D.agg [(D.val (vI 0)), (D.val (vI 0)), (D.val (vI 0)), (D.val (vI 0)), (D.val (vI 0)), (D.val (vI 0)), D.nil, (D.val (vI 0)), (D.val (vI 0)), (D.val (vI 0)), (D.val (vI 0))]), (D.val (vI 7))]))))
 False)))))))))
 False))))))) := by kernel_rfl
abbrev zPR1 (o0 : Nat) (n1 : Nat) (x2 : Int) (x3 : Int) (x4 : Int) (x5 : Int) (x6 : Int) (x7 : Int) (x8 : Int) (x9 : Int) (x10 : Int) (x11 : Int) (x12 : Int) (x13 : Int) (x14 : Int) (x15 : Int) (x16 : Int) (x17 : Int) (x18 : Int) (x19 : Int) (x20 : Int) (x21 : Int) (x22 : Int) (x23 : Int) (l24 : List Value) : Slots × Blocks := ([(2, (Value.pointer (some ⟨1000, 0, none⟩))), (4, (Value.pointer (some ⟨1001, 0, none⟩))), (24, (Value.slice (some ⟨1002, o0, none⟩) n1 n1)), (25, (Value.int .i64 x2)), (26, (Value.int .i64 x3))], [(1000, (AObj.cells [(Value.int .i64 x4), (Value.int .i64 x5), (Value.int .i64 x6), (Value.int .i64 x7), (Value.int .i64 x8), (Value.int .i64 x9), (Value.slice none 0 0), (Value.int .i64 x10), (Value.int .i64 x11), (Value.int .i64 x12), (Value.int .i64 x13)] 33 false 11)), (1001, (AObj.cells [(Value.int .i64 x14), (Value.int .i64 x15), (Value.int .i64 x16), (Value.int .i64 x17), (Value.int .i64 x18), (Value.int .i64 x19), (Value.slice none 0 0), (Value.int .i64 x20), (Value.int .i64 x21), (Value.int .i64 x22), (Value.int .i64 x23)] 33 false 11)), (1002, (AObj.sym l24 true 1))])
def rPR1 (C : Ct) (L : AtLoop) (o0 : Nat) (n1 : Nat) (x2 : Int) (x3 : Int) (x4 : Int) (x5 : Int) (x6 : Int) (x7 : Int) (x8 : Int) (x9 : Int) (x10 : Int) (x11 : Int) (x12 : Int) (x13 : Int) (x14 : Int) (x15 : Int) (x16 : Int) (x17 : Int) (x18 : Int) (x19 : Int) (x20 : Int) (x21 : Int) (x22 : Int) (x23 : Int) (l24 : List Value) (B : Bx) (X : Xx) (k : List D → Prop) : Prop := wpRound Tryz.prog (hX C) L 6 0 [(2, (Value.pointer (some ⟨1000, 0, none⟩))), (4, (Value.pointer (some ⟨1001, 0, none⟩))), (24, (Value.slice (some ⟨1002, o0, none⟩) n1 n1)), (25, (Value.int .i64 x2)), (26, (Value.int .i64 x3))] [(1000, (AObj.cells [(Value.int .i64 x4), (Value.int .i64 x5), (Value.int .i64 x6), (Value.int .i64 x7), (Value.int .i64 x8), (Value.int .i64 x9), (Value.slice none 0 0), (Value.int .i64 x10), (Value.int .i64 x11), (Value.int .i64 x12), (Value.int .i64 x13)] 33 false 11)), (1001, (AObj.cells [(Value.int .i64 x14), (Value.int .i64 x15), (Value.int .i64 x16), (Value.int .i64 x17), (Value.int .i64 x18), (Value.int .i64 x19), (Value.slice none 0 0), (Value.int .i64 x20), (Value.int .i64 x21), (Value.int .i64 x22), (Value.int .i64 x23)] 33 false 11)), (1002, (AObj.sym l24 true 1))] B X (dataK k)
theorem rPR1_text (C : Ct) (L : AtLoop) (o0 : Nat) (n1 : Nat) (x2 : Int) (x3 : Int) (x4 : Int) (x5 : Int) (x6 : Int) (x7 : Int) (x8 : Int) (x9 : Int) (x10 : Int) (x11 : Int) (x12 : Int) (x13 : Int) (x14 : Int) (x15 : Int) (x16 : Int) (x17 : Int) (x18 : Int) (x19 : Int) (x20 : Int) (x21 : Int) (x22 : Int) (x23 : Int) (l24 : List Go.Value) (B : Bx) (X : Xx) (k : List D → Prop) : rPR1 C L o0 n1 x2 x3 x4 x5 x6 x7 x8 x9 x10 x11 x12 x13 x14 x15 x16 x17 x18 x19 x20 x21 x22 x23 l24 B X k =
 (bcase (decide (x3 < x2))
 (bcase (decide (0 ≤ x3))
 (bcase (decide (x3 < (↑n1 : Int)))
 (∃ s1 : ByteArray,
 ((At (l24) (o0 + Int.toNat x3 * 1) 1 [(Value.string (s1))]) ∧
 (((Qv (Value.agg [(Pt 1003 0), (Pt 1003 1), (Pt 1003 2), (Pt 1003 3), (Pt 1003 4)].toArray)) ∧
 ((Qv (Pt 1003 4)) ∧
 ((Qv (Pt 1003 3)) ∧
 ((Qv (Pt 1003 0)) ∧
 ((Qv (Pt 1003 0)) ∧
 ((Qv (Pt 1003 3)) ∧
 ((Qv (Pt 1003 3)) ∧
 ((Qv (Pt 1003 0)) ∧
 ((Qv (Pt 1003 0)) ∧
 ((Qv (Pt 1003 2)) ∧
 ((Qv (Pt 1003 0)) ∧
 ((Qv (Pt 1003 0)) ∧
 ((Qv (Pt 1003 1)) ∧
 ((Qv (Pt 1003 0)) ∧
 ((Qv (Pt 1003 0)) ∧
 ((Qv (Pt 1003 0)) ∧
 ((Qv (Pt 1003 0)) ∧
 ((Qv (Pt 1003 0)) ∧
 True)))))))))))))))))) ∧
 (True ∧
 (((Says C 22 [(D.val (Value.string (s1))), (D.val (Value.string ({ data := #[32] })))] [D.nil]) ∧
 (k [(D.agg [(D.val (vI 0)), (D.val (vI 0)), (D.val (vI 0)), (D.val (vI 0)), (D.val (vI 0)), (D.val (vI 0)), D.nil, (D.val (vI 0)), (D.val (vI 0)), (D.val (vI 0)), (D.val (vI 0))]), (D.val (vI 7))])) ∨
 (∃ n2 : Nat,
 (∃ cs1 : List Go.Value,
 ((Says C 22 [(D.val (Value.string (s1))), (D.val (Value.string ({ data := #[32] })))] [(D.sl (n2) 1 (cs1))]) ∧
 (bcase ((↑n2 : Int) != (↑5 : Int))
 (k [(D.agg [(D.val (vI 0)), (D.val (vI 0)), (D.val (vI 0)), (D.val (vI 0)), (D.val (vI 0)), (D.val (vI 0)), D.nil, (D.val (vI 0)), (D.val (vI 0)), (D.val (vI 0)), (D.val (vI 0))]), (D.val (vI 7))])
 (bcase (decide (0 + n2 * 1 ≤ List.length cs1))
 (((Says C 23 [(D.sl (n2) 1 (List.take (n2 * 1) (List.drop 0 cs1)))] [(D.val (Value.bool true))]) ∧
 (bcase (decide (0 < (↑n2 : Int)))
 (bcase (decide (0 < (↑n2 : Int)))
 (∃ s2 : ByteArray,
 ((At (cs1) 0 1 [(Value.string (s2))]) ∧
 (((Qv (Value.string (s2))) ∧
 ((Qv (Pt 1003 0)) ∧
 ((Qv (Pt 1005 0)) ∧
 ((Qv (vI 0)) ∧
 ((Qv (Sl 1005 5 5)) ∧
 True))))) ∧
 (∃ n3 : Int,
 ((Says C 25 [(D.val (Value.string (s2)))] [(D.val (vI n3))]) ∧
 (((Qv (Pt 1003 0)) ∧
 ((Qv (Pt 1003 0)) ∧
 ((Qv (Pt 1005 0)) ∧
 ((Qv (vI 0)) ∧
 ((Qv (Sl 1005 5 5)) ∧
 True))))) ∧
 (True ∧
 (bcase (decide (IntKind.wrap .i64 (0 + 1) < (↑n2 : Int)))
 (bcase (decide (IntKind.wrap .i64 (0 + 1) < (↑n2 : Int)))
 (∃ s3 : ByteArray,
 ((At (cs1) 1 1 [(Value.string (s3))]) ∧
 (((Qv (Value.string (s3))) ∧
 ((Qv (Pt 1003 1)) ∧
 ((Qv (Pt 1005 1)) ∧
 ((Qv (vI 1)) ∧
 ((Qv (Sl 1005 5 5)) ∧
 True))))) ∧
 (∃ n4 : Int,
 ((Says C 25 [(D.val (Value.string (s3)))] [(D.val (vI n4))]) ∧
 (((Qv (Pt 1003 1)) ∧
 ((Qv (Pt 1003 1)) ∧
 ((Qv (Pt 1005 1)) ∧
 ((Qv (vI 1)) ∧
 ((Qv (Sl 1005 5 5)) ∧
 True))))) ∧
 (True ∧
 (bcase (decide (IntKind.wrap .i64 (IntKind.wrap .i64 (0 + 1) + 1) < (↑n2 : Int)))
 (bcase (decide (IntKind.wrap .i64 (IntKind.wrap .i64 (0 + 1) + 1) < (↑n2 : Int)))
 (∃ s4 : ByteArray,
 ((At (cs1) 2 1 [(Value.string (s4))]) ∧
 (((Qv (Value.string (s4))) ∧
 ((Qv (Pt 1003 2)) ∧
 ((Qv (Pt 1005 2)) ∧
 ((Qv (vI 2)) ∧
 ((Qv (Sl 1005 5 5)) ∧
 True))))) ∧
 (∃ n5 : Int,
 ((Says C 25 [(D.val (Value.string (s4)))] [(D.val (vI n5))]) ∧
 (((Qv (Pt 1003 2)) ∧
 ((Qv (Pt 1003 2)) ∧
 ((Qv (Pt 1005 2)) ∧
 ((Qv (vI 2)) ∧
 ((Qv (Sl 1005 5 5)) ∧
 True))))) ∧
 (True ∧
 (bcase (decide (IntKind.wrap .i64 (IntKind.wrap .i64 (IntKind.wrap .i64 (0 + 1) + 1) + 1) < (↑n2 : Int)))
 (bcase (decide (IntKind.wrap .i64 (IntKind.wrap .i64 (IntKind.wrap .i64 (0 + 1) + 1) + 1) < (↑n2 : Int)))
 (∃ s5 : ByteArray,
 ((At (cs1) 3 1 [(Value.string (s5))]) ∧
 (((Qv (Value.string (s5))) ∧
 ((Qv (Pt 1003 3)) ∧
 ((Qv (Pt 1005 3)) ∧
 ((Qv (vI 3)) ∧
 ((Qv (Sl 1005 5 5)) ∧
 True))))) ∧
 (∃ n6 : Int,
 ((Says C 25 [(D.val (Value.string (s5)))] [(D.val (vI n6))]) ∧
 (((Qv (Pt 1003 3)) ∧
 ((Qv (Pt 1003 3)) ∧
 ((Qv (Pt 1005 3)) ∧
 ((Qv (vI 3)) ∧
 ((Qv (Sl 1005 5 5)) ∧
 True))))) ∧
 (True ∧
 (bcase (decide (IntKind.wrap .i64 (IntKind.wrap .i64 (IntKind.wrap .i64 (IntKind.wrap .i64 (0 + 1) + 1) + 1) + 1) < (↑n2 : Int)))
 (bcase (decide (IntKind.wrap .i64 (IntKind.wrap .i64 (IntKind.wrap .i64 (IntKind.wrap .i64 (0 + 1) + 1) + 1) + 1) < (↑n2 : Int)))
 (∃ s6 : ByteArray,
 ((At (cs1) 4 1 [(Value.string (s6))]) ∧
 (((Qv (Value.string (s6))) ∧
 ((Qv (Pt 1003 4)) ∧
 ((Qv (Pt 1005 4)) ∧
 ((Qv (vI 4)) ∧
 ((Qv (Sl 1005 5 5)) ∧
 True))))) ∧
 (∃ n7 : Int,
 ((Says C 25 [(D.val (Value.string (s6)))] [(D.val (vI n7))]) ∧
 (((Qv (Pt 1003 4)) ∧
 ((Qv (Pt 1003 4)) ∧
 ((Qv (Pt 1005 4)) ∧
 ((Qv (vI 4)) ∧
 ((Qv (Sl 1005 5 5)) ∧
 True))))) ∧
 (True ∧
 (bcase (decide (IntKind.wrap .i64 (IntKind.wrap .i64 (IntKind.wrap .i64 (IntKind.wrap .i64 (IntKind.wrap .i64 (0 + 1) + 1) + 1) + 1) + 1) < (↑n2 : Int)))
 (bcase (decide (IntKind.wrap .i64 (IntKind.wrap .i64 (IntKind.wrap .i64 (IntKind.wrap .i64 (IntKind.wrap .i64 (0 + 1) + 1) + 1) + 1) + 1) < (↑n2 : Int)))
 (∃ s7 : ByteArray,
 ((At (cs1) 5 1 [(Value.string (s7))]) ∧
 False))
 False)
 (B [(Prod.mk 2 (Pt 1000 0)), (Prod.mk 4 (Pt 1001 0)), (Prod.mk 24 (Value.slice (some (Addr.mk 1002 (o0) none)) (n1) (n1))), (Prod.mk 25 (vI x2)), (Prod.mk 26 (vI (IntKind.wrap .i64 (x3 + 1))))] [(Prod.mk 1000 (AObj.cells [(vI x4), (vI x5), (vI x6), (vI x7), (vI x8), (vI x9), (Value.slice none 0 0), (vI x10), (vI x11), (vI x12), (vI x13)] 33 false 11)), (Prod.mk 1001 (AObj.cells [(vI x14), (vI x15), (vI x16), (vI x17), (vI x18), (vI x19), (Sl 1003 1 1), (vI x20), (vI x21), (vI x22), (vI x23)] 33 false 11)), (Prod.mk 1002 (AObj.sym (l24) true 1)), (Prod.mk 1003 (AObj.sym [(vI n3), (vI n4), (vI n5), (vI n6), (vI n7)] true 5))])))))))))
 False)
 (B [(Prod.mk 2 (Pt 1000 0)), (Prod.mk 4 (Pt 1001 0)), (Prod.mk 24 (Value.slice (some (Addr.mk 1002 (o0) none)) (n1) (n1))), (Prod.mk 25 (vI x2)), (Prod.mk 26 (vI (IntKind.wrap .i64 (x3 + 1))))] [(Prod.mk 1000 (AObj.cells [(vI x4), (vI x5), (vI x6), (vI x7), (vI x8), (vI x9), (Value.slice none 0 0), (vI x10), (vI x11), (vI x12), (vI x13)] 33 false 11)), (Prod.mk 1001 (AObj.cells [(vI x14), (vI x15), (vI x16), (vI x17), (vI x18), (vI x19), (Sl 1003 1 1), (vI x20), (vI x21), (vI x22), (vI x23)] 33 false 11)), (Prod.mk 1002 (AObj.sym (l24) true 1)), (Prod.mk 1003 (AObj.sym [(vI n3), (vI n4), (vI n5), (vI n6), (vI 0)] true 5))])))))))))
 False)
 (B [(Prod.mk 2 (Pt 1000 0)), (Prod.mk 4 (Pt 1001 0)), (Prod.mk 24 (Value.slice (some (Addr.mk 1002 (o0) none)) (n1) (n1))), (Prod.mk 25 (vI x2)), (Prod.mk 26 (vI (IntKind.wrap .i64 (x3 + 1))))] [(Prod.mk 1000 (AObj.cells [(vI x4), (vI x5), (vI x6), (vI x7), (vI x8), (vI x9), (Value.slice none 0 0), (vI x10), (vI x11), (vI x12), (vI x13)] 33 false 11)), (Prod.mk 1001 (AObj.cells [(vI x14), (vI x15), (vI x16), (vI x17), (vI x18), (vI x19), (Sl 1003 1 1), (vI x20), (vI x21), (vI x22), (vI x23)] 33 false 11)), (Prod.mk 1002 (AObj.sym (l24) true 1)), (Prod.mk 1003 (AObj.sym [(vI n3), (vI n4), (vI n5), (vI 0), (vI 0)] true 5))])))))))))
 False)
 (B [(Prod.mk 2 (Pt 1000 0)), (Prod.mk 4 (Pt 1001 0)), (Prod.mk 24 (Value.slice (some (Addr.mk 1002 (o0) none)) (n1) (n1))), (Prod.mk 25 (vI x2)), (Prod.mk 26 (vI (IntKind.wrap .i64 (x3 + 1))))] [(Prod.mk 1000 (AObj.cells [(vI x4), (vI x5), (vI x6), (vI x7), (vI x8), (vI x9), (Value.slice none 0 0), (vI x10), (vI x11), (vI x12), (vI x13)] 33 false 11)), (Prod.mk 1001 (AObj.cells [(vI x14), (vI x15), (vI x16), (vI x17), (vI x18), (vI x19), (Sl 1003 1 1), (vI x20), (vI x21), (vI x22), (vI x23)] 33 false 11)), (Prod.mk 1002 (AObj.sym (l24) true 1)), (Prod.mk 1003 (AObj.sym [(vI n3), (vI n4), (vI 0), (vI 0), (vI 0)] true 5))])))))))))
 False)
 (B [(Prod.mk 2 (Pt 1000 0)), (Prod.mk 4 (Pt 1001 0)), (Prod.mk 24 (Value.slice (some (Addr.mk 1002 (o0) none)) (n1) (n1))), (Prod.mk 25 (vI x2)), (Prod.mk 26 (vI (IntKind.wrap .i64 (x3 + 1))))] [(Prod.mk 1000 (AObj.cells [(vI x4), (vI x5), (vI x6), (vI x7), (vI x8), (vI x9), (Value.slice none 0 0), (vI x10), (vI x11), (vI x12), (vI x13)] 33 false 11)), (Prod.mk 1001 (AObj.cells [(vI x14), (vI x15), (vI x16), (vI x17), (vI x18), (vI x19), (Sl 1003 1 1), (vI x20), (vI x21), (vI x22), (vI x23)] 33 false 11)), (Prod.mk 1002 (AObj.sym (l24) true 1)), (Prod.mk 1003 (AObj.sym [(vI n3), (vI 0), (vI 0), (vI 0), (vI 0)] true 5))])))))))))
 False)
 (B [(Prod.mk 2 (Pt 1000 0)), (Prod.mk 4 (Pt 1001 0)), (Prod.mk 24 (Value.slice (some (Addr.mk 1002 (o0) none)) (n1) (n1))), (Prod.mk 25 (vI x2)), (Prod.mk 26 (vI (IntKind.wrap .i64 (x3 + 1))))] [(Prod.mk 1000 (AObj.cells [(vI x4), (vI x5), (vI x6), (vI x7), (vI x8), (vI x9), (Value.slice none 0 0), (vI x10), (vI x11), (vI x12), (vI x13)] 33 false 11)), (Prod.mk 1001 (AObj.cells [(vI x14), (vI x15), (vI x16), (vI x17), (vI x18), (vI x19), (Sl 1003 1 1), (vI x20), (vI x21), (vI x22), (vI x23)] 33 false 11)), (Prod.mk 1002 (AObj.sym (l24) true 1)), (Prod.mk 1003 (AObj.sym [(vI 0), (vI 0), (vI 0), (vI 0), (vI 0)] true 5))]))) ∨
 ((Says C 23 [(D.sl (n2) 1 (List.take (n2 * 1) (List.drop 0 cs1)))] [(D.val (Value.bool false))]) ∧
 (k [(D.agg [(D.val (vI 0)), (D.val (vI 0)), (D.val (vI 0)), (D.val (vI 0)), (D.val (vI 0)), (D.val (vI 0)), D.nil, (D.val (vI 0)), (D.val (vI 0)), (D.val (vI 0)), (D.val (vI 0))]), (D.val (vI 7))])))
 False))))))))))
 False)
 False)
 (X 0 [(Prod.mk 2 (Pt 1000 0)), (Prod.mk 4 (Pt 1001 0))] [(Prod.mk 1000 (AObj.cells [(vI x4), (vI x5), (vI x6), (vI x7), (vI x8), (vI x9), (Value.slice none 0 0), (vI x10), (vI x11), (vI x12), (vI x13)] 33 false 11)), (Prod.mk 1001 (AObj.cells [(vI x14), (vI x15), (vI x16), (vI x17), (vI x18), (vI x19), (Value.slice none 0 0), (vI x20), (vI x21), (vI x22), (vI x23)] 33 false 11))])) := by kernel_rfl
abbrev zPR2 (o0 : Nat) (n1 : Nat) (x2 : Int) (x3 : Int) (x4 : Int) (x5 : Int) (x6 : Int) (x7 : Int) (x8 : Int) (x9 : Int) (x10 : Int) (x11 : Int) (x12 : Int) (x13 : Int) (x14 : Int) (x15 : Int) (x16 : Int) (x17 : Int) (x18 : Int) (x19 : Int) (n20 : Nat) (x21 : Int) (x22 : Int) (x23 : Int) (x24 : Int) (l25 : List Value) (l26 : List Value) : Slots × Blocks := ([(2, (Value.pointer (some ⟨1000, 0, none⟩))), (4, (Value.pointer (some ⟨1001, 0, none⟩))), (24, (Value.slice (some ⟨1002, o0, none⟩) n1 n1)), (25, (Value.int .i64 x2)), (26, (Value.int .i64 x3))], [(1000, (AObj.cells [(Value.int .i64 x4), (Value.int .i64 x5), (Value.int .i64 x6), (Value.int .i64 x7), (Value.int .i64 x8), (Value.int .i64 x9), (Value.slice none 0 0), (Value.int .i64 x10), (Value.int .i64 x11), (Value.int .i64 x12), (Value.int .i64 x13)] 33 false 11)), (1001, (AObj.cells [(Value.int .i64 x14), (Value.int .i64 x15), (Value.int .i64 x16), (Value.int .i64 x17), (Value.int .i64 x18), (Value.int .i64 x19), (Value.slice (some ⟨1003, 0, none⟩) n20 n20), (Value.int .i64 x21), (Value.int .i64 x22), (Value.int .i64 x23), (Value.int .i64 x24)] 33 false 11)), (1002, (AObj.sym l25 true 1)), (1003, (AObj.sym l26 true 5))])
def rPR2 (C : Ct) (L : AtLoop) (o0 : Nat) (n1 : Nat) (x2 : Int) (x3 : Int) (x4 : Int) (x5 : Int) (x6 : Int) (x7 : Int) (x8 : Int) (x9 : Int) (x10 : Int) (x11 : Int) (x12 : Int) (x13 : Int) (x14 : Int) (x15 : Int) (x16 : Int) (x17 : Int) (x18 : Int) (x19 : Int) (n20 : Nat) (x21 : Int) (x22 : Int) (x23 : Int) (x24 : Int) (l25 : List Value) (l26 : List Value) (B : Bx) (X : Xx) (k : List D → Prop) : Prop := wpRound Tryz.prog (hX C) L 6 0 [(2, (Value.pointer (some ⟨1000, 0, none⟩))), (4, (Value.pointer (some ⟨1001, 0, none⟩))), (24, (Value.slice (some ⟨1002, o0, none⟩) n1 n1)), (25, (Value.int .i64 x2)), (26, (Value.int .i64 x3))] [(1000, (AObj.cells [(Value.int .i64 x4), (Value.int .i64 x5), (Value.int .i64 x6), (Value.int .i64 x7), (Value.int .i64 x8), (Value.int .i64 x9), (Value.slice none 0 0), (Value.int .i64 x10), (Value.int .i64 x11), (Value.int .i64 x12), (Value.int .i64 x13)] 33 false 11)), (1001, (AObj.cells [(Value.int .i64 x14), (Value.int .i64 x15), (Value.int .i64 x16), (Value.int .i64 x17), (Value.int .i64 x18), (Value.int .i64 x19), (Value.slice (some ⟨1003, 0, none⟩) n20 n20), (Value.int .i64 x21), (Value.int .i64 x22), (Value.int .i64 x23), (Value.int .i64 x24)] 33 false 11)), (1002, (AObj.sym l25 true 1)), (1003, (AObj.sym l26 true 5))] B X (dataK k)
theorem rPR2_text (C : Ct) (L : AtLoop) (o0 : Nat) (n1 : Nat) (x2 : Int) (x3 : Int) (x4 : Int) (x5 : Int) (x6 : Int) (x7 : Int) (x8 : Int) (x9 : Int) (x10 : Int) (x11 : Int) (x12 : Int) (x13 : Int) (x14 : Int) (x15 : Int) (x16 : Int) (x17 : Int) (x18 : Int) (x19 : Int) (n20 : Nat) (x21 : Int) (x22 : Int) (x23 : Int) (x24 : Int) (l25 : List Go.Value) (l26 : List Go.Value) (B : Bx) (X : Xx) (k : List D → Prop) : rPR2 C L o0 n1 x2 x3 x4 x5 x6 x7 x8 x9 x10 x11 x12 x13 x14 x15 x16 x17 x18 x19 n20 x21 x22 x23 x24 l25 l26 B X k =
 (bcase (decide (x3 < x2))
 (bcase (decide (0 ≤ x3))
 (bcase (decide (x3 < (↑n1 : Int)))
 (∃ s1 : ByteArray,
 ((At (l25) (o0 + Int.toNat x3 * 1) 1 [(Value.string (s1))]) ∧
 (((Qv (Value.agg [(Pt 1004 0), (Pt 1004 1), (Pt 1004 2), (Pt 1004 3), (Pt 1004 4)].toArray)) ∧
 ((Qv (Pt 1004 4)) ∧
 ((Qv (Pt 1004 3)) ∧
 ((Qv (Pt 1004 0)) ∧
 ((Qv (Pt 1004 0)) ∧
 ((Qv (Pt 1004 3)) ∧
 ((Qv (Pt 1004 3)) ∧
 ((Qv (Pt 1004 0)) ∧
 ((Qv (Pt 1004 0)) ∧
 ((Qv (Pt 1004 2)) ∧
 ((Qv (Pt 1004 0)) ∧
 ((Qv (Pt 1004 0)) ∧
 ((Qv (Pt 1004 1)) ∧
 ((Qv (Pt 1004 0)) ∧
 ((Qv (Pt 1004 0)) ∧
 ((Qv (Pt 1004 0)) ∧
 ((Qv (Pt 1004 0)) ∧
 ((Qv (Pt 1004 0)) ∧
 True)))))))))))))))))) ∧
 (True ∧
 (((Says C 22 [(D.val (Value.string (s1))), (D.val (Value.string ({ data := #[32] })))] [D.nil]) ∧
 (k [(D.agg [(D.val (vI 0)), (D.val (vI 0)), (D.val (vI 0)), (D.val (vI 0)), (D.val (vI 0)), (D.val (vI 0)), D.nil, (D.val (vI 0)), (D.val (vI 0)), (D.val (vI 0)), (D.val (vI 0))]), (D.val (vI 7))])) ∨
 (∃ n2 : Nat,
 (∃ cs1 : List Go.Value,
 ((Says C 22 [(D.val (Value.string (s1))), (D.val (Value.string ({ data := #[32] })))] [(D.sl (n2) 1 (cs1))]) ∧
 (bcase ((↑n2 : Int) != (↑5 : Int))
 (k [(D.agg [(D.val (vI 0)), (D.val (vI 0)), (D.val (vI 0)), (D.val (vI 0)), (D.val (vI 0)), (D.val (vI 0)), D.nil, (D.val (vI 0)), (D.val (vI 0)), (D.val (vI 0)), (D.val (vI 0))]), (D.val (vI 7))])
 (bcase (decide (0 + n2 * 1 ≤ List.length cs1))
 (((Says C 23 [(D.sl (n2) 1 (List.take (n2 * 1) (List.drop 0 cs1)))] [(D.val (Value.bool true))]) ∧
 (bcase (decide (0 < (↑n2 : Int)))
 (bcase (decide (0 < (↑n2 : Int)))
 (∃ s2 : ByteArray,
 ((At (cs1) 0 1 [(Value.string (s2))]) ∧
 (((Qv (Value.string (s2))) ∧
 ((Qv (Pt 1004 0)) ∧
 ((Qv (Pt 1006 0)) ∧
 ((Qv (vI 0)) ∧
 ((Qv (Sl 1006 5 5)) ∧
 True))))) ∧
 (∃ n3 : Int,
 ((Says C 25 [(D.val (Value.string (s2)))] [(D.val (vI n3))]) ∧
 (((Qv (Pt 1004 0)) ∧
 ((Qv (Pt 1004 0)) ∧
 ((Qv (Pt 1006 0)) ∧
 ((Qv (vI 0)) ∧
 ((Qv (Sl 1006 5 5)) ∧
 True))))) ∧
 (True ∧
 (bcase (decide (IntKind.wrap .i64 (0 + 1) < (↑n2 : Int)))
 (bcase (decide (IntKind.wrap .i64 (0 + 1) < (↑n2 : Int)))
 (∃ s3 : ByteArray,
 ((At (cs1) 1 1 [(Value.string (s3))]) ∧
 (((Qv (Value.string (s3))) ∧
 ((Qv (Pt 1004 1)) ∧
 ((Qv (Pt 1006 1)) ∧
 ((Qv (vI 1)) ∧
 ((Qv (Sl 1006 5 5)) ∧
 True))))) ∧
 (∃ n4 : Int,
 ((Says C 25 [(D.val (Value.string (s3)))] [(D.val (vI n4))]) ∧
 (((Qv (Pt 1004 1)) ∧
 ((Qv (Pt 1004 1)) ∧
 ((Qv (Pt 1006 1)) ∧
 ((Qv (vI 1)) ∧
 ((Qv (Sl 1006 5 5)) ∧
 True))))) ∧
 (True ∧
 (bcase (decide (IntKind.wrap .i64 (IntKind.wrap .i64 (0 + 1) + 1) < (↑n2 : Int)))
 (bcase (decide (IntKind.wrap .i64 (IntKind.wrap .i64 (0 + 1) + 1) < (↑n2 : Int)))
 (∃ s4 : ByteArray,
 ((At (cs1) 2 1 [(Value.string (s4))]) ∧
 (((Qv (Value.string (s4))) ∧
 ((Qv (Pt 1004 2)) ∧
 ((Qv (Pt 1006 2)) ∧
 ((Qv (vI 2)) ∧
 ((Qv (Sl 1006 5 5)) ∧
 True))))) ∧
 (∃ n5 : Int,
 ((Says C 25 [(D.val (Value.string (s4)))] [(D.val (vI n5))]) ∧
 (((Qv (Pt 1004 2)) ∧
 ((Qv (Pt 1004 2)) ∧
 ((Qv (Pt 1006 2)) ∧
 ((Qv (vI 2)) ∧
 ((Qv (Sl 1006 5 5)) ∧
 True))))) ∧
 (True ∧
 (bcase (decide (IntKind.wrap .i64 (IntKind.wrap .i64 (IntKind.wrap .i64 (0 + 1) + 1) + 1) < (↑n2 : Int)))
 (bcase (decide (IntKind.wrap .i64 (IntKind.wrap .i64 (IntKind.wrap .i64 (0 + 1) + 1) + 1) < (↑n2 : Int)))
 (∃ s5 : ByteArray,
 ((At (cs1) 3 1 [(Value.string (s5))]) ∧
 (((Qv (Value.string (s5))) ∧
 ((Qv (Pt 1004 3)) ∧
 ((Qv (Pt 1006 3)) ∧
 ((Qv (vI 3)) ∧
 ((Qv (Sl 1006 5 5)) ∧
 True))))) ∧
 (∃ n6 : Int,
 ((Says C 25 [(D.val (Value.string (s5)))] [(D.val (vI n6))]) ∧
 (((Qv (Pt 1004 3)) ∧
 ((Qv (Pt 1004 3)) ∧
 ((Qv (Pt 1006 3)) ∧
 ((Qv (vI 3)) ∧
 ((Qv (Sl 1006 5 5)) ∧
 True))))) ∧
 (True ∧
 (bcase (decide (IntKind.wrap .i64 (IntKind.wrap .i64 (IntKind.wrap .i64 (IntKind.wrap .i64 (0 + 1) + 1) + 1) + 1) < (↑n2 : Int)))
 (bcase (decide (IntKind.wrap .i64 (IntKind.wrap .i64 (IntKind.wrap .i64 (IntKind.wrap .i64 (0 + 1) + 1) + 1) + 1) < (↑n2 : Int)))
 (∃ s6 : ByteArray,
 ((At (cs1) 4 1 [(Value.string (s6))]) ∧
 (((Qv (Value.string (s6))) ∧
 ((Qv (Pt 1004 4)) ∧
 ((Qv (Pt 1006 4)) ∧
 ((Qv (vI 4)) ∧
 ((Qv (Sl 1006 5 5)) ∧
 True))))) ∧
 (∃ n7 : Int,
 ((Says C 25 [(D.val (Value.string (s6)))] [(D.val (vI n7))]) ∧
 (((Qv (Pt 1004 4)) ∧
 ((Qv (Pt 1004 4)) ∧
 ((Qv (Pt 1006 4)) ∧
 ((Qv (vI 4)) ∧
 ((Qv (Sl 1006 5 5)) ∧
 True))))) ∧
 (True ∧
 (bcase (decide (IntKind.wrap .i64 (IntKind.wrap .i64 (IntKind.wrap .i64 (IntKind.wrap .i64 (IntKind.wrap .i64 (0 + 1) + 1) + 1) + 1) + 1) < (↑n2 : Int)))
 (bcase (decide (IntKind.wrap .i64 (IntKind.wrap .i64 (IntKind.wrap .i64 (IntKind.wrap .i64 (IntKind.wrap .i64 (0 + 1) + 1) + 1) + 1) + 1) < (↑n2 : Int)))
 (∃ s7 : ByteArray,
 ((At (cs1) 5 1 [(Value.string (s7))]) ∧
 False))
 False)
 (bcase (decide (n20 < n20 + 1))
 (bcase (decide ((2 * (n20 + 1) + 768) * 40 ≤ 281474976710656))
 (bcase (decide (n20 + 1 ≤ 1099511627776))
 (bcase (decide (0 + n20 * 5 ≤ List.length l26))
 (bcase (decide (0 + n20 * 5 = List.length l26))
 (B [(Prod.mk 2 (Pt 1000 0)), (Prod.mk 4 (Pt 1001 0)), (Prod.mk 24 (Value.slice (some (Addr.mk 1002 (o0) none)) (n1) (n1))), (Prod.mk 25 (vI x2)), (Prod.mk 26 (vI (IntKind.wrap .i64 (x3 + 1))))] [(Prod.mk 1000 (AObj.cells [(vI x4), (vI x5), (vI x6), (vI x7), (vI x8), (vI x9), (Value.slice none 0 0), (vI x10), (vI x11), (vI x12), (vI x13)] 33 false 11)), (Prod.mk 1001 (AObj.cells [(vI x14), (vI x15), (vI x16), (vI x17), (vI x18), (vI x19), (Sl 1003 (n20 + 1) (n20 + 1)), (vI x21), (vI x22), (vI x23), (vI x24)] 33 false 11)), (Prod.mk 1002 (AObj.sym (l25) true 1)), (Prod.mk 1003 (AObj.sym ((List.take (n20 * 5) (List.drop 0 l26)) ++ [(vI n3), (vI n4), (vI n5), (vI n6), (vI n7)]) true 5))])
 False)
 False)
 False)
 False)
 False)))))))))
 False)
 (bcase (decide (n20 < n20 + 1))
 (bcase (decide ((2 * (n20 + 1) + 768) * 40 ≤ 281474976710656))
 (bcase (decide (n20 + 1 ≤ 1099511627776))
 (bcase (decide (0 + n20 * 5 ≤ List.length l26))
 (bcase (decide (0 + n20 * 5 = List.length l26))
 (B [(Prod.mk 2 (Pt 1000 0)), (Prod.mk 4 (Pt 1001 0)), (Prod.mk 24 (Value.slice (some (Addr.mk 1002 (o0) none)) (n1) (n1))), (Prod.mk 25 (vI x2)), (Prod.mk 26 (vI (IntKind.wrap .i64 (x3 + 1))))] [(Prod.mk 1000 (AObj.cells [(vI x4), (vI x5), (vI x6), (vI x7), (vI x8), (vI x9), (Value.slice none 0 0), (vI x10), (vI x11), (vI x12), (vI x13)] 33 false 11)), (Prod.mk 1001 (AObj.cells [(vI x14), (vI x15), (vI x16), (vI x17), (vI x18), (vI x19), (Sl 1003 (n20 + 1) (n20 + 1)), (vI x21), (vI x22), (vI x23), (vI x24)] 33 false 11)), (Prod.mk 1002 (AObj.sym (l25) true 1)), (Prod.mk 1003 (AObj.sym ((List.take (n20 * 5) (List.drop 0 l26)) ++ [(vI n3), (vI n4), (vI n5), (vI n6), (vI 0)]) true 5))])
 False)
 False)
 False)
 False)
 False)))))))))
 False)
 (bcase (decide (n20 < n20 + 1))
 (bcase (decide ((2 * (n20 + 1) + 768) * 40 ≤ 281474976710656))
 (bcase (decide (n20 + 1 ≤ 1099511627776))
 (bcase (decide (0 + n20 * 5 ≤ List.length l26))
 (bcase (decide (0 + n20 * 5 = List.length l26))
 (B [(Prod.mk 2 (Pt 1000 0)), (Prod.mk 4 (Pt 1001 0)), (Prod.mk 24 (Value.slice (some (Addr.mk 1002 (o0) none)) (n1) (n1))), (Prod.mk 25 (vI x2)), (Prod.mk 26 (vI (IntKind.wrap .i64 (x3 + 1))))] [(Prod.mk 1000 (AObj.cells [(vI x4), (vI x5), (vI x6), (vI x7), (vI x8), (vI x9), (Value.slice none 0 0), (vI x10), (vI x11), (vI x12), (vI x13)] 33 false 11)), (Prod.mk 1001 (AObj.cells [(vI x14), (vI x15), (vI x16), (vI x17), (vI x18), (vI x19), (Sl 1003 (n20 + 1) (n20 + 1)), (vI x21), (vI x22), (vI x23), (vI x24)] 33 false 11)), (Prod.mk 1002 (AObj.sym (l25) true 1)), (Prod.mk 1003 (AObj.sym ((List.take (n20 * 5) (List.drop 0 l26)) ++ [(vI n3), (vI n4), (vI n5), (vI 0), (vI 0)]) true 5))])
 False)
 False)
 False)
 False)
 False)))))))))
 False)
 (bcase (decide (n20 < n20 + 1))
 (bcase (decide ((2 * (n20 + 1) + 768) * 40 ≤ 281474976710656))
 (bcase (decide (n20 + 1 ≤ 1099511627776))
 (bcase (decide (0 + n20 * 5 ≤ List.length l26))
 (bcase (decide (0 + n20 * 5 = List.length l26))
 (B [(Prod.mk 2 (Pt 1000 0)), (Prod.mk 4 (Pt 1001 0)), (Prod.mk 24 (Value.slice (some (Addr.mk 1002 (o0) none)) (n1) (n1))), (Prod.mk 25 (vI x2)), (Prod.mk 26 (vI (IntKind.wrap .i64 (x3 + 1))))] [(Prod.mk 1000 (AObj.cells [(vI x4), (vI x5), (vI x6), (vI x7), (vI x8), (vI x9), (Value.slice none 0 0), (vI x10), (vI x11), (vI x12), (vI x13)] 33 false 11)), (Prod.mk 1001 (AObj.cells [(vI x14), (vI x15), (vI x16), (vI x17), (vI x18), (vI x19), (Sl 1003 (n20 + 1) (n20 + 1)), (vI x21), (vI x22), (vI x23), (vI x24)] 33 false 11)), (Prod.mk 1002 (AObj.sym (l25) true 1)), (Prod.mk 1003 (AObj.sym ((List.take (n20 * 5) (List.drop 0 l26)) ++ [(vI n3), (vI n4), (vI 0), (vI 0), (vI 0)]) true 5))])
 False)
 False)
 False)
 False)
 False)))))))))
 False)
 (bcase (decide (n20 < n20 + 1))
 (bcase (decide ((2 * (n20 + 1) + 768) * 40 ≤ 281474976710656))
 (bcase (decide (n20 + 1 ≤ 1099511627776))
 (bcase (decide (0 + n20 * 5 ≤ List.length l26))
 (bcase (decide (0 + n20 * 5 = List.length l26))
 (B [(Prod.mk 2 (Pt 1000 0)), (Prod.mk 4 (Pt 1001 0)), (Prod.mk 24 (Value.slice (some (Addr.mk 1002 (o0) none)) (n1) (n1))), (Prod.mk 25 (vI x2)), (Prod.mk 26 (vI (IntKind.wrap .i64 (x3 + 1))))] [(Prod.mk 1000 (AObj.cells [(vI x4), (vI x5), (vI x6), (vI x7), (vI x8), (vI x9), (Value.slice none 0 0), (vI x10), (vI x11), (vI x12), (vI x13)] 33 false 11)), (Prod.mk 1001 (AObj.cells [(vI x14), (vI x15), (vI x16), (vI x17), (vI x18), (vI x19), (Sl 1003 (n20 + 1) (n20 + 1)), (vI x21), (vI x22), (vI x23), (vI x24)] 33 false 11)), (Prod.mk 1002 (AObj.sym (l25) true 1)), (Prod.mk 1003 (AObj.sym ((List.take (n20 * 5) (List.drop 0 l26)) ++ [(vI n3), (vI 0), (vI 0), (vI 0), (vI 0)]) true 5))])
 False)
 False)
 False)
 False)
 False)))))))))
 False)
 (bcase (decide (n20 < n20 + 1))
 (bcase (decide ((2 * (n20 + 1) + 768) * 40 ≤ 281474976710656))
 (bcase (decide (n20 + 1 ≤ 1099511627776))
 (bcase (decide (0 + n20 * 5 ≤ List.length l26))
 (bcase (decide (0 + n20 * 5 = List.length l26))
 (B [(Prod.mk 2 (Pt 1000 0)), (Prod.mk 4 (Pt 1001 0)), (Prod.mk 24 (Value.slice (some (Addr.mk 1002 (o0) none)) (n1) (n1))), (Prod.mk 25 (vI x2)), (Prod.mk 26 (vI (IntKind.wrap .i64 (x3 + 1))))] [(Prod.mk 1000 (AObj.cells [(vI x4), (vI x5), (vI x6), (vI x7), (vI x8), (vI x9), (Value.slice none 0 0), (vI x10), (vI x11), (vI x12), (vI x13)] 33 false 11)), (Prod.mk 1001 (AObj.cells [(vI x14), (vI x15), (vI x16), (vI x17), (vI x18), (vI x19), (Sl 1003 (n20 + 1) (n20 + 1)), (vI x21), (vI x22), (vI x23), (vI x24)] 33 false 11)), (Prod.mk 1002 (AObj.sym (l25) true 1)), (Prod.mk 1003 (AObj.sym ((List.take (n20 * 5) (List.drop 0 l26)) ++ [(vI 0), (vI 0), (vI 0), (vI 0), (vI 0)]) true 5))])
 False)
 False)
 False)
 False)
 False))) ∨
 ((Says C 23 [(D.sl (n2) 1 (List.take (n2 * 1) (List.drop 0 cs1)))] [(D.val (Value.bool false))]) ∧
 (k [(D.agg [(D.val (vI 0)), (D.val (vI 0)), (D.val (vI 0)), (D.val (vI 0)), (D.val (vI 0)), (D.val (vI 0)), D.nil, (D.val (vI 0)), (D.val (vI 0)), (D.val (vI 0)), (D.val (vI 0))]), (D.val (vI 7))])))
 False))))))))))
 False)
 False)
 (X 0 [(Prod.mk 2 (Pt 1000 0)), (Prod.mk 4 (Pt 1001 0))] [(Prod.mk 1000 (AObj.cells [(vI x4), (vI x5), (vI x6), (vI x7), (vI x8), (vI x9), (Value.slice none 0 0), (vI x10), (vI x11), (vI x12), (vI x13)] 33 false 11)), (Prod.mk 1001 (AObj.cells [(vI x14), (vI x15), (vI x16), (vI x17), (vI x18), (vI x19), (Sl 1002 (n20) (n20)), (vI x21), (vI x22), (vI x23), (vI x24)] 33 false 11)), (Prod.mk 1002 (AObj.sym (l26) true 5))])) := by kernel_rfl
def nPR3 (C : Ct) (L : AtLoop) (x0 : Int) (x1 : Int) (x2 : Int) (x3 : Int) (x4 : Int) (x5 : Int) (x6 : Int) (x7 : Int) (x8 : Int) (x9 : Int) (x10 : Int) (x11 : Int) (x12 : Int) (x13 : Int) (x14 : Int) (x15 : Int) (x16 : Int) (x17 : Int) (x18 : Int) (x19 : Int) (k : List D → Prop) : Prop := wpNext Tryz.prog (hX C) L 6 0 .normal [(2, (Value.pointer (some ⟨1000, 0, none⟩))), (4, (Value.pointer (some ⟨1001, 0, none⟩)))] [(1000, (AObj.cells [(Value.int .i64 x0), (Value.int .i64 x1), (Value.int .i64 x2), (Value.int .i64 x3), (Value.int .i64 x4), (Value.int .i64 x5), (Value.slice none 0 0), (Value.int .i64 x6), (Value.int .i64 x7), (Value.int .i64 x8), (Value.int .i64 x9)] 33 false 11)), (1001, (AObj.cells [(Value.int .i64 x10), (Value.int .i64 x11), (Value.int .i64 x12), (Value.int .i64 x13), (Value.int .i64 x14), (Value.int .i64 x15), (Value.slice none 0 0), (Value.int .i64 x16), (Value.int .i64 x17), (Value.int .i64 x18), (Value.int .i64 x19)] 33 false 11))] (dataK k)
theorem nPR3_text (C : Ct) (L : AtLoop) (x0 : Int) (x1 : Int) (x2 : Int) (x3 : Int) (x4 : Int) (x5 : Int) (x6 : Int) (x7 : Int) (x8 : Int) (x9 : Int) (x10 : Int) (x11 : Int) (x12 : Int) (x13 : Int) (x14 : Int) (x15 : Int) (x16 : Int) (x17 : Int) (x18 : Int) (x19 : Int) (k : List D → Prop) : nPR3 C L x0 x1 x2 x3 x4 x5 x6 x7 x8 x9 x10 x11 x12 x13 x14 x15 x16 x17 x18 x19 k =
 (∃ n1 : Int,
 (∃ n2 : Int,
 ((Says C 30 [(D.agg [(D.val (vI x10)), (D.val (vI x11)), (D.val (vI x12)), (D.val (vI x13)), (D.val (vI x14)), (D.val (vI x15)), D.nil, (D.val (vI x16)), (D.val (vI x17)), (D.val (vI x18)), (D.val (vI x19))])] [(D.val (vI n1)), (D.val (vI n2))]) ∧
 (bcase (n2 != 0)
 (k [(D.agg [(D.val (vI 0)), (D.val (vI 0)), (D.val (vI 0)), (D.val (vI 0)), (D.val (vI 0)), (D.val (vI 0)), D.nil, (D.val (vI 0)), (D.val (vI 0)), (D.val (vI 0)), (D.val (vI 0))]), (D.val (vI n2))])
 (k [(D.agg [(D.val (vI x10)), (D.val (vI x11)), (D.val (vI x12)), (D.val (vI x13)), (D.val (vI x14)), (D.val (vI x15)), D.nil, (D.val (vI x16)), (D.val (vI x17)), (D.val (vI x18)), (D.val (vI x19))]), (D.val (vI 0))]))))) := by kernel_rfl
def nPR4 (C : Ct) (L : AtLoop) (x0 : Int) (x1 : Int) (x2 : Int) (x3 : Int) (x4 : Int) (x5 : Int) (x6 : Int) (x7 : Int) (x8 : Int) (x9 : Int) (x10 : Int) (x11 : Int) (x12 : Int) (x13 : Int) (x14 : Int) (x15 : Int) (n16 : Nat) (x17 : Int) (x18 : Int) (x19 : Int) (x20 : Int) (l21 : List Value) (k : List D → Prop) : Prop := wpNext Tryz.prog (hX C) L 6 0 .normal [(2, (Value.pointer (some ⟨1000, 0, none⟩))), (4, (Value.pointer (some ⟨1001, 0, none⟩)))] [(1000, (AObj.cells [(Value.int .i64 x0), (Value.int .i64 x1), (Value.int .i64 x2), (Value.int .i64 x3), (Value.int .i64 x4), (Value.int .i64 x5), (Value.slice none 0 0), (Value.int .i64 x6), (Value.int .i64 x7), (Value.int .i64 x8), (Value.int .i64 x9)] 33 false 11)), (1001, (AObj.cells [(Value.int .i64 x10), (Value.int .i64 x11), (Value.int .i64 x12), (Value.int .i64 x13), (Value.int .i64 x14), (Value.int .i64 x15), (Value.slice (some ⟨1002, 0, none⟩) n16 n16), (Value.int .i64 x17), (Value.int .i64 x18), (Value.int .i64 x19), (Value.int .i64 x20)] 33 false 11)), (1002, (AObj.sym l21 true 5))] (dataK k)
theorem nPR4_text (C : Ct) (L : AtLoop) (x0 : Int) (x1 : Int) (x2 : Int) (x3 : Int) (x4 : Int) (x5 : Int) (x6 : Int) (x7 : Int) (x8 : Int) (x9 : Int) (x10 : Int) (x11 : Int) (x12 : Int) (x13 : Int) (x14 : Int) (x15 : Int) (n16 : Nat) (x17 : Int) (x18 : Int) (x19 : Int) (x20 : Int) (l21 : List Go.Value) (k : List D → Prop) : nPR4 C L x0 x1 x2 x3 x4 x5 x6 x7 x8 x9 x10 x11 x12 x13 x14 x15 n16 x17 x18 x19 x20 l21 k =
 (bcase (decide (0 + n16 * 5 ≤ List.length l21))
 (∃ n1 : Int,
 (∃ n2 : Int,
 ((Says C 30 [(D.agg [(D.val (vI x10)), (D.val (vI x11)), (D.val (vI x12)), (D.val (vI x13)), (D.val (vI x14)), (D.val (vI x15)), (D.sl (n16) 5 (List.take (n16 * 5) (List.drop 0 l21))), (D.val (vI x17)), (D.val (vI x18)), (D.val (vI x19)), (D.val (vI x20))])] [(D.val (vI n1)), (D.val (vI n2))]) ∧
 (bcase (n2 != 0)
 (k [(D.agg [(D.val (vI 0)), (D.val (vI 0)), (D.val (vI 0)), (D.val (vI 0)), (D.val (vI 0)), (D.val (vI 0)), D.nil, (D.val (vI 0)), (D.val (vI 0)), (D.val (vI 0)), (D.val (vI 0))]), (D.val (vI n2))])
 (((Qv (n16)) ∧
 ((List.length l21) = (n16 * 5))) ∧
 (k [(D.agg [(D.val (vI x10)), (D.val (vI x11)), (D.val (vI x12)), (D.val (vI x13)), (D.val (vI x14)), (D.val (vI x15)), (D.sl (n16) 5 (l21)), (D.val (vI x17)), (D.val (vI x18)), (D.val (vI x19)), (D.val (vI x20))]), (D.val (vI 0))]))))))
 False) := by kernel_rfl
def preY (C : Ct) : FuncId → Option Handler := fun g => if g == 36 then some (saidH Tryz.prog C) else preX C g
abbrev hY (C : Ct) : Handler := handlerX Tryz.prog (preY C) 12 6
def gSS (C : Ct) (L : AtLoop) (s0 : ByteArray) (n1 : Nat) (c1 : Nat) (l1 : List Value) (s2 : ByteArray) (n3 : Nat) (c3 : Nat) (l3 : List Value) (k : List D → Prop) : Prop := wpFn Tryz.prog (hY C) L 0 9 #[.agg #[.string s0, .slice (some ⟨500, 0, none⟩) n1 c1], .agg #[.string s2, .slice (some ⟨501, 0, none⟩) n3 c3]] (heapOf [(500, .sym l1 false 1), (501, .sym l3 false 1)]) (dataK k)
theorem gSS_text (C : Ct) (L : AtLoop) (s0 : ByteArray) (n1 : Nat) (c1 : Nat) (l1 : List Go.Value) (s2 : ByteArray) (n3 : Nat) (c3 : Nat) (l3 : List Go.Value) (k : List D → Prop) : gSS C L s0 n1 c1 l1 s2 n3 c3 l3 k =
 (bcase (ByteArray.toList s0 == ByteArray.toList s2)
 (bcase (decide (0 + n1 * 1 ≤ List.length l1))
 (bcase (decide (0 + n3 * 1 ≤ List.length l3))
 (((Says C 36 [(D.sl (n1) 1 (List.take (n1 * 1) (List.drop 0 l1))), (D.sl (n3) 1 (List.take (n3 * 1) (List.drop 0 l3)))] [(D.val (Value.bool true))]) ∧
 (k [(D.val (Value.bool true))])) ∨
 ((Says C 36 [(D.sl (n1) 1 (List.take (n1 * 1) (List.drop 0 l1))), (D.sl (n3) 1 (List.take (n3 * 1) (List.drop 0 l3)))] [(D.val (Value.bool false))]) ∧
 (k [(D.val (Value.bool false))])))
 False)
 False)
 (k [(D.val (Value.bool false))])) := by kernel_rfl
def gIn (C : Ct) (L : AtLoop) (n0 : Nat) (c0 : Nat) (l0 : List Value) (n1 : Nat) (c1 : Nat) (l1 : List Value) (k : List D → Prop) : Prop := wpFn Tryz.prog (hE C) L 0 36 #[.slice (some ⟨500, 0, none⟩) n0 c0, .slice (some ⟨501, 0, none⟩) n1 c1] (heapOf [(500, .sym l0 false 1), (501, .sym l1 false 1)]) (dataK k)
theorem gIn_text (C : Ct) (L : AtLoop) (n0 : Nat) (c0 : Nat) (l0 : List Go.Value) (n1 : Nat) (c1 : Nat) (l1 : List Go.Value) (k : List D → Prop) : gIn C L n0 c0 l0 n1 c1 l1 k =
 (bcase ((↑n0 : Int) != (↑n1 : Int))
 (k [(D.val (Value.bool false))])
 (L 0 [(Prod.mk 0 (Sl 500 (n0) (c0))), (Prod.mk 1 (Sl 501 (n1) (c1))), (Prod.mk 5 (vI 0))] [(Prod.mk 500 (AObj.sym (l0) false 1)), (Prod.mk 501 (AObj.sym (l1) false 1))])) := by kernel_rfl
abbrev zIn1 (n0 : Nat) (c1 : Nat) (n2 : Nat) (c3 : Nat) (x4 : Int) (l5 : List Value) (l6 : List Value) : Slots × Blocks := ([(0, (Value.slice (some ⟨500, 0, none⟩) n0 c1)), (1, (Value.slice (some ⟨501, 0, none⟩) n2 c3)), (5, (Value.int .i64 x4))], [(500, (AObj.sym l5 false 1)), (501, (AObj.sym l6 false 1))])
def rIn1 (C : Ct) (L : AtLoop) (n0 : Nat) (c1 : Nat) (n2 : Nat) (c3 : Nat) (x4 : Int) (l5 : List Value) (l6 : List Value) (B : Bx) (X : Xx) (k : List D → Prop) : Prop := wpRound Tryz.prog (hE C) L 36 0 [(0, (Value.slice (some ⟨500, 0, none⟩) n0 c1)), (1, (Value.slice (some ⟨501, 0, none⟩) n2 c3)), (5, (Value.int .i64 x4))] [(500, (AObj.sym l5 false 1)), (501, (AObj.sym l6 false 1))] B X (dataK k)
theorem rIn1_text (C : Ct) (L : AtLoop) (n0 : Nat) (c1 : Nat) (n2 : Nat) (c3 : Nat) (x4 : Int) (l5 : List Go.Value) (l6 : List Go.Value) (B : Bx) (X : Xx) (k : List D → Prop) : rIn1 C L n0 c1 n2 c3 x4 l5 l6 B X k =
 (bcase (decide (x4 < (↑n0 : Int)))
 (bcase (decide (0 ≤ x4))
 (bcase (decide (x4 < (↑n0 : Int)))
 (∃ n1 : Int,
 ((At (l5) (0 + Int.toNat x4 * 1) 1 [(vI n1)]) ∧
 (bcase (decide (0 ≤ x4))
 (bcase (decide (x4 < (↑n2 : Int)))
 (∃ n3 : Int,
 ((At (l6) (0 + Int.toNat x4 * 1) 1 [(vI n3)]) ∧
 (bcase (n1 != n3)
 (((bcase (n1 != n3)
 (Qv (Value.bool true))
 ((Value.bool false) = (Value.bool true))) ∧
 ((∃ n4 : Int,
 ((At (l6) (0 + Int.toNat x4 * 1) 1 [(vI n4)]) ∧
 ((vI n4) = (vI n3)))) ∧
 ((bcase (decide (0 ≤ x4))
 (bcase (decide (x4 < (↑n2 : Int)))
 (Qv (Pt 501 (0 + Int.toNat x4 * 1)))
 False)
 False) ∧
 ((Qv (vI x4)) ∧
 ((Qv (Sl 501 (n2) (c3))) ∧
 ((∃ n4 : Int,
 ((At (l5) (0 + Int.toNat x4 * 1) 1 [(vI n4)]) ∧
 ((vI n4) = (vI n1)))) ∧
 ((bcase (decide (0 ≤ x4))
 (bcase (decide (x4 < (↑n0 : Int)))
 (Qv (Pt 500 (0 + Int.toNat x4 * 1)))
 False)
 False) ∧
 ((Qv (vI x4)) ∧
 ((Qv (Sl 500 (n0) (c1))) ∧
 True))))))))) ∧
 (k [(D.val (Value.bool false))]))
 (((bcase (n1 != n3)
 ((Value.bool true) = (Value.bool false))
 (Qv (Value.bool false))) ∧
 ((∃ n4 : Int,
 ((At (l6) (0 + Int.toNat x4 * 1) 1 [(vI n4)]) ∧
 ((vI n4) = (vI n3)))) ∧
 ((bcase (decide (0 ≤ x4))
 (bcase (decide (x4 < (↑n2 : Int)))
 (Qv (Pt 501 (0 + Int.toNat x4 * 1)))
 False)
 False) ∧
 ((Qv (vI x4)) ∧
 ((Qv (Sl 501 (n2) (c3))) ∧
 ((∃ n4 : Int,
 ((At (l5) (0 + Int.toNat x4 * 1) 1 [(vI n4)]) ∧
 ((vI n4) = (vI n1)))) ∧
 ((bcase (decide (0 ≤ x4))
 (bcase (decide (x4 < (↑n0 : Int)))
 (Qv (Pt 500 (0 + Int.toNat x4 * 1)))
 False)
 False) ∧
 ((Qv (vI x4)) ∧
 ((Qv (Sl 500 (n0) (c1))) ∧
 True))))))))) ∧
 (B [(Prod.mk 0 (Sl 500 (n0) (c1))), (Prod.mk 1 (Sl 501 (n2) (c3))), (Prod.mk 5 (vI (IntKind.wrap .i64 (x4 + 1))))] [(Prod.mk 500 (AObj.sym (l5) false 1)), (Prod.mk 501 (AObj.sym (l6) false 1))])))))
 False)
 False)))
 False)
 False)
 (X 0 [] [])) := by kernel_rfl
def nIn2 (C : Ct) (L : AtLoop) (k : List D → Prop) : Prop := wpNext Tryz.prog (hE C) L 36 0 .normal [] [] (dataK k)
theorem nIn2_text (C : Ct) (L : AtLoop) (k : List D → Prop) : nIn2 C L k =
 (k [(D.val (Value.bool true))]) := by kernel_rfl
end Go.Proofs.G5m

/- Chapter 3, strings: the rules of a string, by the program, in data. -/
namespace Go.Proofs.G5m
open Go Go.Abs Go.Proofs Go.Str
set_option maxRecDepth 100000
/-- strings.Split at " ; " -/
theorem conSp3 (l : List UInt8) (hl : l.length < 4294967281) : C5 22 [dS l, dS [32, 59, 32]] [dSs (cut3 [] l)] := by
  intro w args hg hr
  rw [reads2 hr]
  obtain ⟨m, hm⟩ := hMax hg
  refine (Tryz.strings_Split (bs l) (bs [32, 59, 32]) m w (by rw [bs_size]; exact hl) hm (by rw [bs_size]; show 1 ≤ 3; decide)).mono ?_
  rintro e w' ⟨rfl, rfl⟩
  have hsp := split3 l.length l (Nat.le_refl _)
  have hlen : Lib.countB (bs l) (bs [32, 59, 32]) + 1 = (cut3 [] l).length := by
    have := Lib.splitB_all (bs [32, 59, 32]) (by rw [bs_size]; show 1 ≤ 3; decide) 0 _ (bs l) rfl
    rw [← this, hsp, List.length_map]
  have hcs : (Lib.splitB (bs [32, 59, 32]) 0 (Lib.countB (bs l) (bs [32, 59, 32])) (bs l)).map Value.string = strs (cut3 [] l) := by rw [hsp, List.map_map]; rfl
  rw [hlen, hcs]
  have hlen2 : (strs (cut3 [] l)).length = (cut3 [] l).length := by simp [strs]
  refine ⟨⟨[.slice _ _ _], [w.heap.size], rfl, .cons ?_ (.nil _)⟩, (Go.RowKit.Below.refl _ _).alloc (Nat.le_refl _) _⟩
  refine .sl [] _ 1 _ w.heap.size 0 _ (strs (cut3 [] l)).toArray _ (alloc_get _ _) (Nat.le_refl _) (by simp) (by simp) (Nat.le_refl _) ?_ (by simp) ?_
  · rw [hlen2]; simp [List.take_of_length_le]
  · intro v hv
    obtain ⟨x, _, rfl⟩ := List.mem_map.1 hv
    rfl
theorem conCCn : C5 61 [.nil] [dI 10] := by
  refine con_flat hokP mixed Tryz.func61 rfl (by show 0 ≤ 400; omega) rfl (by kernel_rfl) (fun caps => ?_)
  show gCCn _ _ _
  rw [gCCn_text]
theorem headE_nil {r : Ru} (h : r.ss = []) : headE r ≠ 0 := by
  have hc : cntE r.ss.length = 10 := by rw [h]; rfl
  unfold headE; rw [hc]
  split
  · split <;> decide
  · decide
theorem chk_nil {r : Ru} (h : r.ss = []) : chk r = (0, headE r) ∧ (chk r).2 ≠ 0 := by
  have e : chk r = (0, headE r) := by rw [chk, if_neg (headE_nil h)]
  exact ⟨e, by rw [e]; exact headE_nil h⟩
theorem conKRn (r : Ru) (hn : r.ss = []) : C5 30 [r.dn] [dI (chk r).1, dI (chk r).2] := by
  refine con_of (L := fun _ s b => False) hokP mixed Tryz.func30 rfl (by show 0 ≤ 400; omega) rfl (ids := [0]) (by kernel_rfl) rfl (fun caps => ?_) (fun id hid => ?_)
  · show gKRn _ _ r.w r.st r.fi r.hlo r.hhi r.co r.slo r.shi r.flo r.fhi _
    rw [gKRn_text]
    simp only [Qv, eq_self, true_and, and_true]
    refine ⟨_, ⟨conCW 1 2500 [r.w] (by simp)⟩, _, ⟨conCW 1 1000 [r.st, r.fi] (by simp)⟩, _, ⟨conCW 0 20000 [r.hlo, r.hhi, r.co] (by simp)⟩, _, ⟨conCW 1 100 [r.slo, r.shi] (by simp)⟩, _, ⟨conCW 0 100 [r.flo, r.fhi] (by simp)⟩, _, ⟨conCN [(r.fi, r.st), (r.hlo, r.hhi), (r.slo, r.shi), (r.flo, r.fhi)] (by simp)⟩, ?_⟩
    refine ⟨_, ⟨conCCn⟩, _, ⟨conFE [_, _, _, _, _, _, _] (by simp)⟩, ?_⟩
    have hc : (10 : Int) = cntE r.ss.length := by rw [hn]; rfl
    rw [hc, headE_eq]
    refine bc_bne (fun h => ?_) (fun h => absurd h (headE_nil hn))
    show [dI 0, dI (headE r)] = _
    rw [(chk_nil hn).1]
  · obtain rfl := List.mem_singleton.1 hid
    exact ⟨Unit, fun _ => ([], []), fun _ => False, fun _ => 0, ⟨fun _ _ h => h.elim, by kernel_rfl, fun _ h => h.elim⟩⟩
theorem wr1 : IntKind.wrap .i64 (0 + 1) = 1 := by rfl
theorem wr2 : IntKind.wrap .i64 (1 + 1) = 2 := by rfl
theorem wr3 : IntKind.wrap .i64 (2 + 1) = 3 := by rfl
theorem wr4 : IntKind.wrap .i64 (3 + 1) = 4 := by rfl
theorem wr5 : IntKind.wrap .i64 (4 + 1) = 5 := by rfl
theorem wr6 : IntKind.wrap .i64 (5 + 1) = 6 := by rfl
theorem wr7 : IntKind.wrap .i64 (6 + 1) = 7 := by rfl
theorem wr8 : IntKind.wrap .i64 (7 + 1) = 8 := by rfl
theorem wr9 : IntKind.wrap .i64 (8 + 1) = 9 := by rfl
theorem wr10 : IntKind.wrap .i64 (9 + 1) = 10 := by rfl
theorem len5 {α : Type} {l : List α} (h : l.length = 5) : ∃ a b c d e, l = [a, b, c, d, e] := by
  match l, h with
  | [a, b, c, d, e], _ => exact ⟨a, b, c, d, e, rfl⟩
theorem len10 {α : Type} {l : List α} (h : l.length = 10) : ∃ a b c d e f g i j k, l = [a, b, c, d, e, f, g, i, j, k] := by
  match l, h with
  | [a, b, c, d, e, f, g, i, j, k], _ => exact ⟨a, b, c, d, e, f, g, i, j, k, rfl⟩
/-- stands by their parts -/
def stD (ps : List (List UInt8)) : List Fv := ps.map fun p => mkS (numsW (cutA 32 [] p))
theorem stD_snoc {ps : List (List UInt8)} {i : Nat} (h : i < ps.length) : stD (ps.take (i + 1)) = stD (ps.take i) ++ [mkS (numsW (cutA 32 [] ps[i]))] := by
  rw [List.take_succ_eq_append_getElem h, stD, stD, List.map_append]; rfl
theorem vs5_snoc (l : List Fv) (s : Fv) : vs5 (l ++ [s]) = vs5 l ++ [vI s.a, vI s.b, vI s.c, vI s.d, vI s.e] := by
  rw [vs5, List.flatMap_append]; rfl
abbrev zR : D := .agg [dI 0, dI 0, dI 0, dI 0, dI 0, dI 0, .nil, dI 0, dI 0, dI 0, dI 0]
theorem syn_no0 {g : W} {gs : List W} (h : okP 10 g = false) : synG (g :: gs) = none := by rw [synG, h]; rfl
theorem syn_noI {g : W} {gs : List W} {q : W} (hq : q ∈ gs) (h : okP 5 q = false) : synG (g :: gs) = none := by
  rw [synG, if_neg]
  intro hh
  simp only [Bool.and_eq_true, List.all_eq_true] at hh
  rw [hh.2 q hq] at h; cases h
theorem okP_yes {n : Nat} {g : W} (h1 : g.length = n) (h2 : okW g = true) : okP n g = true := by simp [okP, h1, h2]
theorem conPR (t : List UInt8) (ht : t.length < 1000000) : C5 6 [dS t] (resR (synG (partsG t))) := by
  obtain ⟨p0, ps, hc⟩ : ∃ p0 ps, cut3 [] t = p0 :: ps := by
    cases h : cut3 [] t with
    | nil => exact absurd h (cut3_ne _ _)
    | cons a r => exact ⟨a, r, rfl⟩
  have htot : ∀ (n : Nat) (l acc : List UInt8), l.length ≤ n → (cut3 acc l).length ≤ l.length + 1 ∧ ∀ p ∈ cut3 acc l, p.length ≤ acc.length + l.length := by
    intro n
    induction n with
    | zero =>
      intro l acc hl
      obtain rfl : l = [] := List.length_eq_zero_iff.1 (by omega)
      rw [cut3_nil]; simp
    | succ n ih =>
      intro l acc hl
      cases l with
      | nil => rw [cut3_nil]; simp
      | cons b r =>
        cases hp : ([32, 59, 32] : List UInt8).isPrefixOf (b :: r) with
        | false =>
          rw [cut3_skip hp]
          have := ih r (acc ++ [b]) (by simp at hl; omega)
          refine ⟨by simp; omega, fun p hp => ?_⟩
          have := this.2 p hp
          simp at this ⊢; omega
        | true =>
          have e := pre3 hp
          have hlen : ((b :: r).drop 3).length + 3 = (b :: r).length := by
            have := congrArg List.length e
            simp only [List.length_cons] at this ⊢; omega
          rw [e, cut3_hit]
          have := ih ((b :: r).drop 3) [] (by omega)
          refine ⟨by simp only [List.length_cons] at hlen this ⊢; omega, fun p hp => ?_⟩
          rcases List.mem_cons.1 hp with rfl | hp
          · omega
          · have := this.2 p hp
            simp only [List.length_nil, List.length_cons] at this hlen ⊢; omega
  have hT := htot _ t [] (Nat.le_refl _)
  rw [hc] at hT
  have hlen : ps.length < 1000000 := by have := hT.1; simp at this; omega
  have hp : ∀ p ∈ p0 :: ps, p.length < 1000000 := fun p h => by have := hT.2 p h; simp at this; omega
  have hG : partsG t = cutA 32 [] p0 :: ps.map (cutA 32 []) := by show (cut3 [] t).map _ = _; rw [hc]; rfl
  rw [hG]
  have cS3 := conSp3 t (by omega)
  rw [hc] at cS3
  have cS : ∀ p ∈ p0 :: ps, C5 22 [dS p, dS [32]] [dSs (cutA 32 [] p)] := fun p h => conSp p 32 (by have := hp p h; omega)
  have nS : ∀ p ∈ p0 :: ps, (cutA 32 [] p).length < 1000000000 := fun p h => by
    have h1 := cutA_len (c := 32) (l := p) (acc := [])
    have := List.count_le_length (a := (32 : UInt8)) (l := p)
    have := hp p h; omega
  let R0 : Ru := mkR (numsW (cutA 32 [] p0)) []
  let S : Nat → List Fv := fun i => stD (ps.take i)
  let inv : Nat → Prop := fun i => i ≤ ps.length ∧ okP 10 (cutA 32 [] p0) = true ∧ ∀ p ∈ ps.take i, okP 5 (cutA 32 [] p) = true
  let st : Nat → Slots × Blocks := fun i => match i with
    | 0 => zPR1 1 ps.length ps.length ((0 : Nat) : Int) 0 0 0 0 0 0 0 0 0 0 R0.w R0.st R0.fi R0.hlo R0.hhi R0.co R0.slo R0.shi R0.flo R0.fhi (strs (p0 :: ps))
    | i + 1 => zPR2 1 ps.length ps.length ((i + 1 : Nat) : Int) 0 0 0 0 0 0 0 0 0 0 R0.w R0.st R0.fi R0.hlo R0.hhi R0.co (i + 1) R0.slo R0.shi R0.flo R0.fhi (strs (p0 :: ps)) (vs5 (S (i + 1)))
  refine con_of (L := fun _ s b => ∃ x, inv x ∧ st x = (s, b)) hokX mixed Tryz.func6 rfl (by show 0 ≤ 400; omega) rfl (ids := [0]) (by kernel_rfl) rfl (fun caps => ?_) (fun id hid => ?_)
  · show gPR _ _ (bs t) _
    rw [gPR_text]
    simp only [Qv, eq_self, true_and, and_true]
    refine .inr ⟨_, _, ⟨cS3⟩, ?_⟩
    have q0 : (0 : Int) < ((p0 :: ps).length : Int) := by simp only [List.length_cons]; omega
    have q1 : (1 : Int) ≤ ((p0 :: ps).length : Int) := by simp only [List.length_cons]; omega
    have q2 : (p0 :: ps).length ≤ (p0 :: ps).length := Nat.le_refl _
    have a0 : At (strs (p0 :: ps)) 0 1 [str p0] := strs_at (p0 :: ps) 0 (by simp)
    simp only [bc_t q0, bc_t q1, bc_t q2, bc_o (strs_length _), atS a0, Qv, eq_self, true_and, and_true]
    refine .inr ⟨_, _, ⟨cS p0 (by simp)⟩, ?_⟩
    have bad : okP 10 (cutA 32 [] p0) = false → (fun r => r = resR (synG (cutA 32 [] p0 :: ps.map (cutA 32 [])))) [zR, dI 7] := fun h => by
      show _ = _; rw [syn_no0 h]; rfl
    refine bc_bne (fun h => bad ?_) (fun h => ?_)
    · unfold okP; rw [decide_eq_false (by omega)]; rfl
    · have hl10 : (cutA 32 [] p0).length = 10 := by omega
      have c1 := conaN (cutA 32 [] p0) (by omega)
      simp only [strs_whole, bc_t (whole_le (cutA 32 [] p0)), Qv, eq_self, true_and, and_true]
      cases hok : okW (cutA 32 [] p0) with
      | false =>
        rw [hok] at c1
        exact .inr ⟨⟨c1⟩, bad (by unfold okP; rw [hok, Bool.and_false])⟩
      | true =>
        rw [hok] at c1
        refine .inl ⟨⟨c1⟩, ?_⟩
        have hok10 := okP_yes hl10 hok
        have hR0 : R0 = mkR (numsW (cutA 32 [] p0)) [] := rfl
        clear_value R0
        obtain ⟨a, b, c, d, e, f, g, i, j, k, hg⟩ := len10 hl10
        have cO : ∀ w ∈ cutA 32 [] p0, C5 25 [dS w] [dI (numF 0 w)] := fun w hw => connO w (okW_mem hok hw)
        rw [hg] at cO hR0 ⊢
        have l0 : (0 : Int) < (([a, b, c, d, e, f, g, i, j, k] : W).length : Int) := by show (0 : Int) < ((10 : Nat) : Int); decide
        have l1 : (1 : Int) < (([a, b, c, d, e, f, g, i, j, k] : W).length : Int) := by show (1 : Int) < ((10 : Nat) : Int); decide
        have l2 : (2 : Int) < (([a, b, c, d, e, f, g, i, j, k] : W).length : Int) := by show (2 : Int) < ((10 : Nat) : Int); decide
        have l3 : (3 : Int) < (([a, b, c, d, e, f, g, i, j, k] : W).length : Int) := by show (3 : Int) < ((10 : Nat) : Int); decide
        have l4 : (4 : Int) < (([a, b, c, d, e, f, g, i, j, k] : W).length : Int) := by show (4 : Int) < ((10 : Nat) : Int); decide
        have l5 : (5 : Int) < (([a, b, c, d, e, f, g, i, j, k] : W).length : Int) := by show (5 : Int) < ((10 : Nat) : Int); decide
        have l6 : (6 : Int) < (([a, b, c, d, e, f, g, i, j, k] : W).length : Int) := by show (6 : Int) < ((10 : Nat) : Int); decide
        have l7 : (7 : Int) < (([a, b, c, d, e, f, g, i, j, k] : W).length : Int) := by show (7 : Int) < ((10 : Nat) : Int); decide
        have l8 : (8 : Int) < (([a, b, c, d, e, f, g, i, j, k] : W).length : Int) := by show (8 : Int) < ((10 : Nat) : Int); decide
        have l9 : (9 : Int) < (([a, b, c, d, e, f, g, i, j, k] : W).length : Int) := by show (9 : Int) < ((10 : Nat) : Int); decide
        have l10 : ¬ (10 : Int) < (([a, b, c, d, e, f, g, i, j, k] : W).length : Int) := by show ¬ (10 : Int) < ((10 : Nat) : Int); decide
        have t0 : At (strs [a, b, c, d, e, f, g, i, j, k]) 0 1 [str a] := ⟨by simp [strs], rfl⟩
        have t1 : At (strs [a, b, c, d, e, f, g, i, j, k]) 1 1 [str b] := ⟨by simp [strs], rfl⟩
        have t2 : At (strs [a, b, c, d, e, f, g, i, j, k]) 2 1 [str c] := ⟨by simp [strs], rfl⟩
        have t3 : At (strs [a, b, c, d, e, f, g, i, j, k]) 3 1 [str d] := ⟨by simp [strs], rfl⟩
        have t4 : At (strs [a, b, c, d, e, f, g, i, j, k]) 4 1 [str e] := ⟨by simp [strs], rfl⟩
        have t5 : At (strs [a, b, c, d, e, f, g, i, j, k]) 5 1 [str f] := ⟨by simp [strs], rfl⟩
        have t6 : At (strs [a, b, c, d, e, f, g, i, j, k]) 6 1 [str g] := ⟨by simp [strs], rfl⟩
        have t7 : At (strs [a, b, c, d, e, f, g, i, j, k]) 7 1 [str i] := ⟨by simp [strs], rfl⟩
        have t8 : At (strs [a, b, c, d, e, f, g, i, j, k]) 8 1 [str j] := ⟨by simp [strs], rfl⟩
        have t9 : At (strs [a, b, c, d, e, f, g, i, j, k]) 9 1 [str k] := ⟨by simp [strs], rfl⟩
        simp only [wr1, wr2, wr3, wr4, wr5, wr6, wr7, wr8, wr9, wr10, bc_t l0, bc_t l1, bc_t l2, bc_t l3, bc_t l4, bc_t l5, bc_t l6, bc_t l7, bc_t l8, bc_t l9, bc_f l10, atS t0, atS t1, atS t2, atS t3, atS t4, atS t5, atS t6, atS t7, atS t8, atS t9]
        refine ⟨_, ⟨cO a (by simp)⟩, _, ⟨cO b (by simp)⟩, _, ⟨cO c (by simp)⟩, _, ⟨cO d (by simp)⟩, _, ⟨cO e (by simp)⟩, _, ⟨cO f (by simp)⟩, _, ⟨cO g (by simp)⟩, _, ⟨cO i (by simp)⟩, _, ⟨cO j (by simp)⟩, _, ⟨cO k (by simp)⟩, ?_⟩
        refine ⟨0, ⟨Nat.zero_le _, hok10, fun p hp => by simp at hp⟩, ?_⟩
        show zPR1 _ _ _ _ _ _ _ _ _ _ _ _ _ _ R0.w R0.st R0.fi R0.hlo R0.hhi R0.co R0.slo R0.shi R0.flo R0.fhi _ = _
        rw [hR0]; rfl
  · obtain rfl := List.mem_singleton.1 hid
    refine ⟨_, st, inv, fun i => ps.length - i, ⟨fun s b h => h, by kernel_rfl, ?_⟩⟩
    rintro i ⟨hi, h10, hall⟩
    have bad : ∀ (h1 : i < ps.length), okP 5 (cutA 32 [] ps[i]) = false → (fun r => r = resR (synG (cutA 32 [] p0 :: ps.map (cutA 32 [])))) [zR, dI 7] := fun h1 h => by
      show _ = _
      rw [syn_noI (q := cutA 32 [] ps[i]) (List.mem_map.2 ⟨_, List.getElem_mem h1, rfl⟩) h]; rfl
    have yes : (∀ p ∈ ps, okP 5 (cutA 32 [] p) = true) → synG (cutA 32 [] p0 :: ps.map (cutA 32 [])) = some { R0 with ss := stD ps } := fun h => by
      rw [synG, if_pos]
      · rw [List.map_map]; rfl
      · simp only [Bool.and_eq_true, List.all_eq_true]
        refine ⟨h10, fun q hq => ?_⟩
        obtain ⟨p, hp, rfl⟩ := List.mem_map.1 hq
        exact h p hp
    have next : ∀ (h1 : i < ps.length), okP 5 (cutA 32 [] ps[i]) = true → inv (i + 1) := fun h1 h => by
      refine ⟨h1, h10, fun p hp => ?_⟩
      rw [List.take_succ_eq_append_getElem h1] at hp
      rcases List.mem_append.1 hp with hp | hp
      · exact hall p hp
      · obtain rfl := List.mem_singleton.1 hp; exact h
    cases i with
    | zero =>
      show rPR1 _ _ 1 ps.length ps.length ((0 : Nat) : Int) 0 0 0 0 0 0 0 0 0 0 R0.w R0.st R0.fi R0.hlo R0.hhi R0.co R0.slo R0.shi R0.flo R0.fhi (strs (p0 :: ps)) _ _ _
      rw [rPR1_text]
      refine bc_dec (fun h => ?_) (fun h => ?_)
      · have h1 : 0 < ps.length := by omega
        have hm : ps[0] ∈ p0 :: ps := List.mem_cons_of_mem _ (List.getElem_mem h1)
        simp only [bc_t (show (0 : Int) ≤ ((0 : Nat) : Int) by omega), bc_t h, Int.toNat_natCast, atS (strs_at1 p0 ps 0 h1), Qv, eq_self, true_and, and_true]
        refine .inr ⟨_, _, ⟨cS _ hm⟩, ?_⟩
        refine bc_bne (fun h => bad h1 ?_) (fun h => ?_)
        · unfold okP; rw [decide_eq_false (by omega)]; rfl
        · have hl5 : (cutA 32 [] ps[0]).length = 5 := by omega
          have c1 := conaN (cutA 32 [] ps[0]) (by omega)
          simp only [strs_whole, bc_t (whole_le (cutA 32 [] ps[0])), Qv, eq_self, true_and, and_true]
          cases hok : okW (cutA 32 [] ps[0]) with
          | false =>
            rw [hok] at c1
            exact .inr ⟨⟨c1⟩, bad h1 (by unfold okP; rw [hok, Bool.and_false])⟩
          | true =>
            rw [hok] at c1
            refine .inl ⟨⟨c1⟩, ?_⟩
            have hnx := next h1 (okP_yes hl5 hok)
            have eS := stD_snoc h1
            obtain ⟨a, b, c, d, e, hg⟩ := len5 hl5
            have cO : ∀ w ∈ cutA 32 [] ps[0], C5 25 [dS w] [dI (numF 0 w)] := fun w hw => connO w (okW_mem hok hw)
            rw [hg] at cO eS ⊢
            have l0 : (0 : Int) < (([a, b, c, d, e] : W).length : Int) := by show (0 : Int) < ((5 : Nat) : Int); decide
            have l1 : (1 : Int) < (([a, b, c, d, e] : W).length : Int) := by show (1 : Int) < ((5 : Nat) : Int); decide
            have l2 : (2 : Int) < (([a, b, c, d, e] : W).length : Int) := by show (2 : Int) < ((5 : Nat) : Int); decide
            have l3 : (3 : Int) < (([a, b, c, d, e] : W).length : Int) := by show (3 : Int) < ((5 : Nat) : Int); decide
            have l4 : (4 : Int) < (([a, b, c, d, e] : W).length : Int) := by show (4 : Int) < ((5 : Nat) : Int); decide
            have l5 : ¬ (5 : Int) < (([a, b, c, d, e] : W).length : Int) := by show ¬ (5 : Int) < ((5 : Nat) : Int); decide
            have t0 : At (strs [a, b, c, d, e]) 0 1 [str a] := ⟨by simp [strs], rfl⟩
            have t1 : At (strs [a, b, c, d, e]) 1 1 [str b] := ⟨by simp [strs], rfl⟩
            have t2 : At (strs [a, b, c, d, e]) 2 1 [str c] := ⟨by simp [strs], rfl⟩
            have t3 : At (strs [a, b, c, d, e]) 3 1 [str d] := ⟨by simp [strs], rfl⟩
            have t4 : At (strs [a, b, c, d, e]) 4 1 [str e] := ⟨by simp [strs], rfl⟩
            simp only [wr1, wr2, wr3, wr4, wr5, bc_t l0, bc_t l1, bc_t l2, bc_t l3, bc_t l4, bc_f l5, atS t0, atS t1, atS t2, atS t3, atS t4]
            refine ⟨_, ⟨cO a (by simp)⟩, _, ⟨cO b (by simp)⟩, _, ⟨cO c (by simp)⟩, _, ⟨cO d (by simp)⟩, _, ⟨cO e (by simp)⟩, ?_⟩
            refine ⟨1, hnx, by show ps.length - 1 < ps.length - 0; omega, ?_⟩
            show zPR2 _ _ _ _ _ _ _ _ _ _ _ _ _ _ _ _ _ _ _ _ _ _ _ _ _ _ (vs5 (stD (ps.take (0 + 1)))) = _
            rw [eS, w64 (by omega) (by omega)]; rfl
      · show (if 0 = 0 then _ else _)
        rw [if_pos rfl]
        show nPR3 _ _ 0 0 0 0 0 0 0 0 0 0 R0.w R0.st R0.fi R0.hlo R0.hhi R0.co R0.slo R0.shi R0.flo R0.fhi _
        rw [nPR3_text]
        have hps : ps = [] := List.length_eq_zero_iff.1 (by omega)
        have hy := yes (by rw [hps]; simp)
        have hs0 : ({ R0 with ss := stD ps } : Ru) = R0 := by rw [hps]; rfl
        rw [hs0] at hy
        refine ⟨_, _, ⟨conKRn R0 rfl⟩, bc_bne (fun q => ?_) (fun q => absurd q (chk_nil (r := R0) rfl).2)⟩
        show _ = resR _
        rw [hy]
        show _ = if (chk R0).2 = 0 then _ else _
        rw [if_neg q]; rfl
    | succ i =>
      show rPR2 _ _ 1 ps.length ps.length ((i + 1 : Nat) : Int) 0 0 0 0 0 0 0 0 0 0 R0.w R0.st R0.fi R0.hlo R0.hhi R0.co (i + 1) R0.slo R0.shi R0.flo R0.fhi (strs (p0 :: ps)) (vs5 (S (i + 1))) _ _ _
      rw [rPR2_text]
      have nS' : (S (i + 1)).length = i + 1 := by show (stD (ps.take (i + 1))).length = _; rw [stD, List.length_map, List.length_take]; omega
      have nV : (vs5 (S (i + 1))).length = (i + 1) * 5 := by rw [vs5_length, nS']
      refine bc_dec (fun h => ?_) (fun h => ?_)
      · have h1 : i + 1 < ps.length := by omega
        have hm : ps[i + 1] ∈ p0 :: ps := List.mem_cons_of_mem _ (List.getElem_mem h1)
        simp only [bc_t (show (0 : Int) ≤ ((i + 1 : Nat) : Int) by omega), bc_t h, Int.toNat_natCast, atS (strs_at1 p0 ps (i + 1) h1), Qv, eq_self, true_and, and_true]
        refine .inr ⟨_, _, ⟨cS _ hm⟩, ?_⟩
        refine bc_bne (fun h => bad h1 ?_) (fun h => ?_)
        · unfold okP; rw [decide_eq_false (by omega)]; rfl
        · have hl5 : (cutA 32 [] ps[i + 1]).length = 5 := by omega
          have c1 := conaN (cutA 32 [] ps[i + 1]) (by omega)
          simp only [strs_whole, bc_t (whole_le (cutA 32 [] ps[i + 1])), Qv, eq_self, true_and, and_true]
          cases hok : okW (cutA 32 [] ps[i + 1]) with
          | false =>
            rw [hok] at c1
            exact .inr ⟨⟨c1⟩, bad h1 (by unfold okP; rw [hok, Bool.and_false])⟩
          | true =>
            rw [hok] at c1
            refine .inl ⟨⟨c1⟩, ?_⟩
            have hnx := next h1 (okP_yes hl5 hok)
            have eS := stD_snoc h1
            obtain ⟨a, b, c, d, e, hg⟩ := len5 hl5
            have cO : ∀ w ∈ cutA 32 [] ps[i + 1], C5 25 [dS w] [dI (numF 0 w)] := fun w hw => connO w (okW_mem hok hw)
            rw [hg] at cO eS ⊢
            have l0 : (0 : Int) < (([a, b, c, d, e] : W).length : Int) := by show (0 : Int) < ((5 : Nat) : Int); decide
            have l1 : (1 : Int) < (([a, b, c, d, e] : W).length : Int) := by show (1 : Int) < ((5 : Nat) : Int); decide
            have l2 : (2 : Int) < (([a, b, c, d, e] : W).length : Int) := by show (2 : Int) < ((5 : Nat) : Int); decide
            have l3 : (3 : Int) < (([a, b, c, d, e] : W).length : Int) := by show (3 : Int) < ((5 : Nat) : Int); decide
            have l4 : (4 : Int) < (([a, b, c, d, e] : W).length : Int) := by show (4 : Int) < ((5 : Nat) : Int); decide
            have l5 : ¬ (5 : Int) < (([a, b, c, d, e] : W).length : Int) := by show ¬ (5 : Int) < ((5 : Nat) : Int); decide
            have t0 : At (strs [a, b, c, d, e]) 0 1 [str a] := ⟨by simp [strs], rfl⟩
            have t1 : At (strs [a, b, c, d, e]) 1 1 [str b] := ⟨by simp [strs], rfl⟩
            have t2 : At (strs [a, b, c, d, e]) 2 1 [str c] := ⟨by simp [strs], rfl⟩
            have t3 : At (strs [a, b, c, d, e]) 3 1 [str d] := ⟨by simp [strs], rfl⟩
            have t4 : At (strs [a, b, c, d, e]) 4 1 [str e] := ⟨by simp [strs], rfl⟩
            simp only [wr1, wr2, wr3, wr4, wr5, bc_t l0, bc_t l1, bc_t l2, bc_t l3, bc_t l4, bc_f l5, atS t0, atS t1, atS t2, atS t3, atS t4]
            refine ⟨_, ⟨cO a (by simp)⟩, _, ⟨cO b (by simp)⟩, _, ⟨cO c (by simp)⟩, _, ⟨cO d (by simp)⟩, _, ⟨cO e (by simp)⟩, ?_⟩
            refine bc_yes (by omega) (bc_yes (by omega) (bc_yes (by omega) (bc_yes (by omega) (bc_yes (by omega) ?_))))
            refine ⟨i + 2, hnx, by show ps.length - (i + 2) < ps.length - (i + 1); omega, ?_⟩
            show zPR2 _ _ _ _ _ _ _ _ _ _ _ _ _ _ _ _ _ _ _ _ _ _ _ _ _ _ (vs5 (stD (ps.take (i + 1 + 1)))) = _
            rw [eS, vs5_snoc, show List.take ((i + 1) * 5) (List.drop 0 (vs5 (S (i + 1)))) = vs5 (S (i + 1)) by rw [List.drop_zero, List.take_of_length_le (by omega)], w64 (by omega) (by omega)]; rfl
      · show (if 0 = 0 then _ else _)
        rw [if_pos rfl]
        show nPR4 _ _ 0 0 0 0 0 0 0 0 0 0 R0.w R0.st R0.fi R0.hlo R0.hhi R0.co (i + 1) R0.slo R0.shi R0.flo R0.fhi (vs5 (S (i + 1))) _
        rw [nPR4_text]
        have e : i + 1 = ps.length := by omega
        have eS : S (i + 1) = stD ps := by show stD (ps.take (i + 1)) = _; rw [e, List.take_length]
        have hy := yes (by rw [e, List.take_length] at hall; exact hall)
        let R : Ru := { R0 with ss := stD ps }
        have nR : R.ss.length = i + 1 := by show (stD ps).length = _; rw [← eS]; exact nS'
        have c := conKR R (by omega)
        have hd : R.d = .agg [dI R0.w, dI R0.st, dI R0.fi, dI R0.hlo, dI R0.hhi, dI R0.co, .sl (i + 1) 5 (vs5 (S (i + 1))), dI R0.slo, dI R0.shi, dI R0.flo, dI R0.fhi] := by
          show D.agg [dI R0.w, dI R0.st, dI R0.fi, dI R0.hlo, dI R0.hhi, dI R0.co, .sl (stD ps).length 5 (vs5 (stD ps)), dI R0.slo, dI R0.shi, dI R0.flo, dI R0.fhi] = _
          rw [← eS, nS']
        rw [hd] at c
        have hw5 : List.take ((i + 1) * 5) (List.drop 0 (vs5 (S (i + 1)))) = vs5 (S (i + 1)) := by rw [List.drop_zero, List.take_of_length_le (by omega)]
        have y5 : 0 + (i + 1) * 5 ≤ (vs5 (S (i + 1))).length := by omega
        simp only [bc_t y5, hw5, Qv, eq_self, true_and]
        refine ⟨_, _, ⟨c⟩, bc_bne (fun q => ?_) (fun q => ⟨nV, ?_⟩)⟩
        · show _ = resR _
          rw [hy]
          show _ = if (chk R).2 = 0 then _ else _
          rw [if_neg q]; rfl
        · show _ = resR _
          rw [hy]
          show _ = if (chk R).2 = 0 then [R.d, dI 0] else _
          rw [if_pos q, hd]
end Go.Proofs.G5m
