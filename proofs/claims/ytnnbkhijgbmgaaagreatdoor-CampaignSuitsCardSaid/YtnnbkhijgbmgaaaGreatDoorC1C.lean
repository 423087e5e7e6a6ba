/- Contracts of chapter 1: names, slabs, orders. -/
import Derived.Test.YtnnbkhijgbmgaaaGreatDoorC1T
import Derived.Test.YtnnbkhijgbmgaaaGreatDoorC1S
import Derived.Test.YtnnbkhijgbmgaaaGreatDoorC1Awake
namespace Go.Proofs.C1
open Go Go.Abs Go.Proofs
set_option maxRecDepth 100000
theorem mixed : Tryz.prog.follows .mixedOrders = true := awake_mixed
theorem hok : HandlerOK Tryz.prog (hN (Con Tryz.prog)) := handlerN_ok mixed (fun _ _ _ h => h) (by decide) 6
abbrev dI (n : Int) : D := .val (.int .i64 n)
abbrev dB (b : Bool) : D := .val (.bool b)
abbrev dSlab (s : ByteArray) (g t w l : Int) : D := .agg [.val (.string s), dI g, dI t, dI w, dI l]
abbrev dOrder (s : ByteArray) (g t tol w lo hi due : Int) : D := .agg [.val (.string s), dI g, dI t, dI tol, dI w, dI lo, dI hi, dI due]

theorem con6 : Con Tryz.prog 6 [] [dB true] := by
  intro w args hr
  cases args with | mk l => cases hr with | nil =>
  refine (awake_calls w).mono ?_
  rintro e w' ⟨rfl, hb⟩
  exact ⟨⟨[.bool true], [], rfl, .cons (.val _ _ rfl) (.nil _)⟩, hb⟩

theorem byte_at {s : ByteArray} {i : Nat} (h : i < s.size) : ∃ b, s[i]? = some b := ⟨s[i], by simp [h]⟩

theorem con39 (s : ByteArray) : Con Tryz.prog 39 [.val (.string s)] [dB (nameOk s)] := by
  let inv : Nat → Prop := fun i => i ≤ s.size ∧ 1 ≤ s.size ∧ s.size ≤ 12 ∧ ∀ j b, j < i → s[j]? = some b → nameB j b.toNat
  let st : Nat → Slots × Blocks := fun i => (s39 s i, [])
  refine con_of (L := fun _ s b => ∃ x, inv x ∧ st x = (s, b)) hok mixed Tryz.func39 rfl (by show 0 ≤ 500; omega) rfl (ids := [0]) (by kernel_rfl) rfl (fun caps => ?_) (fun id hid => ?_)
  · show g39 _ _ s _
    rw [g39_text]
    refine bc_dec (fun h => ?_) (fun h1 => bc_dec (fun h => ?_) (fun h2 => ?_))
    · rw [nameOk_false (fun n => by have := n.lo; omega)]
    · rw [nameOk_false (fun n => by have := n.hi; omega)]
    · exact ⟨0, ⟨Nat.zero_le _, by omega, by omega, fun j b hj => by omega⟩, rfl⟩
  · obtain rfl := List.mem_singleton.1 hid
    refine ⟨Nat, st, inv, fun i => s.size - i, ⟨fun s b h => h, by kernel_rfl, ?_⟩⟩
    rintro i ⟨hi, h1, h2, hall⟩
    show r39 _ _ s i _ _ _
    rw [r39_text]
    refine bc_dec (fun h => ?_) (fun h => ?_)
    · have hi' : i < s.size := by omega
      obtain ⟨b, hb⟩ := byte_at hi'
      refine bc_yes (by omega) ⟨b, ⟨hb⟩, ?_⟩
      have hB : nameB i b.toNat → ∃ y, inv y ∧ s.size - y < s.size - i ∧ st y = ([(0, .string s), (3, .int .i64 (IntKind.wrap .i64 ((i : Int) + 1)))], []) := by
        intro hn
        refine ⟨i + 1, ⟨hi', h1, h2, fun j c hj hc => ?_⟩, by omega, ?_⟩
        · by_cases e : j = i
          · subst e; rw [hb] at hc; cases hc; exact hn
          · exact hall j c (by omega) hc
        · rw [w64 (by omega) (by omega)]; rfl
      have hF : ¬ nameB i b.toNat → [dB false] = [dB (nameOk s)] := fun hn => by rw [nameOk_false (fun n => hn (n.all i b hb))]
      unfold nameB letter at hB hF
      repeat' first
        | refine bc_dec (fun _ => ?_) (fun _ => ?_)
        | refine bc_beq (fun _ => ?_) (fun _ => ?_)
        | refine bc_bne (fun _ => ?_) (fun _ => ?_)
        | exact hB (by omega)
        | exact hF (by omega)
    · show (if 0 = 0 then _ else _)
      rw [if_pos rfl]
      show n39 _ _ _
      rw [n39_text]
      rw [nameOk_true ⟨h1, h2, fun j b hb => hall j b (by
        have : j < s.size := by
          rcases Nat.lt_or_ge j s.size with h | h
          · exact h
          · rw [getElem?_neg _ _ (by omega)] at hb; cases hb
        omega) hb⟩]

theorem con52 (s : ByteArray) : Con Tryz.prog 52 [.val (.string s)] [dB (nameOk s)] := by
  let inv : Nat → Prop := fun i => i ≤ s.size ∧ 1 ≤ s.size ∧ s.size ≤ 12 ∧ (∀ b, s[0]? = some b → letter b.toNat) ∧ ∀ j b, j < i → s[j]? = some b → nameB j b.toNat
  let st : Nat → Slots × Blocks := fun i => (s52 s s.size i, [])
  refine con_of (L := fun _ s b => ∃ x, inv x ∧ st x = (s, b)) hok mixed Tryz.func52 rfl (by show 0 ≤ 500; omega) rfl (ids := [0]) (by kernel_rfl) rfl (fun caps => ?_) (fun id hid => ?_)
  · show g52 _ _ s _
    rw [g52_text]
    refine bc_beq (fun h => ?_) (fun h1 => bc_dec (fun h => ?_) (fun h2 => ?_))
    · rw [nameOk_false (fun n => by have := n.lo; omega)]
    · rw [nameOk_false (fun n => by have := n.hi; omega)]
    · obtain ⟨b, hb⟩ := byte_at (s := s) (i := 0) (by omega)
      refine ⟨b, ⟨hb⟩, ?_⟩
      have hB : letter b.toNat → ∃ x, inv x ∧ st x = ([(0, .string s), (19, .int .i64 (s.size : Int)), (20, .int .i64 0)], []) := by
        intro hl
        exact ⟨0, ⟨Nat.zero_le _, by omega, by omega, fun c hc => by rw [hb] at hc; cases hc; exact hl, fun j b hj => by omega⟩, rfl⟩
      have hF : ¬ letter b.toNat → [dB false] = [dB (nameOk s)] := fun hn => by
        rw [nameOk_false (fun n => by
          rcases n.all 0 b hb with h | h
          · exact hn h
          · exact h.1 rfl)]
      unfold letter at hB hF
      repeat' first
        | refine bc_dec (fun _ => ?_) (fun _ => ?_)
        | exact hB (by omega)
        | exact hF (by omega)
  · obtain rfl := List.mem_singleton.1 hid
    refine ⟨Nat, st, inv, fun i => s.size - i, ⟨fun s b h => h, by kernel_rfl, ?_⟩⟩
    rintro i ⟨hi, h1, h2, h0, hall⟩
    show r52 _ _ s _ i _ _ _
    rw [r52_text]
    refine bc_dec (fun h => ?_) (fun h => ?_)
    · have hi' : i < s.size := by omega
      obtain ⟨b, hb⟩ := byte_at hi'
      have hi0 : 0 ≤ (i : Int) := by omega
      refine bc_yes hi0 ⟨b, ⟨hb⟩, ?_⟩
      have hz : i = 0 → letter b.toNat := fun e => by subst e; exact h0 b hb
      have hB : nameB i b.toNat → ∃ y, inv y ∧ s.size - y < s.size - i ∧ st y = ([(0, .string s), (19, .int .i64 (s.size : Int)), (20, .int .i64 (IntKind.wrap .i64 ((i : Int) + 1)))], []) := by
        intro hn
        refine ⟨i + 1, ⟨hi', h1, h2, h0, fun j c hj hc => ?_⟩, by omega, ?_⟩
        · by_cases e : j = i
          · subst e; rw [hb] at hc; cases hc; exact hn
          · exact hall j c (by omega) hc
        · rw [w64 (by omega) (by omega)]; rfl
      have hF : ¬ nameB i b.toNat → [dB false] = [dB (nameOk s)] := fun hn => by rw [nameOk_false (fun n => hn (n.all i b hb))]
      unfold nameB letter at hB hF
      unfold letter at hz
      repeat' first
        | refine bc_yes hi0 ⟨b, ⟨hb⟩, ?_⟩
        | refine bc_dec (fun _ => ?_) (fun _ => ?_)
        | refine bc_bne (fun _ => ?_) (fun _ => ?_)
        | exact hB (by omega)
        | exact hF (by omega)
    · show (if 0 = 0 then _ else _)
      rw [if_pos rfl]
      show n52 _ _ _
      rw [n52_text]
      rw [nameOk_true ⟨h1, h2, fun j b hb => hall j b (by
        have : j < s.size := by
          rcases Nat.lt_or_ge j s.size with h | h
          · exact h
          · rw [getElem?_neg _ _ (by omega)] at hb; cases hb
        omega) hb⟩]

theorem con9 (s : ByteArray) (g t w l : Int) : Con Tryz.prog 9 [dSlab s g t w l] [dI (slabE s g t w l)] := by
  refine con_flat hok mixed Tryz.func9 rfl (by show 0 ≤ 500; omega) rfl (by kernel_rfl) (fun caps => ?_)
  show g9 _ _ s g t w l _
  rw [g9_text]
  have hc := con39 s
  cases hn : nameOk s with
  | false => exact .inr ⟨⟨by rw [hn] at hc; exact hc⟩, by simp only [slabE, hn, cond_false]⟩
  | true =>
    refine .inl ⟨⟨by rw [hn] at hc; exact hc⟩, ?_⟩
    simp only [slabE, hn, cond_true]
    repeat' first
      | refine bc_dec (fun _ => ?_) (fun _ => ?_)
      | (rw [if_pos (by omega)]; done)
      | (rw [if_neg (by omega)]; done)
theorem con36 (s : ByteArray) (g t w l : Int) : Con Tryz.prog 36 [dSlab s g t w l] [dI (slabE s g t w l)] := by
  refine con_flat hok mixed Tryz.func36 rfl (by show 0 ≤ 500; omega) rfl (by kernel_rfl) (fun caps => ?_)
  show g36 _ _ s g t w l _
  rw [g36_text]
  have hc := con52 s
  cases hn : nameOk s with
  | false => exact .inr ⟨⟨by rw [hn] at hc; exact hc⟩, by simp only [slabE, hn, cond_false]⟩
  | true =>
    refine .inl ⟨⟨by rw [hn] at hc; exact hc⟩, ?_⟩
    simp only [slabE, hn, cond_true]
    repeat' first
      | refine bc_dec (fun _ => ?_) (fun _ => ?_)
      | (rw [if_pos (by omega)]; done)
      | (rw [if_neg (by omega)]; done)
end Go.Proofs.C1
