/- Texts of the proof, put together: Gc8D, Gc8E, Gc8KT, Gc8T3, Gc8T4, G8I, Gc8F, Gc8KE. -/
import Derived.Test.YtjimnhgpldmpnaaGreatDoorP6
import Derived.KernelRfl
/- Chapter 8: sets, temperatures after the banks, what is available, in data. -/
namespace Go.Proofs.G5c
open Go Go.Abs Go.Proofs Go.Proofs.G8
set_option maxRecDepth 100000
theorem preCOK : PreOK Tryz.prog (preC C5) := by
  intro g h he args ats H k hk
  unfold preC at he
  rcases ite_so he with ⟨e, rfl⟩ | he
  · rw [beq_iff_eq] at e
    subst e
    exact wpState_call (fun args bs K hk => lim_ok limGood hk) hk
  rcases ite_so he with ⟨e, rfl⟩ | he
  · exact fixH_ok (fun _ _ _ h => h) _ _ _ _ _ hk
  rcases ite_so he with ⟨e, rfl⟩ | he
  · exact fixH_ok (fun _ _ _ h => h) _ _ _ _ _ hk
  rcases ite_so he with ⟨e, rfl⟩ | he
  · exact fixH_ok (fun _ _ _ h => h) _ _ _ _ _ hk
  rcases ite_so he with ⟨e, rfl⟩ | he
  · exact fixH_ok (fun _ _ _ h => h) _ _ _ _ _ hk
  rcases ite_so he with ⟨e, rfl⟩ | he
  · exact saidH_ok (fun _ _ _ h => h) _ _ _ _ _ hk
  · cases he
theorem hokC : HandlerOK Tryz.prog (hC C5) := handlerX_ok mixed preCOK (by decide) 6
/-! ### copies -/
theorem conCy (w a : Int) (l : List Tr) (hl : l.length ≤ 1000000) : C5 11 [dT w a l] [dT w a l] := by
  refine con_flat hokE mixed Tryz.func11 rfl (by show 1 ≤ 400; omega) rfl (by kernel_rfl) (fun caps => ?_)
  show gCy _ _ w a l.length (caps 500) (trs l) _
  rw [gCy_text]
  refine bc_yes (by simp) (bc_beq (fun h0 => ⟨⟨rfl, rfl⟩, ?_⟩) (fun h0 => bc_yes (by omega) (bc_yes (by omega) (bc_yes (by omega) ⟨⟨rfl, by simp⟩, ?_⟩))))
  · obtain rfl : l = [] := List.length_eq_zero_iff.1 h0
    rfl
  · rw [trs_whole, Nat.zero_add, List.nil_append]
theorem conCyn (w a : Int) : C5 11 [.agg [dI w, dI a, .nil]] [.agg [dI w, dI a, .sl 0 3 []]] := by
  refine con_flat hokE mixed Tryz.func11 rfl (by show 0 ≤ 400; omega) rfl (by kernel_rfl) (fun caps => ?_)
  show gCyn _ _ w a _
  rw [gCyn_text]
  exact ⟨⟨rfl, rfl⟩, rfl⟩
/-! ### valid tables -/
structure TV (w a : Int) (l : List Tr) : Prop where
  w0 : 0 ≤ w ∧ w ≤ 12000
  a0 : 0 ≤ a ∧ a ≤ 100
  n0 : 1 ≤ l.length ∧ l.length ≤ 4
  b0 : ∀ p ∈ l, (0 ≤ p.1 ∧ p.1 ≤ p.2.1 ∧ p.2.1 ≤ 1000) ∧ 0 ≤ p.2.2 ∧ p.2.2 ≤ 8
theorem bankE_ok {a b d : Int} : bankE a b d = 0 ↔ (0 ≤ a ∧ a ≤ b ∧ b ≤ 1000) ∧ 0 ≤ d ∧ d ≤ 8 := by
  unfold bankE
  repeat' split
  all_goals omega
theorem fbL_ok : ∀ {l : List Tr} {k : Int}, (fbL k (trs l)).2 = 0 ↔ ∀ p ∈ l, (0 ≤ p.1 ∧ p.1 ≤ p.2.1 ∧ p.2.1 ≤ 1000) ∧ 0 ≤ p.2.2 ∧ p.2.2 ≤ 8
  | [], k => by simp [trs, fbL]
  | p :: r, k => by
    have e : fbL k (trs (p :: r)) = if bankE p.1 p.2.1 p.2.2 = 0 then fbL (k + 1) (trs r) else (k, bankE p.1 p.2.1 p.2.2) := rfl
    rw [e, List.forall_mem_cons (p := fun p : Tr => (0 ≤ p.1 ∧ p.1 ≤ p.2.1 ∧ p.2.1 ≤ 1000) ∧ 0 ≤ p.2.2 ∧ p.2.2 ≤ 8)]
    by_cases h : bankE p.1 p.2.1 p.2.2 = 0
    · rw [if_pos h, fbL_ok]
      exact ⟨fun x => ⟨bankE_ok.1 h, x⟩, fun x => x.2⟩
    · rw [if_neg h]
      exact ⟨fun x => absurd x h, fun x => absurd (bankE_ok.2 x.1) h⟩
theorem headE_ok {w a : Int} {n : Nat} : headE w a n = 0 ↔ (0 ≤ w ∧ w ≤ 12000) ∧ (0 ≤ a ∧ a ≤ 100) ∧ 1 ≤ n ∧ n ≤ 4 := by
  unfold headE
  split
  · rw [cntE_ok]; omega
  · omega
theorem ctE_ok {w a : Int} {l : List Tr} : ctE w a l = 0 ↔ TV w a l := by
  unfold ctE
  constructor
  · intro h
    split at h
    · rename_i h1
      have h2 := headE_ok.1 h1
      exact ⟨h2.1, h2.2.1, h2.2.2, fbL_ok.1 h⟩
    · rename_i h1; exact absurd h h1
  · intro h
    rw [if_pos (headE_ok.2 ⟨h.w0, h.a0, h.n0⟩)]
    exact fbL_ok.2 h.b0
/-! ### sets -/
theorem p2 : ∀ {n : Nat}, n ≤ 4 → IntKind.wrap .i64 (1 * 2 ^ Min.min (Int.toNat (n : Int)) 64) = 2 ^ n
  | 0, _ | 1, _ | 2, _ | 3, _ | 4, _ => by rfl
  | n + 5, h => absurd h (by omega)
theorem p2b : ∀ {n : Nat}, n ≤ 4 → (1 : Int) ≤ 2 ^ n ∧ (2 : Int) ^ n ≤ 16
  | 0, _ | 1, _ | 2, _ | 3, _ | 4, _ => by decide
  | n + 5, h => absurd h (by omega)
def setE (n : Nat) (s : Int) : Int := if 0 ≤ s ∧ s ≤ 2 ^ n - 1 then 0 else 2
theorem setE_ok {n : Nat} {s : Int} : setE n s = 0 ↔ 0 ≤ s ∧ s ≤ 2 ^ n - 1 := by
  unfold setE; split <;> omega
theorem set16 {n : Nat} {s : Int} (hn : n ≤ 4) (h : 0 ≤ s ∧ s ≤ 2 ^ n - 1) : 0 ≤ s ∧ s < 16 := by
  have := p2b hn
  omega
theorem conCn (w a : Int) (l : List Tr) (hn : l.length ≤ 4) : C5 43 [dT w a l] [dI (2 ^ l.length)] := by
  refine con_flat hokA mixed Tryz.func43 rfl (by show 1 ≤ 400; omega) rfl (by kernel_rfl) (fun caps => ?_)
  show gCn _ _ w a l.length (caps 500) (trs l) _
  rw [gCn_text, p2 hn]
theorem conSE (w a : Int) (l : List Tr) (hn : l.length ≤ 4) (s : Int) : C5 17 [dT w a l, dI s] [dI (setE l.length s)] := by
  have hb := p2b hn
  refine con_flat hokA mixed Tryz.func17 rfl (by show 1 ≤ 400; omega) rfl (by kernel_rfl) (fun caps => ?_)
  show gSE _ _ w a l.length (caps 500) (trs l) s _
  rw [gSE_text, trs_whole, bc_t (v3le l)]
  refine ⟨_, ⟨conCn w a l hn⟩, ?_⟩
  rw [w64 (by omega) (by omega), setE]
  by_cases h : 0 ≤ s ∧ s ≤ 2 ^ l.length - 1
  · exact .inl ⟨sayWt h, by rw [if_pos h] <;> trivial⟩
  · exact .inr ⟨sayWf h, by rw [if_neg h] <;> trivial⟩
theorem concS (w a : Int) (l : List Tr) (hn : l.length ≤ 4) (s : Int) : C5 57 [dT w a l, dI s] [dI (setE l.length s)] := by
  have hb := p2b hn
  refine con_flat hokA mixed Tryz.func57 rfl (by show 1 ≤ 400; omega) rfl (by kernel_rfl) (fun caps => ?_)
  show gcS _ _ w a l.length (caps 500) (trs l) s _
  rw [gcS_text, p2 hn, w64 (by omega) (by omega)]
  exact ⟨_, lim_s1, rfl⟩
theorem concSn (w a : Int) (s : Int) : C5 57 [.agg [dI w, dI a, .nil], dI s] [dI (setE 0 s)] := by
  refine con_flat hokA mixed Tryz.func57 rfl (by show 0 ≤ 400; omega) rfl (by kernel_rfl) (fun caps => ?_)
  show gcSn _ _ w a s _
  rw [gcSn_text]
  exact ⟨_, lim_s1, rfl⟩
theorem conIn (s : Int) (b : Nat) (hs : 0 ≤ s ∧ s < 16) (hb : b < 64) : C5 70 [dI s, dI b] [.val (.bool (inB s b))] := by
  refine con_flat hokA mixed Tryz.func70 rfl (by show 0 ≤ 400; omega) rfl (by kernel_rfl) (fun caps => ?_)
  show gIn _ _ s b _
  have h2 := div_small (b := b) hs
  rw [gIn_text, fdiv_pow hb, Int.tmod_eq_emod_of_nonneg h2.1, bc_t (show (0 : Int) ≤ (b : Int) by omega)]
  refine bc_beq (fun h => ?_) (fun h => ?_)
  · rw [inB, decide_eq_true h] <;> trivial
  · rw [inB, decide_eq_false h] <;> trivial
theorem conHa (s : Int) (b : Nat) (hb : b < 64) : C5 83 [dI s, dI b] [.val (.bool (inB s b))] := by
  refine con_flat hokA mixed Tryz.func83 rfl (by show 0 ≤ 400; omega) rfl (by kernel_rfl) (fun caps => ?_)
  show gHa _ _ s b _
  rw [gHa_text, fdiv_pow hb, bc_t (show (0 : Int) ≤ (b : Int) by omega), land1, w64 (by omega) (by omega)]
  refine bc_beq (fun h => ?_) (fun h => ?_)
  · rw [inB, decide_eq_true h] <;> trivial
  · rw [inB, decide_eq_false h] <;> trivial
theorem sayHt {s : Int} {b : Nat} (hb : b < 64) (h : inB s b = true) : Says C5 83 [dI s, dI b] [.val (.bool true)] := by
  have := conHa s b hb
  rw [h] at this
  exact ⟨this⟩
theorem sayHf {s : Int} {b : Nat} (hb : b < 64) (h : inB s b = false) : Says C5 83 [dI s, dI b] [.val (.bool false)] := by
  have := conHa s b hb
  rw [h] at this
  exact ⟨this⟩
theorem sayNt {s : Int} {b : Nat} (hs : 0 ≤ s ∧ s < 16) (hb : b < 64) (h : inB s b = true) : Says C5 70 [dI s, dI b] [.val (.bool true)] := by
  have := conIn s b hs hb
  rw [h] at this
  exact ⟨this⟩
theorem sayNf {s : Int} {b : Nat} (hs : 0 ≤ s ∧ s < 16) (hb : b < 64) (h : inB s b = false) : Says C5 70 [dI s, dI b] [.val (.bool false)] := by
  have := conIn s b hs hb
  rw [h] at this
  exact ⟨this⟩
/-! ### temperatures -/
abbrev his (l : List Tr) : List Int := l.map fun p => p.2.1
abbrev los (l : List Tr) : List Int := l.map fun p => p.1
theorem drop_hi {l : List Tr} {i : Nat} (h : i < l.length) : (his l).drop i = (tp l i).2.1 :: (his l).drop (i + 1) := by
  rw [List.drop_eq_getElem_cons (by simpa using h), ← tp_at h]; simp
theorem drop_lo {l : List Tr} {i : Nat} (h : i < l.length) : (los l).drop i = (tp l i).1 :: (los l).drop (i + 1) := by
  rw [List.drop_eq_getElem_cons (by simpa using h), ← tp_at h]; simp
theorem drop_gd {l : List Int} {i : Nat} (h : i < l.length) : l.drop i = gd l i :: l.drop (i + 1) := by
  rw [List.drop_eq_getElem_cons h, gd_at h]
theorem TV.hi {w a : Int} {l : List Tr} (h : TV w a l) : ∀ r ∈ his l, 0 ≤ r ∧ r ≤ 1000 := by
  intro r hr
  obtain ⟨p, hp, rfl⟩ := List.mem_map.1 hr
  have := h.b0 p hp
  omega
theorem TV.lo {w a : Int} {l : List Tr} (h : TV w a l) : ∀ r ∈ los l, 0 ≤ r ∧ r ≤ 1000 := by
  intro r hr
  obtain ⟨p, hp, rfl⟩ := List.mem_map.1 hr
  have := h.b0 p hp
  omega
theorem conP1 {w a : Int} {l : List Tr} (h : TV w a l) (s d : Int) (hd : 0 ≤ d ∧ d ≤ 12000) : C5 94 [dT w a l, dI s, dI d, .val (.func (.func 95) #[] #[])] [dI (aft w a s 0 (his l) d)] := by
  have hn := h.n0
  let inv : Nat × Int × Nat → Prop := fun x => x.1 ≤ l.length ∧ (0 ≤ x.2.1 ∧ x.2.1 ≤ 12000) ∧ aft w a s 0 (his l) d = aft w a s x.1 ((his l).drop x.1) x.2.1
  let st : Nat × Int × Nat → Slots × Blocks := fun x => zP11 s x.2.1 l.length x.2.2 l.length x.1 w a l.length x.2.2 (trs l)
  refine con_of (L := fun _ s b => ∃ x, inv x ∧ st x = (s, b)) hokC mixed Tryz.func94 rfl (by show 1 ≤ 400; omega) rfl (ids := [0]) (by kernel_rfl) rfl (fun caps => ?_) (fun id hid => ?_)
  · show gP1 _ _ w a l.length (caps 500) (trs l) s d _
    rw [gP1_text]
    exact ⟨(0, d, caps 500), ⟨Nat.zero_le _, hd, rfl⟩, rfl⟩
  · obtain rfl := List.mem_singleton.1 hid
    refine ⟨Nat × Int × Nat, st, inv, fun x => l.length - x.1, ⟨fun s b h => h, by kernel_rfl, ?_⟩⟩
    rintro ⟨i, e, cap⟩ ⟨hi, he, hr⟩
    simp only at hi hr he
    show rP11 _ _ s e l.length cap l.length i w a l.length cap (trs l) _ _ _
    rw [rP11_text]
    refine bc_dec (fun h1 => ?_) (fun h1 => ?_)
    · have hi1 : i < l.length := by omega
      have hb := h.b0 _ (tp_mem hi1)
      rw [drop_hi hi1, aft] at hr
      have e1 := prog_on (r := (tp l i).2.1) h.w0 h.a0 ⟨by omega, by omega⟩ he
      have e2 := prog_off (w := w) (r := (tp l i).2.1) h.a0 he
      simp only [bc_t h1, bc_t (show (0 : Int) ≤ (i : Int) by omega), Int.toNat_natCast, at3 (at_tp hi1), eq_self, true_and, wi1 hi1 (show l.length < 1000000000 by omega), e1, e2]
      cases hin : inB s i with
      | true =>
        rw [hin] at hr
        exact .inl ⟨sayHt (by omega) hin, (i + 1, stp w a true (tp l i).2.1 e, cap), ⟨hi1, stp_bd h.a0.1 h.w0.1 (by omega) he, hr⟩, by show l.length - (i + 1) < l.length - i; omega, rfl⟩
      | false =>
        rw [hin] at hr
        exact .inr ⟨sayHf (by omega) hin, (i + 1, stp w a false (tp l i).2.1 e, cap), ⟨hi1, stp_bd h.a0.1 h.w0.1 (by omega) he, hr⟩, by show l.length - (i + 1) < l.length - i; omega, rfl⟩
    · show (if 0 = 0 then _ else _)
      rw [if_pos rfl]
      show nP12 _ _ e _
      rw [nP12_text]
      rw [List.drop_eq_nil_of_le (by simp; omega)] at hr
      show _ = _; rw [hr]; rfl
theorem conP2 {w a : Int} {l : List Tr} (h : TV w a l) (s d : Int) (hd : 0 ≤ d ∧ d ≤ 12000) : C5 94 [dT w a l, dI s, dI d, .val (.func (.func 96) #[] #[])] [dI (aft w a s 0 (los l) d)] := by
  have hn := h.n0
  let inv : Nat × Int × Nat → Prop := fun x => x.1 ≤ l.length ∧ (0 ≤ x.2.1 ∧ x.2.1 ≤ 12000) ∧ aft w a s 0 (los l) d = aft w a s x.1 ((los l).drop x.1) x.2.1
  let st : Nat × Int × Nat → Slots × Blocks := fun x => zP21 s x.2.1 l.length x.2.2 l.length x.1 w a l.length x.2.2 (trs l)
  refine con_of (L := fun _ s b => ∃ x, inv x ∧ st x = (s, b)) hokC mixed Tryz.func94 rfl (by show 1 ≤ 400; omega) rfl (ids := [0]) (by kernel_rfl) rfl (fun caps => ?_) (fun id hid => ?_)
  · show gP2 _ _ w a l.length (caps 500) (trs l) s d _
    rw [gP2_text]
    exact ⟨(0, d, caps 500), ⟨Nat.zero_le _, hd, rfl⟩, rfl⟩
  · obtain rfl := List.mem_singleton.1 hid
    refine ⟨Nat × Int × Nat, st, inv, fun x => l.length - x.1, ⟨fun s b h => h, by kernel_rfl, ?_⟩⟩
    rintro ⟨i, e, cap⟩ ⟨hi, he, hr⟩
    simp only at hi hr he
    show rP21 _ _ s e l.length cap l.length i w a l.length cap (trs l) _ _ _
    rw [rP21_text]
    refine bc_dec (fun h1 => ?_) (fun h1 => ?_)
    · have hi1 : i < l.length := by omega
      have hb := h.b0 _ (tp_mem hi1)
      rw [drop_lo hi1, aft] at hr
      have e1 := prog_on (r := (tp l i).1) h.w0 h.a0 ⟨by omega, by omega⟩ he
      have e2 := prog_off (w := w) (r := (tp l i).1) h.a0 he
      simp only [bc_t h1, bc_t (show (0 : Int) ≤ (i : Int) by omega), Int.toNat_natCast, at3 (at_tp hi1), eq_self, true_and, wi1 hi1 (show l.length < 1000000000 by omega), e1, e2]
      cases hin : inB s i with
      | true =>
        rw [hin] at hr
        exact .inl ⟨sayHt (by omega) hin, (i + 1, stp w a true (tp l i).1 e, cap), ⟨hi1, stp_bd h.a0.1 h.w0.1 (by omega) he, hr⟩, by show l.length - (i + 1) < l.length - i; omega, rfl⟩
      | false =>
        rw [hin] at hr
        exact .inr ⟨sayHf (by omega) hin, (i + 1, stp w a false (tp l i).1 e, cap), ⟨hi1, stp_bd h.a0.1 h.w0.1 (by omega) he, hr⟩, by show l.length - (i + 1) < l.length - i; omega, rfl⟩
    · show (if 0 = 0 then _ else _)
      rw [if_pos rfl]
      show nP22 _ _ e _
      rw [nP22_text]
      rw [List.drop_eq_nil_of_le (by simp; omega)] at hr
      show _ = _; rw [hr]; rfl
theorem conAf {w a : Int} {l : List Tr} (h : TV w a l) (s d : Int) (hs : 0 ≤ s ∧ s < 16) (hd : 0 ≤ d ∧ d ≤ 12000) (rs : List Int) (hrl : rs.length = l.length) (hrs : ∀ r ∈ rs, 0 ≤ r ∧ r ≤ 1000) : C5 36 [dT w a l, dI s, dI d, .sl rs.length 1 (vi rs)] [dI (aft w a s 0 rs d)] := by
  have hn := h.n0
  let inv : Nat × Int × Nat × Nat → Prop := fun x => x.1 ≤ l.length ∧ (0 ≤ x.2.1 ∧ x.2.1 ≤ 12000) ∧ aft w a s 0 rs d = aft w a s x.1 (rs.drop x.1) x.2.1
  let st : Nat × Int × Nat × Nat → Slots × Blocks := fun x => zAf1 s x.2.1 rs.length x.2.2.1 x.1 (vi rs) w a l.length x.2.2.2 (trs l)
  refine con_of (L := fun _ s b => ∃ x, inv x ∧ st x = (s, b)) hokC mixed Tryz.func36 rfl (by show 2 ≤ 400; omega) rfl (ids := [0]) (by kernel_rfl) rfl (fun caps => ?_) (fun id hid => ?_)
  · show gAf _ _ w a l.length (caps 500) (trs l) s d rs.length (caps 501) (vi rs) _
    rw [gAf_text]
    exact ⟨(0, d, caps 501, caps 500), ⟨Nat.zero_le _, hd, rfl⟩, rfl⟩
  · obtain rfl := List.mem_singleton.1 hid
    refine ⟨Nat × Int × Nat × Nat, st, inv, fun x => l.length - x.1, ⟨fun s b h => h, by kernel_rfl, ?_⟩⟩
    rintro ⟨i, e, c1, c2⟩ ⟨hi, he, hr⟩
    simp only at hi hr he
    show rAf1 _ _ s e rs.length c1 i (vi rs) w a l.length c2 (trs l) _ _ _
    rw [rAf1_text]
    refine bc_dec (fun h1 => ?_) (fun h1 => ?_)
    · have hi1 : i < l.length := by omega
      have hi2 : i < rs.length := by omega
      have hb := hrs _ (show gd rs i ∈ rs by rw [← gd_at hi2]; exact List.getElem_mem hi2)
      rw [drop_gd hi2, aft] at hr
      simp only [bc_t (show (i : Int) < (rs.length : Int) by omega), bc_t (show (0 : Int) ≤ (i : Int) by omega), Int.toNat_natCast, at1 (at_gd hi2), eq_self, true_and, and_true, wi1 hi1 (show l.length < 1000000000 by omega)]
      cases hin : inB s i with
      | true =>
        rw [hin] at hr
        refine .inl ⟨sayNt hs (by omega) hin, bc_dec (fun h2 => ?_) (fun h2 => ?_)⟩
        · rw [ref_on h.w0 h.a0 hb he h2]
          exact ⟨(i + 1, stp w a true (gd rs i) e, c1, c2), ⟨hi1, stp_bd h.a0.1 h.w0.1 (by omega) he, hr⟩, by show l.length - (i + 1) < l.length - i; omega, rfl⟩
        · rw [ref_off (w := w) (r := gd rs i) (on := true) h.a0 he (fun hh => h2 hh.2)]
          exact ⟨(i + 1, stp w a true (gd rs i) e, c1, c2), ⟨hi1, stp_bd h.a0.1 h.w0.1 (by omega) he, hr⟩, by show l.length - (i + 1) < l.length - i; omega, rfl⟩
      | false =>
        rw [hin] at hr
        refine .inr ⟨sayNf hs (by omega) hin, ?_⟩
        rw [ref_off (w := w) (r := gd rs i) (on := false) h.a0 he (fun hh => by simp at hh)]
        exact ⟨(i + 1, stp w a false (gd rs i) e, c1, c2), ⟨hi1, stp_bd h.a0.1 h.w0.1 (by omega) he, hr⟩, by show l.length - (i + 1) < l.length - i; omega, rfl⟩
    · show (if 0 = 0 then _ else _)
      rw [if_pos rfl]
      show nAf2 _ _ e _
      rw [nAf2_text]
      rw [List.drop_eq_nil_of_le (by omega)] at hr
      show _ = _; rw [hr]; rfl
theorem conEx {w a : Int} {l : List Tr} (h : TV w a l) (s x y : Int) (hx : 0 ≤ x ∧ x ≤ 12000) (hy : 0 ≤ y ∧ y ≤ 12000) : C5 59 [dT w a l, dI s, .agg [dI x, dI y]] [.agg [dI (aft w a s 0 (his l) x), dI (aft w a s 0 (los l) y)]] := by
  refine con_flat hokC mixed Tryz.func59 rfl (by show 1 ≤ 400; omega) rfl (by kernel_rfl) (fun caps => ?_)
  show gEx _ _ w a l.length (caps 500) (trs l) s x y _
  rw [gEx_text]
  simp only [eq_self, true_and, and_true, trs_whole, bc_t (v3le l)]
  exact ⟨_, ⟨conP1 h s x hx⟩, _, ⟨conP2 h s y hy⟩, by trivial⟩
/-! ### what is available -/
def avl (g : Int) : Nat → List Tr → Int
  | _, [] => 0
  | b, t :: r => (if g + b ≥ t.2.2 then 2 ^ b else 0) + avl g (b + 1) r
theorem w1' : IntKind.wrap .i64 (0 + 1) = 1 := rfl
theorem w2' : IntKind.wrap .i64 (1 + 1) = 2 := rfl
theorem w3' : IntKind.wrap .i64 (2 + 1) = 3 := rfl
theorem avl1 (g : Int) (p : Tr) : avl g 0 [p] = (if g ≥ p.2.2 then 1 else 0) := by
  simp [avl]
theorem avl2 (g : Int) (p q : Tr) : avl g 0 [p, q] = (if g ≥ p.2.2 then 1 else 0) + (if g + 1 ≥ q.2.2 then 2 else 0) := by
  simp [avl]
theorem avl3 (g : Int) (p q r : Tr) : avl g 0 [p, q, r] = (if g ≥ p.2.2 then 1 else 0) + ((if g + 1 ≥ q.2.2 then 2 else 0) + (if g + 2 ≥ r.2.2 then 4 else 0)) := by
  simp [avl]
theorem avl4 (g : Int) (p q r t : Tr) : avl g 0 [p, q, r, t] = (if g ≥ p.2.2 then 1 else 0) + ((if g + 1 ≥ q.2.2 then 2 else 0) + ((if g + 2 ≥ r.2.2 then 4 else 0) + (if g + 3 ≥ t.2.2 then 8 else 0))) := by
  simp [avl]
theorem conV {w a : Int} {l : List Tr} (h : TV w a l) (g : Int) (hg : 0 ≤ g ∧ g ≤ 1000000) : C5 60 [dT w a l, dI g] [dI (avl g 0 l)] := by
  have hn := h.n0
  have hb := h.b0
  have w0 : IntKind.wrap .i64 (g + 0) = g := by rw [w64 (by omega) (by omega)]; omega
  have w1 : IntKind.wrap .i64 (g + 1) = g + 1 := w64 (by omega) (by omega)
  have w2 : IntKind.wrap .i64 (g + 2) = g + 2 := w64 (by omega) (by omega)
  have w3 : IntKind.wrap .i64 (g + 3) = g + 3 := w64 (by omega) (by omega)
  refine con_walk hokC mixed (u := 8) (by decide) Tryz.func60 rfl (by show 1 ≤ 400; omega) (fun caps => ?_)
  match l, hn, hb with
  | [], hn, _ => exact absurd hn.1 (by decide)
  | [p], _, hb =>
    have hp := (hb p (by simp)).2
    show gV1 _ w a (caps 500) p.1 p.2.1 p.2.2 g _
    rw [gV1_text, avl1]
    simp only [at1 (show At [vI p.1, vI p.2.1, vI p.2.2] 2 1 [vI p.2.2] from ⟨by simp, rfl⟩), w0, w64 (z := g - p.2.2) (by omega) (by omega)]
    repeat' refine bc_dec (fun _ => ?_) (fun _ => ?_)
    all_goals (show [dI _] = [dI _]; repeat' split)
    all_goals first | rfl | omega
  | [p, q], _, hb =>
    have hp := (hb p (by simp)).2
    have hq := (hb q (by simp)).2
    show gV2 _ w a (caps 500) p.1 p.2.1 p.2.2 q.1 q.2.1 q.2.2 g _
    rw [gV2_text, avl2]
    have a2 : At [vI p.1, vI p.2.1, vI p.2.2, vI q.1, vI q.2.1, vI q.2.2] 2 1 [vI p.2.2] := ⟨by simp, rfl⟩
    have a5 : At [vI p.1, vI p.2.1, vI p.2.2, vI q.1, vI q.2.1, vI q.2.2] 5 1 [vI q.2.2] := ⟨by simp, rfl⟩
    simp only [at1 a2, at1 a5, w1', w0, w1, w64 (z := g - p.2.2) (by omega) (by omega), w64 (z := g + 1 - q.2.2) (by omega) (by omega)]
    repeat' refine bc_dec (fun _ => ?_) (fun _ => ?_)
    all_goals (show [dI _] = [dI _]; repeat' split)
    all_goals first | rfl | omega
  | [p, q, r], _, hb =>
    have hp := (hb p (by simp)).2
    have hq := (hb q (by simp)).2
    have hr := (hb r (by simp)).2
    show gV3 _ w a (caps 500) p.1 p.2.1 p.2.2 q.1 q.2.1 q.2.2 r.1 r.2.1 r.2.2 g _
    rw [gV3_text, avl3]
    have a2 : At [vI p.1, vI p.2.1, vI p.2.2, vI q.1, vI q.2.1, vI q.2.2, vI r.1, vI r.2.1, vI r.2.2] 2 1 [vI p.2.2] := ⟨by simp, rfl⟩
    have a5 : At [vI p.1, vI p.2.1, vI p.2.2, vI q.1, vI q.2.1, vI q.2.2, vI r.1, vI r.2.1, vI r.2.2] 5 1 [vI q.2.2] := ⟨by simp, rfl⟩
    have a8 : At [vI p.1, vI p.2.1, vI p.2.2, vI q.1, vI q.2.1, vI q.2.2, vI r.1, vI r.2.1, vI r.2.2] 8 1 [vI r.2.2] := ⟨by simp, rfl⟩
    simp only [at1 a2, at1 a5, at1 a8, w1', w2', w0, w1, w2, w64 (z := g - p.2.2) (by omega) (by omega), w64 (z := g + 1 - q.2.2) (by omega) (by omega), w64 (z := g + 2 - r.2.2) (by omega) (by omega)]
    repeat' refine bc_dec (fun _ => ?_) (fun _ => ?_)
    all_goals (show [dI _] = [dI _]; repeat' split)
    all_goals first | rfl | omega
  | [p, q, r, t], _, hb =>
    have hp := (hb p (by simp)).2
    have hq := (hb q (by simp)).2
    have hr := (hb r (by simp)).2
    have ht := (hb t (by simp)).2
    show gV4 _ w a (caps 500) p.1 p.2.1 p.2.2 q.1 q.2.1 q.2.2 r.1 r.2.1 r.2.2 t.1 t.2.1 t.2.2 g _
    rw [gV4_text, avl4]
    have a2 : At [vI p.1, vI p.2.1, vI p.2.2, vI q.1, vI q.2.1, vI q.2.2, vI r.1, vI r.2.1, vI r.2.2, vI t.1, vI t.2.1, vI t.2.2] 2 1 [vI p.2.2] := ⟨by simp, rfl⟩
    have a5 : At [vI p.1, vI p.2.1, vI p.2.2, vI q.1, vI q.2.1, vI q.2.2, vI r.1, vI r.2.1, vI r.2.2, vI t.1, vI t.2.1, vI t.2.2] 5 1 [vI q.2.2] := ⟨by simp, rfl⟩
    have a8 : At [vI p.1, vI p.2.1, vI p.2.2, vI q.1, vI q.2.1, vI q.2.2, vI r.1, vI r.2.1, vI r.2.2, vI t.1, vI t.2.1, vI t.2.2] 8 1 [vI r.2.2] := ⟨by simp, rfl⟩
    have aB : At [vI p.1, vI p.2.1, vI p.2.2, vI q.1, vI q.2.1, vI q.2.2, vI r.1, vI r.2.1, vI r.2.2, vI t.1, vI t.2.1, vI t.2.2] 11 1 [vI t.2.2] := ⟨by simp, rfl⟩
    simp only [at1 a2, at1 a5, at1 a8, at1 aB, w1', w2', w3', w0, w1, w2, w3, w64 (z := g - p.2.2) (by omega) (by omega), w64 (z := g + 1 - q.2.2) (by omega) (by omega), w64 (z := g + 2 - r.2.2) (by omega) (by omega), w64 (z := g + 3 - t.2.2) (by omega) (by omega)]
    repeat' refine bc_dec (fun _ => ?_) (fun _ => ?_)
    all_goals (show [dI _] = [dI _]; repeat' split)
    all_goals first | rfl | omega
  | _ :: _ :: _ :: _ :: _ :: _, hn, _ => exact absurd hn.2 (by simp only [List.length_cons]; omega)
theorem conA {w a : Int} {l : List Tr} (h : TV w a l) (g : Int) (hg : 0 ≤ g ∧ g ≤ 1000000) : C5 16 [dT w a l, dI g] [dI (avl g 0 l)] := by
  have hn := h.n0
  have hb := h.b0
  have w0 : IntKind.wrap .i64 (g + 0) = g := by rw [w64 (by omega) (by omega)]; omega
  have w1 : IntKind.wrap .i64 (g + 1) = g + 1 := w64 (by omega) (by omega)
  have w2 : IntKind.wrap .i64 (g + 2) = g + 2 := w64 (by omega) (by omega)
  have w3 : IntKind.wrap .i64 (g + 3) = g + 3 := w64 (by omega) (by omega)
  refine con_walk hokC mixed (u := 8) (by decide) Tryz.func16 rfl (by show 1 ≤ 400; omega) (fun caps => ?_)
  match l, hn, hb with
  | [], hn, _ => exact absurd hn.1 (by decide)
  | [p], _, hb =>
    show gA1 _ w a (caps 500) p.1 p.2.1 p.2.2 g _
    rw [gA1_text, avl1]
    simp only [at1 (show At [vI p.1, vI p.2.1, vI p.2.2] 2 1 [vI p.2.2] from ⟨by simp, rfl⟩), w0]
    repeat' refine bc_dec (fun _ => ?_) (fun _ => ?_)
    all_goals (show [dI _] = [dI _]; repeat' split)
    all_goals first | rfl | omega
  | [p, q], _, hb =>
    show gA2 _ w a (caps 500) p.1 p.2.1 p.2.2 q.1 q.2.1 q.2.2 g _
    rw [gA2_text, avl2]
    have a2 : At [vI p.1, vI p.2.1, vI p.2.2, vI q.1, vI q.2.1, vI q.2.2] 2 1 [vI p.2.2] := ⟨by simp, rfl⟩
    have a5 : At [vI p.1, vI p.2.1, vI p.2.2, vI q.1, vI q.2.1, vI q.2.2] 5 1 [vI q.2.2] := ⟨by simp, rfl⟩
    simp only [at1 a2, at1 a5, w1', w0, w1]
    repeat' refine bc_dec (fun _ => ?_) (fun _ => ?_)
    all_goals (show [dI _] = [dI _]; repeat' split)
    all_goals first | rfl | omega
  | [p, q, r], _, hb =>
    show gA3 _ w a (caps 500) p.1 p.2.1 p.2.2 q.1 q.2.1 q.2.2 r.1 r.2.1 r.2.2 g _
    rw [gA3_text, avl3]
    have a2 : At [vI p.1, vI p.2.1, vI p.2.2, vI q.1, vI q.2.1, vI q.2.2, vI r.1, vI r.2.1, vI r.2.2] 2 1 [vI p.2.2] := ⟨by simp, rfl⟩
    have a5 : At [vI p.1, vI p.2.1, vI p.2.2, vI q.1, vI q.2.1, vI q.2.2, vI r.1, vI r.2.1, vI r.2.2] 5 1 [vI q.2.2] := ⟨by simp, rfl⟩
    have a8 : At [vI p.1, vI p.2.1, vI p.2.2, vI q.1, vI q.2.1, vI q.2.2, vI r.1, vI r.2.1, vI r.2.2] 8 1 [vI r.2.2] := ⟨by simp, rfl⟩
    simp only [at1 a2, at1 a5, at1 a8, w1', w2', w0, w1, w2]
    repeat' refine bc_dec (fun _ => ?_) (fun _ => ?_)
    all_goals (show [dI _] = [dI _]; repeat' split)
    all_goals first | rfl | omega
  | [p, q, r, t], _, hb =>
    show gA4 _ w a (caps 500) p.1 p.2.1 p.2.2 q.1 q.2.1 q.2.2 r.1 r.2.1 r.2.2 t.1 t.2.1 t.2.2 g _
    rw [gA4_text, avl4]
    have a2 : At [vI p.1, vI p.2.1, vI p.2.2, vI q.1, vI q.2.1, vI q.2.2, vI r.1, vI r.2.1, vI r.2.2, vI t.1, vI t.2.1, vI t.2.2] 2 1 [vI p.2.2] := ⟨by simp, rfl⟩
    have a5 : At [vI p.1, vI p.2.1, vI p.2.2, vI q.1, vI q.2.1, vI q.2.2, vI r.1, vI r.2.1, vI r.2.2, vI t.1, vI t.2.1, vI t.2.2] 5 1 [vI q.2.2] := ⟨by simp, rfl⟩
    have a8 : At [vI p.1, vI p.2.1, vI p.2.2, vI q.1, vI q.2.1, vI q.2.2, vI r.1, vI r.2.1, vI r.2.2, vI t.1, vI t.2.1, vI t.2.2] 8 1 [vI r.2.2] := ⟨by simp, rfl⟩
    have aB : At [vI p.1, vI p.2.1, vI p.2.2, vI q.1, vI q.2.1, vI q.2.2, vI r.1, vI r.2.1, vI r.2.2, vI t.1, vI t.2.1, vI t.2.2] 11 1 [vI t.2.2] := ⟨by simp, rfl⟩
    simp only [at1 a2, at1 a5, at1 a8, at1 aB, w1', w2', w3', w0, w1, w2, w3]
    repeat' refine bc_dec (fun _ => ?_) (fun _ => ?_)
    all_goals (show [dI _] = [dI _]; repeat' split)
    all_goals first | rfl | omega
  | _ :: _ :: _ :: _ :: _ :: _, hn, _ => exact absurd hn.2 (by simp only [List.length_cons]; omega)
end Go.Proofs.G5c

/- Chapter 8: exit ranges and what is available, checked; the law on tables, in data. -/
namespace Go.Proofs.G5c
open Go Go.Abs Go.Proofs Go.Proofs.G8
set_option maxRecDepth 100000
theorem adz (k : Nat) : Go.Addr.add { block := 500, off := k } 0 = { block := 500, off := k } := rfl
theorem vi_snoc {L : List Int} {i : Nat} (h : i < L.length) : List.take (i * 1) (List.drop 0 (vi (L.take i))) ++ [vI (gd L i)] = vi (L.take (i + 1)) := by
  have e : (L.take i).length = i := by rw [List.length_take]; omega
  have := vi_whole (L.take i)
  rw [e] at this
  rw [this, List.take_succ_eq_append_getElem h, gd_at h]
  simp [vi]
theorem gd_hi {l : List Tr} {i : Nat} (h : i < l.length) : gd (his l) i = (tp l i).2.1 := by
  rw [← gd_at (show i < (his l).length by simpa using h), ← tp_at h]; simp
theorem gd_lo {l : List Tr} {i : Nat} (h : i < l.length) : gd (los l) i = (tp l i).1 := by
  rw [← gd_at (show i < (los l).length by simpa using h), ← tp_at h]; simp
theorem conQa {w a : Int} {l : List Tr} (h : TV w a l) (s x y : Int) (hs : 0 ≤ s ∧ s < 16) (hx : 0 ≤ x ∧ x ≤ 12000) (hy : 0 ≤ y ∧ y ≤ 12000) : C5 19 [dT w a l, dI s, .agg [dI x, dI y]] [.agg [dI (aft w a s 0 (his l) x), dI (aft w a s 0 (los l) y)]] := by
  have hn := h.n0
  let inv : Nat × Nat → Prop := fun q => q.1 ≤ l.length
  let st : Nat × Nat → Slots × Blocks := fun q => match q.1 with
    | 0 => zQa1 s 0 w a l.length q.2 x y 0 0 (trs l)
    | i + 1 => zQa2 s (i + 1) (i + 1) ((i + 1 : Nat) : Int) w a l.length q.2 x y 0 0 (vi ((los l).take (i + 1))) (vi ((his l).take (i + 1))) (trs l)
  refine con_of (L := fun _ s b => ∃ x, inv x ∧ st x = (s, b)) hokC mixed Tryz.func19 rfl (by show 1 ≤ 400; omega) rfl (ids := [0]) (by kernel_rfl) rfl (fun caps => ?_) (fun id hid => ?_)
  · show gQa _ _ w a l.length (caps 500) (trs l) s x y _
    rw [gQa_text]
    exact ⟨(0, caps 500), Nat.zero_le _, rfl⟩
  · obtain rfl := List.mem_singleton.1 hid
    refine ⟨Nat × Nat, st, inv, fun x => l.length - x.1, ⟨fun s b h => h, by kernel_rfl, ?_⟩⟩
    rintro ⟨i, cap⟩ hi
    have hi : i ≤ l.length := hi
    cases i with
    | zero =>
      show rQa1 _ _ s ((0 : Nat) : Int) w a l.length cap x y 0 0 (trs l) _ _ _
      rw [rQa1_text]
      have h0 : 0 < l.length := by omega
      have a0 := at_tp0 h0
      have a1 : At (trs l) (Go.Addr.off { block := 500, off := 0 + 0 * 3 } + 1) 1 [vI (tp l 0).2.1] := at_tp1 h0
      simp only [bc_t (show ((0 : Nat) : Int) < (l.length : Int) by omega), bc_t (show (0 : Int) ≤ ((0 : Nat) : Int) by omega), Int.toNat_natCast, adz, at1 a0, at1 a1, eq_self, true_and, and_true, wi1 h0 (show l.length < 1000000000 by omega)]
      refine ⟨(1, cap), h0, by show l.length - 1 < l.length - 0; omega, ?_⟩
      have e1 : vi ((los l).take 1) = [vI (tp l 0).1] := by
        rw [← vi_snoc (L := los l) (i := 0) (by simpa using h0), gd_lo h0]; simp [vi]
      have e2 : vi ((his l).take 1) = [vI (tp l 0).2.1] := by
        rw [← vi_snoc (L := his l) (i := 0) (by simpa using h0), gd_hi h0]; simp [vi]
      show zQa2 _ _ _ _ _ _ _ _ _ _ _ _ _ _ _ = _
      rw [e1, e2]
    | succ i =>
      show rQa2 _ _ s (i + 1) (i + 1) ((i + 1 : Nat) : Int) w a l.length cap x y 0 0 (vi ((los l).take (i + 1))) (vi ((his l).take (i + 1))) (trs l) _ _ _
      rw [rQa2_text]
      have e1 : (vi ((los l).take (i + 1))).length = i + 1 := by simp; omega
      have e2 : (vi ((his l).take (i + 1))).length = i + 1 := by simp; omega
      refine bc_dec (fun h1 => ?_) (fun h1 => ?_)
      · have h0 : i + 1 < l.length := by omega
        have a0 := at_tp0 h0
        have a1 : At (trs l) (Go.Addr.off { block := 500, off := 0 + (i + 1) * 3 } + 1) 1 [vI (tp l (i + 1)).2.1] := at_tp1 h0
        have f1 := vi_snoc (L := los l) (i := i + 1) (by simpa using h0)
        have f2 := vi_snoc (L := his l) (i := i + 1) (by simpa using h0)
        rw [gd_lo h0] at f1
        rw [gd_hi h0] at f2
        simp only [bc_t h1, bc_t (show (0 : Int) ≤ ((i + 1 : Nat) : Int) by omega), Int.toNat_natCast, adz, at1 a0, at1 a1, eq_self, true_and, and_true, wi1 h0 (show l.length < 1000000000 by omega), bc_t (show i + 1 < i + 1 + 1 by omega), bc_t (show (2 * (i + 1 + 1) + 768) * 8 ≤ 281474976710656 by omega), bc_t (show i + 1 + 1 ≤ 1099511627776 by omega), bc_t (show 0 + (i + 1) * 1 ≤ (vi ((los l).take (i + 1))).length by omega), bc_t (show 0 + (i + 1) * 1 = (vi ((los l).take (i + 1))).length by omega), bc_t (show 0 + (i + 1) * 1 ≤ (vi ((his l).take (i + 1))).length by omega), bc_t (show 0 + (i + 1) * 1 = (vi ((his l).take (i + 1))).length by omega), f1, f2]
        exact ⟨(i + 2, cap), h0, by show l.length - (i + 2) < l.length - (i + 1); omega, rfl⟩
      · show (if 0 = 0 then _ else _)
        rw [if_pos rfl]
        show nQa4 _ _ s (i + 1) (i + 1) w a l.length cap x y 0 0 (vi ((los l).take (i + 1))) (vi ((his l).take (i + 1))) (trs l) _
        have hl : i + 1 = l.length := by omega
        have t1 : (los l).take (i + 1) = los l := List.take_of_length_le (by simp; omega)
        have t2 : (his l).take (i + 1) = his l := List.take_of_length_le (by simp; omega)
        rw [nQa4_text, t1, t2, hl]
        have c1 := conAf h s x hs hx (his l) (by simp) h.hi
        have c2 := conAf h s y hs hy (los l) (by simp) h.lo
        have v1 := vi_whole (his l)
        have v2 := vi_whole (los l)
        have l1 := v1le (his l)
        have l2 := v1le (los l)
        have n1 : (his l).length = l.length := by simp
        have n2 : (los l).length = l.length := by simp
        rw [n1] at c1 v1 l1
        rw [n2] at c2 v2 l2
        simp only [eq_self, true_and, and_true, trs_whole, bc_t (v3le l), bc_t l1, bc_t l2, v1, v2]
        exact ⟨_, ⟨c1⟩, _, ⟨c2⟩, by trivial⟩
/-! ### checked -/
def pbE (w a : Int) (l : List Tr) (s x y : Int) : Int := fst0 [ctE w a l, setE l.length s, degE x y]
theorem pbE_ok {w a : Int} {l : List Tr} {s x y : Int} : pbE w a l s x y = 0 ↔ TV w a l ∧ (0 ≤ s ∧ s ≤ 2 ^ l.length - 1) ∧ 0 ≤ x ∧ x ≤ y ∧ y ≤ 12000 := by
  rw [← ctE_ok, ← setE_ok, ← degE_ok]
  unfold pbE
  simp only [fst0]
  repeat' split
  all_goals omega
def pbR (w a : Int) (l : List Tr) (s x y : Int) : List D := if pbE w a l s x y = 0 then [.agg [dI (aft w a s 0 (his l) x), dI (aft w a s 0 (los l) y)], dI 0] else [.agg [dI 0, dI 0], dI (pbE w a l s x y)]
theorem conPB (w a : Int) (l : List Tr) (hl : l.length < 1000000000) (s x y : Int) : C5 12 [dT w a l, dI s, .agg [dI x, dI y]] (pbR w a l s x y) := by
  refine con_flat hokC mixed Tryz.func12 rfl (by show 1 ≤ 400; omega) rfl (by kernel_rfl) (fun caps => ?_)
  show gPB _ _ w a l.length (caps 500) (trs l) s x y _
  rw [gPB_text]
  simp only [eq_self, true_and, and_true, trs_whole, bc_t (v3le l)]
  refine ⟨_, _, ⟨conCT w a l hl⟩, bc_bne (fun h => ?_) (fun h => ?_)⟩
  · refine ⟨_, ⟨concSn 0 0 s⟩, _, ⟨conDG x y⟩, _, ⟨conFE [_, _, _] (by simp)⟩, ?_⟩
    have e : fst0 [ctE w a l, setE 0 s, degE x y] = ctE w a l := by simp only [fst0]; rw [if_neg h]
    have e2 : pbE w a l s x y = ctE w a l := by unfold pbE; simp only [fst0]; rw [if_neg h]
    rw [e, pbR, e2, if_neg h]
    exact bc_bne (fun _ => by trivial) (fun hh => absurd hh h)
  · have hv := ctE_ok.1 h
    refine ⟨_, ⟨concS w a l hv.n0.2 s⟩, _, ⟨conDG x y⟩, _, ⟨conFE [_, _, _] (by simp)⟩, ?_⟩
    have e : fst0 [0, setE l.length s, degE x y] = pbE w a l s x y := by rw [pbE, h]
    rw [e, pbR]
    refine bc_bne (fun h2 => ?_) (fun h2 => ?_)
    · rw [if_neg h2]
    · rw [if_pos h2]
      have h3 := (pbE_ok.1 h2).2
      exact ⟨_, _, ⟨conEx hv s x y (by omega) (by omega)⟩, by trivial⟩
def aaR (w a : Int) (l : List Tr) (g : Int) : List D := if ctE w a l = 0 then (if 0 ≤ g ∧ g ≤ 11 then [dI (avl g 0 l), dI 0] else [dI 0, dI 6]) else [dI 0, dI (ctE w a l)]
theorem conAA (w a : Int) (l : List Tr) (hl : l.length < 1000000000) (g : Int) : C5 13 [dT w a l, dI g] (aaR w a l g) := by
  refine con_flat hokC mixed Tryz.func13 rfl (by show 1 ≤ 400; omega) rfl (by kernel_rfl) (fun caps => ?_)
  show gAA _ _ w a l.length (caps 500) (trs l) g _
  rw [gAA_text]
  simp only [trs_whole, bc_t (v3le l)]
  refine ⟨_, _, ⟨conCT w a l hl⟩, bc_bne (fun h => ?_) (fun h => ?_)⟩
  · refine bc_bne (fun _ => ?_) (fun hh => absurd hh h)
    rw [aaR, if_neg h]
  · rw [aaR, if_pos h]
    refine bc_dec (fun h1 => ?_) (fun h1 => bc_dec (fun h2 => ?_) (fun h2 => ?_))
    · rw [if_neg (by omega)]
    · rw [if_neg (by omega)]
    · rw [if_pos (by omega)]
      exact ⟨_, ⟨conV (ctE_ok.1 h) g ⟨by omega, by omega⟩⟩, by trivial⟩
/-! ### the law -/
theorem bcT {x y : Prop} : bcase true x y = x := rfl
theorem bcF {x y : Prop} : bcase false x y = y := rfl
theorem pbE_of {w a : Int} {l : List Tr} {s x y : Int} (h : ctE w a l = 0) : pbE w a l s x y = if setE l.length s = 0 then degE x y else setE l.length s := by
  rw [pbE, h]
  show fst0 [setE l.length s, degE x y] = _
  exact fst0_two _ _
theorem pbE_no {w a : Int} {l : List Tr} {s x y : Int} (h : ctE w a l ≠ 0) : pbE w a l s x y = ctE w a l := by
  rw [pbE]
  simp only [fst0]
  rw [if_neg h]
theorem conLT (w a : Int) (l : List Tr) (s x y g : Int) : C5 3 [dT w a l, .agg [dI s, dI x, dI y, dI g]] [.val (.bool true)] := by
  refine con_flat hokC mixed Tryz.func3 rfl (by show 1 ≤ 400; omega) rfl (by kernel_rfl) (fun caps => ?_)
  show gLT _ _ w a l.length (caps 500) (trs l) s x y g _
  rw [gLT_text]
  refine .inl ⟨⟨conAw⟩, bc_dec (fun hn => ?_) (fun hn => by trivial)⟩
  have hl : l.length < 1000000 := by omega
  simp only [eq_self, true_and, and_true, trs_whole, bc_t (v3le l)]
  refine ⟨⟨conCy w a l (by omega)⟩, _, _, ⟨conCT w a l (by omega)⟩, ⟨conCy w a l (by omega)⟩, ?_⟩
  have hp := conPB w a l (by omega) s x y
  have ha := conAA w a l (by omega) g
  have hr := conRT w a l (by omega)
  rw [pbR] at hp
  rw [aaR] at ha
  by_cases h : ctE w a l = 0
  · have hv := ctE_ok.1 h
    have hs := conSE w a l hv.n0.2 s
    rw [if_pos h] at ha
    rw [pbE_of h] at hp
    by_cases hA : setE l.length s = 0
    · rw [if_pos hA] at hp
      by_cases hB : degE x y = 0
      · rw [if_pos hB] at hp
        have h3 := degE_ok.1 hB
        have h4 := conQa hv s x y (set16 hv.n0.2 (setE_ok.1 hA)) (by omega) (by omega)
        refine ⟨_, _, _, ⟨hp⟩, ⟨conCy w a l (by omega)⟩, ?_⟩
        by_cases hg : 0 ≤ g ∧ g ≤ 11
        · rw [if_pos hg] at ha
          refine ⟨_, _, ⟨ha⟩, _, _, ⟨hr⟩, ?_⟩
          refine bc_bne (fun hh => absurd rfl hh) (fun _ => bc_bne (fun hh => absurd rfl hh) (fun _ => bc_bne (fun hh => absurd h hh) (fun _ => .inl ⟨sayWt hg, ?_⟩)))
          refine bc_bne (fun hh => absurd rfl hh) (fun _ => ⟨_, ⟨conA hv g ⟨by omega, by omega⟩⟩, bc_bne (fun hh => absurd rfl hh) (fun _ => ⟨_, ⟨hs⟩, ?_⟩)⟩)
          refine bc_beq (fun _ => ⟨_, ⟨conDE x y⟩, bc_bne (fun hh => absurd hB hh) (fun _ => bc_beq (fun _ => ⟨by simp [bcT], _, _, ⟨h4⟩, by simp [bcT]⟩) (fun hh => absurd rfl hh))⟩) (fun hh => absurd hA hh)
        · rw [if_neg hg] at ha
          refine ⟨_, _, ⟨ha⟩, _, _, ⟨hr⟩, ?_⟩
          refine bc_bne (fun hh => absurd rfl hh) (fun _ => bc_bne (fun hh => absurd rfl hh) (fun _ => bc_bne (fun hh => absurd h hh) (fun _ => .inr ⟨sayWf hg, ?_⟩)))
          refine bc_bne (fun hh => absurd rfl hh) (fun _ => bc_bne (fun hh => absurd rfl hh) (fun _ => ⟨_, ⟨hs⟩, ?_⟩))
          refine bc_beq (fun _ => ⟨_, ⟨conDE x y⟩, bc_bne (fun hh => absurd hB hh) (fun _ => bc_beq (fun _ => ⟨by simp [bcT], _, _, ⟨h4⟩, by simp [bcT]⟩) (fun hh => absurd rfl hh))⟩) (fun hh => absurd hA hh)
      · rw [if_neg hB] at hp
        refine ⟨_, _, _, ⟨hp⟩, ⟨conCy w a l (by omega)⟩, ?_⟩
        by_cases hg : 0 ≤ g ∧ g ≤ 11
        · rw [if_pos hg] at ha
          refine ⟨_, _, ⟨ha⟩, _, _, ⟨hr⟩, ?_⟩
          refine bc_bne (fun hh => absurd rfl hh) (fun _ => bc_bne (fun hh => absurd rfl hh) (fun _ => bc_bne (fun hh => absurd h hh) (fun _ => .inl ⟨sayWt hg, ?_⟩)))
          refine bc_bne (fun hh => absurd rfl hh) (fun _ => ⟨_, ⟨conA hv g ⟨by omega, by omega⟩⟩, bc_bne (fun hh => absurd rfl hh) (fun _ => ⟨_, ⟨hs⟩, ?_⟩)⟩)
          refine bc_beq (fun _ => ⟨_, ⟨conDE x y⟩, bc_bne (fun _ => bc_beq (fun _ => by simp [bcT]) (fun hh => absurd rfl hh)) (fun hh => absurd hh hB)⟩) (fun hh => absurd hA hh)
        · rw [if_neg hg] at ha
          refine ⟨_, _, ⟨ha⟩, _, _, ⟨hr⟩, ?_⟩
          refine bc_bne (fun hh => absurd rfl hh) (fun _ => bc_bne (fun hh => absurd rfl hh) (fun _ => bc_bne (fun hh => absurd h hh) (fun _ => .inr ⟨sayWf hg, ?_⟩)))
          refine bc_bne (fun hh => absurd rfl hh) (fun _ => bc_bne (fun hh => absurd rfl hh) (fun _ => ⟨_, ⟨hs⟩, ?_⟩))
          refine bc_beq (fun _ => ⟨_, ⟨conDE x y⟩, bc_bne (fun _ => bc_beq (fun _ => by simp [bcT]) (fun hh => absurd rfl hh)) (fun hh => absurd hh hB)⟩) (fun hh => absurd hA hh)
    · rw [if_neg hA, if_neg hA] at hp
      refine ⟨_, _, _, ⟨hp⟩, ⟨conCy w a l (by omega)⟩, ?_⟩
      by_cases hg : 0 ≤ g ∧ g ≤ 11
      · rw [if_pos hg] at ha
        refine ⟨_, _, ⟨ha⟩, _, _, ⟨hr⟩, ?_⟩
        refine bc_bne (fun hh => absurd rfl hh) (fun _ => bc_bne (fun hh => absurd rfl hh) (fun _ => bc_bne (fun hh => absurd h hh) (fun _ => .inl ⟨sayWt hg, ?_⟩)))
        refine bc_bne (fun hh => absurd rfl hh) (fun _ => ⟨_, ⟨conA hv g ⟨by omega, by omega⟩⟩, bc_bne (fun hh => absurd rfl hh) (fun _ => ⟨_, ⟨hs⟩, ?_⟩)⟩)
        refine bc_beq (fun hh => absurd hh hA) (fun _ => bc_bne (fun _ => bc_beq (fun _ => by simp [bcT]) (fun hh => absurd rfl hh)) (fun hh => absurd hh hA))
      · rw [if_neg hg] at ha
        refine ⟨_, _, ⟨ha⟩, _, _, ⟨hr⟩, ?_⟩
        refine bc_bne (fun hh => absurd rfl hh) (fun _ => bc_bne (fun hh => absurd rfl hh) (fun _ => bc_bne (fun hh => absurd h hh) (fun _ => .inr ⟨sayWf hg, ?_⟩)))
        refine bc_bne (fun hh => absurd rfl hh) (fun _ => bc_bne (fun hh => absurd rfl hh) (fun _ => ⟨_, ⟨hs⟩, ?_⟩))
        refine bc_beq (fun hh => absurd hh hA) (fun _ => bc_bne (fun _ => bc_beq (fun _ => by simp [bcT]) (fun hh => absurd rfl hh)) (fun hh => absurd hh hA))
  · rw [if_neg h] at ha
    rw [if_neg (fun hh => h (ctE_ok.2 (pbE_ok.1 hh).1)), pbE_no h] at hp
    refine ⟨_, _, _, ⟨hp⟩, ⟨conCy w a l (by omega)⟩, _, _, ⟨ha⟩, _, _, ⟨hr⟩, ?_⟩
    refine bc_bne (fun hh => absurd rfl hh) (fun _ => bc_bne (fun hh => absurd rfl hh) (fun _ => bc_bne (fun _ => ?_) (fun hh => absurd hh h)))
    refine bc_beq (fun _ => bc_beq (fun _ => ?_) (fun hh => absurd rfl hh)) (fun hh => absurd rfl hh)
    simp [bcT]
theorem conLTn (w a : Int) (s x y g : Int) : C5 3 [.agg [dI w, dI a, .nil], .agg [dI s, dI x, dI y, dI g]] [.val (.bool true)] := by
  refine con_flat hokC mixed Tryz.func3 rfl (by show 0 ≤ 400; omega) rfl (by kernel_rfl) (fun caps => ?_)
  show gLTn _ _ w a s x y g _
  rw [gLTn_text]
  refine .inl ⟨⟨conAw⟩, ?_⟩
  simp only [eq_self, true_and, and_true]
  have h : ctE w a [] ≠ 0 := fun hh => by have := (ctE_ok.1 hh).n0.1; simp at this
  have hp := conPB w a [] (by simp) s x y
  have ha := conAA w a [] (by simp) g
  rw [pbR, if_neg (fun hh => h (ctE_ok.2 (pbE_ok.1 hh).1)), pbE_no h] at hp
  rw [aaR, if_neg h] at ha
  refine ⟨⟨conCyn w a⟩, _, _, ⟨conCT w a [] (by simp)⟩, ⟨conCyn w a⟩, _, _, _, ⟨hp⟩, ⟨conCyn w a⟩, _, _, ⟨ha⟩, _, _, ⟨conRTn w a⟩, ?_⟩
  refine bc_bne (fun hh => absurd rfl hh) (fun _ => bc_bne (fun hh => absurd rfl hh) (fun _ => bc_bne (fun _ => ?_) (fun hh => absurd hh h)))
  refine bc_beq (fun _ => bc_beq (fun _ => ?_) (fun hh => absurd rfl hh)) (fun hh => absurd rfl hh)
  simp [bcT]
end Go.Proofs.G5c

/- CoolTables: whatever the input, it returns true, and the input reads as it did. Condition: the listed library tables hold what the text of the program lays (the card ties that to the text). -/
namespace Go.Proofs.YtjimnhgpldmpnaaGreatDoor.K
open Go Go.Abs Go.RowKit Go.ChangeShapes Go.WideShapes Go.ChangeAt Go.Proofs Go.Flat Go.Proofs.G5c
set_option maxRecDepth 100000
namespace CoolTables
abbrev shs : List Sh := [.agg [3, 3, 22], .agg [3, 3, 3, 3]]
theorem shapes : Tryz.f3.params.toList.mapM (argSh Tryz.prog) = some shs := by kernel_rfl
theorem all (ds : List D) (h : ShDs Tryz.prog shs ds) : Con Tryz.prog 3 ds [.val (.bool true)] := by
  cases h with | cons h1 t => cases t with | cons h2 t =>
  cases t
  obtain ⟨d1, rfl, h1⟩ := h1
  obtain ⟨d2, rfl, h2⟩ := h2
  cases h1 with | cons p1 t => cases t with | cons p2 t => cases t with | cons p3 t =>
  cases t
  cases h2 with | cons q1 t => cases t with | cons q2 t => cases t with | cons q3 t => cases t with | cons q4 t =>
  cases t
  obtain ⟨x1, rfl, _⟩ := leaf_int Tryz.underlying3 p1
  obtain ⟨x2, rfl, _⟩ := leaf_int Tryz.underlying3 p2
  obtain ⟨y1, rfl, _⟩ := leaf_int Tryz.underlying3 q1
  obtain ⟨y2, rfl, _⟩ := leaf_int Tryz.underlying3 q2
  obtain ⟨y3, rfl, _⟩ := leaf_int Tryz.underlying3 q3
  obtain ⟨y4, rfl, _⟩ := leaf_int Tryz.underlying3 q4
  rcases leaf_trs Tryz.underlying22 (by kernel_rfl) p3 with rfl | ⟨l, rfl⟩
  · exact conLTn x1 x2 y1 y2 y3 y4
  · exact conLT x1 x2 l y1 y2 y3 y4
def wArgs : Array Value := #[.agg #[.int .i64 0, .int .i64 0, .slice none 0 0], .agg #[.int .i64 0, .int .i64 0, .int .i64 0, .int .i64 0]]
theorem laid_met (os : Os) : laidMet Tryz.prog Rows.coolTablesRow.laid ((laidWorld os).forCall (fun _ _ => 0) ⟨#[], wArgs, []⟩).memory :=
  laidMet_of_run' 8 (by kernel_rfl) (by kernel_rfl)
theorem reads (os : Os) {H : Type} (enc : TypeId × Value → H) : ∃ places, DataW.whole enc Tryz.prog ((laidWorld os).forCall (fun _ _ => 0) ⟨#[], wArgs, []⟩).memory Tryz.f3.params.toList Rows.coolTablesSpec.vars false wArgs.toList 8 =
    some ([.agg [.lit (.int .i64 0), .lit (.int .i64 0), .nil], .agg [.lit (.int .i64 0), .agg [.lit (.int .i64 0), .lit (.int .i64 0)], .lit (.int .i64 0)]], [], places) :=
  ⟨[], by kernel_rfl⟩
theorem lifted (os : Os) (started : os.Started) (H : Type) (enc : TypeId × Value → H) (F : Stop.Interp) :
    ReturnsInHanded {} Tryz.checked os 3 .any ((OpenSpec.ofChange Rows.coolTablesSpec).preRow enc Tryz.prog Tryz.f3 Rows.coolTablesRow.domain false Rows.coolTablesRow.laid) (((OpenSpec.ofChange Rows.coolTablesSpec).at F).post enc Tryz.prog Tryz.f3 false true false false) := by
  obtain ⟨places, hx⟩ := reads os enc
  refine returnsInHanded_of_row (C := Tryz.checked) (s := OpenSpec.ofChange Rows.coolTablesSpec) own started (by kernel_rfl) Tryz.func3
    (witness_row_at (enc := enc) (C := Tryz.checked) false (laidWorld os) wArgs rfl (by kernel_rfl) (by kernel_rfl) (by kernel_rfl)
      (OpenSpec.preRow_of_cond 8 hx (by kernel_rfl) (fun k hk => by cases hk) (by kernel_rfl) (laid_met os))) ?_
  intro W base args ds gs before hval hW _ _ _ _ _ _
  exact law_shapes (tb := 4) (s := Rows.coolTablesSpec) shapes all laidP mapsP slicesP (tsP (by kernel_rfl)) rfl Tryz.underlying4 rfl (fun ds h => by
    match ds, h with
    | [_, _], _ => exact ⟨rfl, rfl, rfl⟩) hval hW
theorem said : Rows.CoolTablesSaid :=
  OpenClaim.holds_of_cond 3 Tryz.f3 rfl rfl rfl rfl rfl rfl rfl ⟨rfl, rfl, rfl, rfl, rfl⟩ rfl rfl rfl rfl rfl (by kernel_rfl) Tryz.func3 (by kernel_rfl)
    (of_decide_eq_true (by kernel_rfl)) (by unfold Func.isWrapper; first | (rw [if_pos (by decide +kernel)]; kernel_rfl) | (rw [if_neg (by decide +kernel)]; exact ⟨rfl, rfl⟩))
    (fun os started H enc _ F => by rw [OpenClaim.pre_eq_preRow]; exact lifted os started H enc F)
theorem plain (f : FuncId) (fn : Func) (hf : Tryz.pinned.checked.prog.funcNamed "cobble/cobblelaw08.CoolTables" = some f) (hfn : Tryz.pinned.checked.prog.funcs[f]? = some fn) :
    false = Tryz.pinned.checked.prog.looks [] ∧ ∀ (j : Nat) t, fn.params[j]? = some t → Tryz.pinned.checked.prog.wantsStandIn t = false := by
  obtain rfl : f = 3 := Option.some.inj ((show Tryz.prog.funcNamed "cobble/cobblelaw08.CoolTables" = some 3 by kernel_rfl).symm.trans hf) |>.symm
  obtain rfl : fn = Tryz.f3 := (Option.some.inj (Tryz.func3.symm.trans hfn)).symm
  exact ⟨by kernel_rfl, noStand (by kernel_rfl)⟩
theorem card : Rows.CoolTablesCardSaid :=
  Claim7.holds_tied_plain_at .later [] _ _ _ _ said (fun _ h => by cases h) (by kernel_rfl) (fun _ h => by cases h) coolTables_row_tie rfl ⟨rfl, rfl⟩ (by kernel_rfl) rfl plain (by kernel_rfl)
#print axioms card
end CoolTables
end Go.Proofs.YtjimnhgpldmpnaaGreatDoor.K

/- What is left to show of each function, written out; the kernel reckons it. -/
namespace Go.Proofs.G5c
open Go Go.Abs Go.Proofs
set_option maxRecDepth 100000
set_option linter.unusedVariables false
def gMo (C : Ct) (L : AtLoop) (x0 : Int) (x1 : Int) (k : List D → Prop) : Prop := wpFn Tryz.prog (hC C) L 0 35 #[.int .i64 x0, .int .i64 x1] (heapOf []) (dataK k)
theorem gMo_text (C : Ct) (L : AtLoop) (x0 : Int) (x1 : Int) (k : List D → Prop) : gMo C L x0 x1 k =
 (bcase (x1 != 0)
 (bcase (decide (Int.tmod x0 x1 < 0))
 (k [(D.val (vI (IntKind.wrap .i64 (Int.tmod x0 x1 + x1))))])
 (k [(D.val (vI (Int.tmod x0 x1)))]))
 False) := by kernel_rfl
end Go.Proofs.G5c

/- What is left to show of each function, written out; the kernel reckons it. -/
namespace Go.Proofs.G5c
open Go Go.Abs Go.Proofs
set_option maxRecDepth 100000
set_option linter.unusedVariables false
def gLE (C : Ct) (L : AtLoop) (x0 : Int) (x1 : Int) (n2 : Nat) (c2 : Nat) (l2 : List Value) (x3 : Int) (x4 : Int) (x5 : Int) (x6 : Int) (n7 : Nat) (c7 : Nat) (l7 : List Value) (k : List D → Prop) : Prop := wpFn Tryz.prog (hC C) L 0 5 #[.agg #[.int .i64 x0, .int .i64 x1, .slice (some ⟨500, 0, none⟩) n2 c2], .agg #[.int .i64 x3, .int .i64 x4, .int .i64 x5, .int .i64 x6], .slice (some ⟨501, 0, none⟩) n7 c7] (heapOf [(500, .sym l2 false 3), (501, .sym l7 false 1)]) (dataK k)
theorem gLE_text (C : Ct) (L : AtLoop) (x0 : Int) (x1 : Int) (n2 : Nat) (c2 : Nat) (l2 : List Go.Value) (x3 : Int) (x4 : Int) (x5 : Int) (x6 : Int) (n7 : Nat) (c7 : Nat) (l7 : List Go.Value) (k : List D → Prop) : gLE C L x0 x1 n2 c2 l2 x3 x4 x5 x6 n7 c7 l7 k =
 (((Says C 8 [] [(D.val (Value.bool true))]) ∧
 (bcase (decide ((↑n2 : Int) ≤ 6))
 (bcase (decide (0 + n2 * 3 ≤ List.length l2))
 (∃ n1 : Int,
 ((Says C 34 [(D.agg [(D.val (vI x0)), (D.val (vI x1)), (D.sl (n2) 3 (List.take (n2 * 3) (List.drop 0 l2)))])] [(D.val (vI n1))]) ∧
 (bcase (n1 != 0)
 (k [(D.val (Value.bool true))])
 (bcase (decide (0 + n2 * 3 ≤ List.length l2))
 (∃ n3 : Int,
 ((Says C 17 [(D.agg [(D.val (vI x0)), (D.val (vI x1)), (D.sl (n2) 3 (List.take (n2 * 3) (List.drop 0 l2)))]), (D.val (vI x3))] [(D.val (vI n3))]) ∧
 (bcase (n3 != 0)
 (k [(D.val (Value.bool true))])
 (∃ n4 : Int,
 ((Says C 18 [(D.agg [(D.val (vI x4)), (D.val (vI x5))])] [(D.val (vI n4))]) ∧
 (bcase (n4 != 0)
 (k [(D.val (Value.bool true))])
 (bcase (decide ((↑n7 : Int) ≤ (↑n2 : Int)))
 (k [(D.val (Value.bool true))])
 (bcase (decide ((↑n7 : Int) > 20))
 (k [(D.val (Value.bool true))])
 (bcase (decide (0 < (↑n7 : Int)))
 (∃ n5 : Int,
 ((At (l7) 0 1 [(vI n5)]) ∧
 ((((vI (IntKind.wrap .i64 (IntKind.wrap .i64 (x5 - x4) + 1))) = (vI (IntKind.wrap .i64 (IntKind.wrap .i64 (x5 - x4) + 1)))) ∧
 (((vI (IntKind.wrap .i64 (x5 - x4))) = (vI (IntKind.wrap .i64 (x5 - x4)))) ∧
 (((vI x4) = (vI x4)) ∧
 (((Go.Value.pointer (Option.some (Go.Addr.mk 1001 1 Option.none))) = (Go.Value.pointer (Option.some (Go.Addr.mk 1001 1 Option.none)))) ∧
 (((Go.Value.pointer (Option.some (Go.Addr.mk 1001 1 Option.none))) = (Go.Value.pointer (Option.some (Go.Addr.mk 1001 1 Option.none)))) ∧
 (((vI x5) = (vI x5)) ∧
 (((Go.Value.pointer (Option.some (Go.Addr.mk 1001 2 Option.none))) = (Go.Value.pointer (Option.some (Go.Addr.mk 1001 2 Option.none)))) ∧
 (((Go.Value.pointer (Option.some (Go.Addr.mk 1001 1 Option.none))) = (Go.Value.pointer (Option.some (Go.Addr.mk 1001 1 Option.none)))) ∧
 ((∃ n6 : Int,
 ((At (l7) 0 1 [(vI n6)]) ∧
 ((vI n6) = (vI n5)))) ∧
 ((bcase (decide (0 < (↑n7 : Int)))
 ((Go.Value.pointer (Option.some (Go.Addr.mk 501 0 Option.none))) = (Go.Value.pointer (Option.some (Go.Addr.mk 501 0 Option.none))))
 False) ∧
 (((Go.Value.slice (Option.some (Go.Addr.mk 501 0 Option.none)) (n7) (c7)) = (Go.Value.slice (Option.some (Go.Addr.mk 501 0 Option.none)) (n7) (c7))) ∧
 (((vI x4) = (vI x4)) ∧
 (((Go.Value.pointer (Option.some (Go.Addr.mk 1001 1 Option.none))) = (Go.Value.pointer (Option.some (Go.Addr.mk 1001 1 Option.none)))) ∧
 (((Go.Value.pointer (Option.some (Go.Addr.mk 1001 1 Option.none))) = (Go.Value.pointer (Option.some (Go.Addr.mk 1001 1 Option.none)))) ∧
 True)))))))))))))) ∧
 (∃ n6 : Int,
 ((Says C 35 [(D.val (vI n5)), (D.val (vI (IntKind.wrap .i64 (IntKind.wrap .i64 (x5 - x4) + 1))))] [(D.val (vI n6))]) ∧
 ((((vI (IntKind.wrap .i64 (x4 + n6))) = (vI (IntKind.wrap .i64 (x4 + n6)))) ∧
 (((vI (IntKind.wrap .i64 (x5 - x4))) = (vI (IntKind.wrap .i64 (x5 - x4)))) ∧
 (((vI x4) = (vI x4)) ∧
 (((Go.Value.pointer (Option.some (Go.Addr.mk 1001 1 Option.none))) = (Go.Value.pointer (Option.some (Go.Addr.mk 1001 1 Option.none)))) ∧
 (((Go.Value.pointer (Option.some (Go.Addr.mk 1001 1 Option.none))) = (Go.Value.pointer (Option.some (Go.Addr.mk 1001 1 Option.none)))) ∧
 (((vI x5) = (vI x5)) ∧
 (((Go.Value.pointer (Option.some (Go.Addr.mk 1001 2 Option.none))) = (Go.Value.pointer (Option.some (Go.Addr.mk 1001 2 Option.none)))) ∧
 (((Go.Value.pointer (Option.some (Go.Addr.mk 1001 1 Option.none))) = (Go.Value.pointer (Option.some (Go.Addr.mk 1001 1 Option.none)))) ∧
 ((bcase (decide (0 < (↑n7 : Int)))
 ((Go.Value.pointer (Option.some (Go.Addr.mk 501 0 Option.none))) = (Go.Value.pointer (Option.some (Go.Addr.mk 501 0 Option.none))))
 False) ∧
 (((Go.Value.slice (Option.some (Go.Addr.mk 501 0 Option.none)) (n7) (c7)) = (Go.Value.slice (Option.some (Go.Addr.mk 501 0 Option.none)) (n7) (c7))) ∧
 (((vI x4) = (vI x4)) ∧
 (((Go.Value.pointer (Option.some (Go.Addr.mk 1001 1 Option.none))) = (Go.Value.pointer (Option.some (Go.Addr.mk 1001 1 Option.none)))) ∧
 (((Go.Value.pointer (Option.some (Go.Addr.mk 1001 1 Option.none))) = (Go.Value.pointer (Option.some (Go.Addr.mk 1001 1 Option.none)))) ∧
 True))))))))))))) ∧
 (True ∧
 (bcase (decide (0 + n2 * 3 ≤ List.length l2))
 ((Says C 11 [(D.agg [(D.val (vI x0)), (D.val (vI x1)), (D.sl (n2) 3 (List.take (n2 * 3) (List.drop 0 l2)))])] [(D.agg [(D.val (vI x0)), (D.val (vI x1)), (D.sl (n2) 3 (List.take (n2 * 3) (List.drop 0 l2)))])]) ∧
 (L 0 [(Prod.mk 2 (Go.Value.slice (Option.some (Go.Addr.mk 501 0 Option.none)) (n7) (c7))), (Prod.mk 3 (Go.Value.pointer (Option.some (Go.Addr.mk 1000 0 Option.none)))), (Prod.mk 4 (Go.Value.pointer (Option.some (Go.Addr.mk 1001 0 Option.none)))), (Prod.mk 7 (vI (IntKind.wrap .i64 (x4 + n6)))), (Prod.mk 8 (Go.Value.slice Option.none 0 0)), (Prod.mk 9 (Go.Value.pointer (Option.some (Go.Addr.mk 1002 0 Option.none)))), (Prod.mk 10 (vI (0 : Int)))] [(Prod.mk 501 (AObj.sym (l7) false 1)), (Prod.mk 1000 (AObj.cells [(vI x0), (vI x1), (Go.Value.slice (Option.some (Go.Addr.mk 500 0 Option.none)) (n2) (c2))] 24 false 1)), (Prod.mk 1001 (AObj.cells [(vI x3), (vI x4), (vI x5), (vI x6)] 28 false 1)), (Prod.mk 1002 (AObj.cells [(vI x0), (vI x1), (Go.Value.slice (Option.some (Go.Addr.mk 1003 0 Option.none)) (n2) (n2))] 24 false 3)), (Prod.mk 500 (AObj.sym (l2) false 3)), (Prod.mk 1003 (AObj.sym (List.take (n2 * 3) (List.drop 0 l2)) true 3))]))
 False))))))))
 False)))))))))
 False))))
 False)
 (k [(D.val (Value.bool true))]))) ∨
 ((Says C 8 [] [(D.val (Value.bool false))]) ∧
 (k [(D.val (Value.bool false))]))) := by kernel_rfl
abbrev zLE1 (n0 : Nat) (c1 : Nat) (x2 : Int) (x3 : Int) (l4 : List Value) (x5 : Int) (x6 : Int) (n7 : Nat) (c8 : Nat) (x9 : Int) (x10 : Int) (x11 : Int) (x12 : Int) (x13 : Int) (x14 : Int) (n15 : Nat) (l16 : List Value) (l17 : List Value) : Slots × Blocks := ([(2, (Value.slice (some ⟨501, 0, none⟩) n0 c1)), (3, (Value.pointer (some ⟨1000, 0, none⟩))), (4, (Value.pointer (some ⟨1001, 0, none⟩))), (7, (Value.int .i64 x2)), (8, (Value.slice none 0 0)), (9, (Value.pointer (some ⟨1002, 0, none⟩))), (10, (Value.int .i64 x3))], [(501, (AObj.sym l4 false 1)), (1000, (AObj.cells [(Value.int .i64 x5), (Value.int .i64 x6), (Value.slice (some ⟨500, 0, none⟩) n7 c8)] 24 false 1)), (1001, (AObj.cells [(Value.int .i64 x9), (Value.int .i64 x10), (Value.int .i64 x11), (Value.int .i64 x12)] 28 false 1)), (1002, (AObj.cells [(Value.int .i64 x13), (Value.int .i64 x14), (Value.slice (some ⟨1003, 0, none⟩) n15 n15)] 24 false 3)), (500, (AObj.sym l16 false 3)), (1003, (AObj.sym l17 true 3))])
def rLE1 (C : Ct) (L : AtLoop) (n0 : Nat) (c1 : Nat) (x2 : Int) (x3 : Int) (l4 : List Value) (x5 : Int) (x6 : Int) (n7 : Nat) (c8 : Nat) (x9 : Int) (x10 : Int) (x11 : Int) (x12 : Int) (x13 : Int) (x14 : Int) (n15 : Nat) (l16 : List Value) (l17 : List Value) (B : Bx) (X : Xx) (k : List D → Prop) : Prop := wpRound Tryz.prog (hC C) L 5 0 [(2, (Value.slice (some ⟨501, 0, none⟩) n0 c1)), (3, (Value.pointer (some ⟨1000, 0, none⟩))), (4, (Value.pointer (some ⟨1001, 0, none⟩))), (7, (Value.int .i64 x2)), (8, (Value.slice none 0 0)), (9, (Value.pointer (some ⟨1002, 0, none⟩))), (10, (Value.int .i64 x3))] [(501, (AObj.sym l4 false 1)), (1000, (AObj.cells [(Value.int .i64 x5), (Value.int .i64 x6), (Value.slice (some ⟨500, 0, none⟩) n7 c8)] 24 false 1)), (1001, (AObj.cells [(Value.int .i64 x9), (Value.int .i64 x10), (Value.int .i64 x11), (Value.int .i64 x12)] 28 false 1)), (1002, (AObj.cells [(Value.int .i64 x13), (Value.int .i64 x14), (Value.slice (some ⟨1003, 0, none⟩) n15 n15)] 24 false 3)), (500, (AObj.sym l16 false 3)), (1003, (AObj.sym l17 true 3))] B X (dataK k)
theorem rLE1_text (C : Ct) (L : AtLoop) (n0 : Nat) (c1 : Nat) (x2 : Int) (x3 : Int) (l4 : List Go.Value) (x5 : Int) (x6 : Int) (n7 : Nat) (c8 : Nat) (x9 : Int) (x10 : Int) (x11 : Int) (x12 : Int) (x13 : Int) (x14 : Int) (n15 : Nat) (l16 : List Go.Value) (l17 : List Go.Value) (B : Bx) (X : Xx) (k : List D → Prop) : rLE1 C L n0 c1 x2 x3 l4 x5 x6 n7 c8 x9 x10 x11 x12 x13 x14 n15 l16 l17 B X k =
 (bcase (decide (x3 < (↑n7 : Int)))
 (bcase (decide (0 ≤ x3))
 (bcase (decide (x3 < (↑n7 : Int)))
 (∃ n1 : Int,
 (∃ n2 : Int,
 ((At (l16) (0 + Int.toNat x3 * 3) 2 [(vI n1), (vI n2)]) ∧
 (bcase (decide (0 ≤ IntKind.wrap .i64 (x3 + 1)))
 (bcase (decide (IntKind.wrap .i64 (x3 + 1) < (↑n0 : Int)))
 (∃ n3 : Int,
 ((At (l4) (0 + Int.toNat (IntKind.wrap .i64 (x3 + 1)) * 1) 1 [(vI n3)]) ∧
 ((((vI (IntKind.wrap .i64 (IntKind.wrap .i64 (n2 - n1) + 1))) = (vI (IntKind.wrap .i64 (IntKind.wrap .i64 (n2 - n1) + 1)))) ∧
 (((vI (IntKind.wrap .i64 (n2 - n1))) = (vI (IntKind.wrap .i64 (n2 - n1)))) ∧
 (((vI n1) = (vI n1)) ∧
 (((Go.Value.pointer (Option.some (Go.Addr.mk 1004 0 Option.none))) = (Go.Value.pointer (Option.some (Go.Addr.mk 1004 0 Option.none)))) ∧
 (((vI n2) = (vI n2)) ∧
 (((Go.Value.pointer (Option.some (Go.Addr.mk 1004 1 Option.none))) = (Go.Value.pointer (Option.some (Go.Addr.mk 1004 1 Option.none)))) ∧
 ((∃ n4 : Int,
 ((At (l4) (0 + Int.toNat (IntKind.wrap .i64 (x3 + 1)) * 1) 1 [(vI n4)]) ∧
 ((vI n4) = (vI n3)))) ∧
 ((bcase (decide (0 ≤ IntKind.wrap .i64 (x3 + 1)))
 (bcase (decide (IntKind.wrap .i64 (x3 + 1) < (↑n0 : Int)))
 ((Go.Value.pointer (Option.some (Go.Addr.mk 501 (0 + Int.toNat (IntKind.wrap .i64 (x3 + 1)) * 1) Option.none))) = (Go.Value.pointer (Option.some (Go.Addr.mk 501 (0 + Int.toNat (IntKind.wrap .i64 (x3 + 1)) * 1) Option.none))))
 False)
 False) ∧
 (((vI (IntKind.wrap .i64 (x3 + 1))) = (vI (IntKind.wrap .i64 (x3 + 1)))) ∧
 (((vI x3) = (vI x3)) ∧
 (((Go.Value.slice (Option.some (Go.Addr.mk 501 0 Option.none)) (n0) (c1)) = (Go.Value.slice (Option.some (Go.Addr.mk 501 0 Option.none)) (n0) (c1))) ∧
 (((vI n1) = (vI n1)) ∧
 (((Go.Value.pointer (Option.some (Go.Addr.mk 1004 0 Option.none))) = (Go.Value.pointer (Option.some (Go.Addr.mk 1004 0 Option.none)))) ∧
 (((Go.Value.slice Option.none 0 0) = (Go.Value.slice Option.none 0 0)) ∧
 True)))))))))))))) ∧
 (∃ n4 : Int,
 ((Says C 35 [(D.val (vI n3)), (D.val (vI (IntKind.wrap .i64 (IntKind.wrap .i64 (n2 - n1) + 1))))] [(D.val (vI n4))]) ∧
 (((((Go.Value.slice (Option.some (Go.Addr.mk 1005 0 Option.none)) 1 1) = (Go.Value.slice (Option.some (Go.Addr.mk 1005 0 Option.none)) 1 1)) ∧
 ((Option.some (AObj.cells [(vI (IntKind.wrap .i64 (n1 + n4)))] 3 false 1)) = (Option.some (AObj.cells [(vI (IntKind.wrap .i64 (n1 + n4)))] 3 false 1)))) ∧
 (((vI (IntKind.wrap .i64 (n1 + n4))) = (vI (IntKind.wrap .i64 (n1 + n4)))) ∧
 (((vI (IntKind.wrap .i64 (n2 - n1))) = (vI (IntKind.wrap .i64 (n2 - n1)))) ∧
 (((vI n1) = (vI n1)) ∧
 (((Go.Value.pointer (Option.some (Go.Addr.mk 1004 0 Option.none))) = (Go.Value.pointer (Option.some (Go.Addr.mk 1004 0 Option.none)))) ∧
 (((vI n2) = (vI n2)) ∧
 (((Go.Value.pointer (Option.some (Go.Addr.mk 1004 1 Option.none))) = (Go.Value.pointer (Option.some (Go.Addr.mk 1004 1 Option.none)))) ∧
 ((bcase (decide (0 ≤ IntKind.wrap .i64 (x3 + 1)))
 (bcase (decide (IntKind.wrap .i64 (x3 + 1) < (↑n0 : Int)))
 ((Go.Value.pointer (Option.some (Go.Addr.mk 501 (0 + Int.toNat (IntKind.wrap .i64 (x3 + 1)) * 1) Option.none))) = (Go.Value.pointer (Option.some (Go.Addr.mk 501 (0 + Int.toNat (IntKind.wrap .i64 (x3 + 1)) * 1) Option.none))))
 False)
 False) ∧
 (((vI (IntKind.wrap .i64 (x3 + 1))) = (vI (IntKind.wrap .i64 (x3 + 1)))) ∧
 (((vI x3) = (vI x3)) ∧
 (((Go.Value.slice (Option.some (Go.Addr.mk 501 0 Option.none)) (n0) (c1)) = (Go.Value.slice (Option.some (Go.Addr.mk 501 0 Option.none)) (n0) (c1))) ∧
 (((vI n1) = (vI n1)) ∧
 (((Go.Value.pointer (Option.some (Go.Addr.mk 1004 0 Option.none))) = (Go.Value.pointer (Option.some (Go.Addr.mk 1004 0 Option.none)))) ∧
 (((Go.Value.slice Option.none 0 0) = (Go.Value.slice Option.none 0 0)) ∧
 True)))))))))))))) ∧
 ((((vI (IntKind.wrap .i64 (n1 + n4))) = (vI (IntKind.wrap .i64 (n1 + n4)))) ∧
 (((vI (IntKind.wrap .i64 (n2 - n1))) = (vI (IntKind.wrap .i64 (n2 - n1)))) ∧
 (((vI n1) = (vI n1)) ∧
 (((Go.Value.pointer (Option.some (Go.Addr.mk 1004 0 Option.none))) = (Go.Value.pointer (Option.some (Go.Addr.mk 1004 0 Option.none)))) ∧
 (((vI n2) = (vI n2)) ∧
 (((Go.Value.pointer (Option.some (Go.Addr.mk 1004 1 Option.none))) = (Go.Value.pointer (Option.some (Go.Addr.mk 1004 1 Option.none)))) ∧
 ((bcase (decide (0 ≤ IntKind.wrap .i64 (x3 + 1)))
 (bcase (decide (IntKind.wrap .i64 (x3 + 1) < (↑n0 : Int)))
 ((Go.Value.pointer (Option.some (Go.Addr.mk 501 (0 + Int.toNat (IntKind.wrap .i64 (x3 + 1)) * 1) Option.none))) = (Go.Value.pointer (Option.some (Go.Addr.mk 501 (0 + Int.toNat (IntKind.wrap .i64 (x3 + 1)) * 1) Option.none))))
 False)
 False) ∧
 (((vI (IntKind.wrap .i64 (x3 + 1))) = (vI (IntKind.wrap .i64 (x3 + 1)))) ∧
 (((vI x3) = (vI x3)) ∧
 (((Go.Value.slice (Option.some (Go.Addr.mk 501 0 Option.none)) (n0) (c1)) = (Go.Value.slice (Option.some (Go.Addr.mk 501 0 Option.none)) (n0) (c1))) ∧
 (((vI n1) = (vI n1)) ∧
 (((Go.Value.pointer (Option.some (Go.Addr.mk 1004 0 Option.none))) = (Go.Value.pointer (Option.some (Go.Addr.mk 1004 0 Option.none)))) ∧
 True)))))))))))) ∧
 (True ∧
 (bcase (decide (0 ≤ x3))
 (bcase (decide (x3 < (↑1 : Int)))
 (∃ n5 : Int,
 ((At [(vI (IntKind.wrap .i64 (n1 + n4)))] (0 + Int.toNat x3 * 1) 1 [(vI n5)]) ∧
 (bcase (decide (0 ≤ x3))
 (bcase (decide (x3 < (↑1 : Int)))
 (∃ n6 : Int,
 ((At [(vI (IntKind.wrap .i64 (n1 + n4)))] (0 + Int.toNat x3 * 1) 1 [(vI n6)]) ∧
 (bcase (decide (0 ≤ x3))
 (bcase (decide (x3 < (↑n15 : Int)))
 ((((Go.Value.pointer (Option.some (Go.Addr.mk 1003 (0 + Int.toNat x3 * 3) Option.none))) = (Go.Value.pointer (Option.some (Go.Addr.mk 1003 (0 + Int.toNat x3 * 3) Option.none)))) ∧
 ((bcase (decide (0 ≤ x3))
 (bcase (decide (x3 < (↑n15 : Int)))
 ((Go.Value.pointer (Option.some (Go.Addr.mk 1003 (0 + Int.toNat x3 * 3) Option.none))) = (Go.Value.pointer (Option.some (Go.Addr.mk 1003 (0 + Int.toNat x3 * 3) Option.none))))
 False)
 False) ∧
 (((Go.Value.agg [(vI n5), (vI n6)].toArray) = (Go.Value.agg [(vI n5), (vI n6)].toArray)) ∧
 ((∃ n8 : Int,
 ((At [(vI (IntKind.wrap .i64 (n1 + n4)))] (0 + Int.toNat x3 * 1) 1 [(vI n8)]) ∧
 ((vI n8) = (vI n6)))) ∧
 ((bcase (decide (0 ≤ x3))
 (bcase (decide (x3 < (↑1 : Int)))
 ((Go.Value.pointer (Option.some (Go.Addr.mk 1006 (0 + Int.toNat x3 * 1) Option.none))) = (Go.Value.pointer (Option.some (Go.Addr.mk 1006 (0 + Int.toNat x3 * 1) Option.none))))
 False)
 False) ∧
 (((vI x3) = (vI x3)) ∧
 (((Go.Value.slice (Option.some (Go.Addr.mk 1006 0 Option.none)) 1 1) = (Go.Value.slice (Option.some (Go.Addr.mk 1006 0 Option.none)) 1 1)) ∧
 ((∃ n8 : Int,
 ((At [(vI (IntKind.wrap .i64 (n1 + n4)))] (0 + Int.toNat x3 * 1) 1 [(vI n8)]) ∧
 ((vI n8) = (vI n5)))) ∧
 ((bcase (decide (0 ≤ x3))
 (bcase (decide (x3 < (↑1 : Int)))
 ((Go.Value.pointer (Option.some (Go.Addr.mk 1006 (0 + Int.toNat x3 * 1) Option.none))) = (Go.Value.pointer (Option.some (Go.Addr.mk 1006 (0 + Int.toNat x3 * 1) Option.none))))
 False)
 False) ∧
 (((vI x3) = (vI x3)) ∧
 (((Go.Value.slice (Option.some (Go.Addr.mk 1006 0 Option.none)) 1 1) = (Go.Value.slice (Option.some (Go.Addr.mk 1006 0 Option.none)) 1 1)) ∧
 (((vI x3) = (vI x3)) ∧
 (((Go.Value.slice (Option.some (Go.Addr.mk 1003 0 Option.none)) (n15) (n15)) = (Go.Value.slice (Option.some (Go.Addr.mk 1003 0 Option.none)) (n15) (n15))) ∧
 (((Go.Value.pointer (Option.some (Go.Addr.mk 1002 2 Option.none))) = (Go.Value.pointer (Option.some (Go.Addr.mk 1002 2 Option.none)))) ∧
 True)))))))))))))) ∧
 (bcase (decide (0 + Int.toNat x3 * 3 + 2 ≤ List.length l17))
 (((bcase (decide (0 ≤ x3))
 (bcase (decide (x3 < (↑n15 : Int)))
 ((Go.Value.pointer (Option.some (Go.Addr.mk 1003 (0 + Int.toNat x3 * 3) Option.none))) = (Go.Value.pointer (Option.some (Go.Addr.mk 1003 (0 + Int.toNat x3 * 3) Option.none))))
 False)
 False) ∧
 True) ∧
 (B [(Prod.mk 2 (Go.Value.slice (Option.some (Go.Addr.mk 501 0 Option.none)) (n0) (c1))), (Prod.mk 3 (Go.Value.pointer (Option.some (Go.Addr.mk 1000 0 Option.none)))), (Prod.mk 4 (Go.Value.pointer (Option.some (Go.Addr.mk 1001 0 Option.none)))), (Prod.mk 7 (vI x2)), (Prod.mk 8 (Go.Value.slice (Option.some (Go.Addr.mk 1002 0 Option.none)) 1 1)), (Prod.mk 9 (Go.Value.pointer (Option.some (Go.Addr.mk 1003 0 Option.none)))), (Prod.mk 10 (vI (IntKind.wrap .i64 (x3 + 1))))] [(Prod.mk 501 (AObj.sym (l4) false 1)), (Prod.mk 1000 (AObj.cells [(vI x5), (vI x6), (Go.Value.slice (Option.some (Go.Addr.mk 500 0 Option.none)) (n7) (c8))] 24 false 1)), (Prod.mk 1001 (AObj.cells [(vI x9), (vI x10), (vI x11), (vI x12)] 28 false 1)), (Prod.mk 1002 (AObj.sym [(vI (IntKind.wrap .i64 (n1 + n4)))] true 1)), (Prod.mk 1003 (AObj.cells [(vI x13), (vI x14), (Go.Value.slice (Option.some (Go.Addr.mk 1004 0 Option.none)) (n15) (n15))] 24 false 3)), (Prod.mk 500 (AObj.sym (l16) false 3)), (Prod.mk 1004 (AObj.sym (listSet (l17) (0 + Int.toNat x3 * 3) [(vI n5), (vI n6)]) true 3))]))
 False))
 False)
 False)))
 False)
 False)))
 False)
 False)))))))))
 False)
 False))))
 False)
 False)
 (X 0 [(Prod.mk 2 (Go.Value.slice (Option.some (Go.Addr.mk 501 0 Option.none)) (n0) (c1))), (Prod.mk 3 (Go.Value.pointer (Option.some (Go.Addr.mk 1000 0 Option.none)))), (Prod.mk 4 (Go.Value.pointer (Option.some (Go.Addr.mk 1001 0 Option.none)))), (Prod.mk 7 (vI x2)), (Prod.mk 8 (Go.Value.slice Option.none 0 0)), (Prod.mk 9 (Go.Value.pointer (Option.some (Go.Addr.mk 1002 0 Option.none))))] [(Prod.mk 501 (AObj.sym (l4) false 1)), (Prod.mk 1000 (AObj.cells [(vI x5), (vI x6), (Go.Value.slice (Option.some (Go.Addr.mk 500 0 Option.none)) (n7) (c8))] 24 false 1)), (Prod.mk 1001 (AObj.cells [(vI x9), (vI x10), (vI x11), (vI x12)] 28 false 1)), (Prod.mk 1002 (AObj.cells [(vI x13), (vI x14), (Go.Value.slice (Option.some (Go.Addr.mk 1003 0 Option.none)) (n15) (n15))] 24 false 3)), (Prod.mk 500 (AObj.sym (l16) false 3)), (Prod.mk 1003 (AObj.sym (l17) true 3))])) := by kernel_rfl
abbrev zLE2 (n0 : Nat) (c1 : Nat) (x2 : Int) (n3 : Nat) (x4 : Int) (l5 : List Value) (x6 : Int) (x7 : Int) (n8 : Nat) (c9 : Nat) (x10 : Int) (x11 : Int) (x12 : Int) (x13 : Int) (l14 : List Value) (x15 : Int) (x16 : Int) (n17 : Nat) (l18 : List Value) (l19 : List Value) : Slots × Blocks := ([(2, (Value.slice (some ⟨501, 0, none⟩) n0 c1)), (3, (Value.pointer (some ⟨1000, 0, none⟩))), (4, (Value.pointer (some ⟨1001, 0, none⟩))), (7, (Value.int .i64 x2)), (8, (Value.slice (some ⟨1002, 0, none⟩) n3 n3)), (9, (Value.pointer (some ⟨1003, 0, none⟩))), (10, (Value.int .i64 x4))], [(501, (AObj.sym l5 false 1)), (1000, (AObj.cells [(Value.int .i64 x6), (Value.int .i64 x7), (Value.slice (some ⟨500, 0, none⟩) n8 c9)] 24 false 1)), (1001, (AObj.cells [(Value.int .i64 x10), (Value.int .i64 x11), (Value.int .i64 x12), (Value.int .i64 x13)] 28 false 1)), (1002, (AObj.sym l14 true 1)), (1003, (AObj.cells [(Value.int .i64 x15), (Value.int .i64 x16), (Value.slice (some ⟨1004, 0, none⟩) n17 n17)] 24 false 3)), (500, (AObj.sym l18 false 3)), (1004, (AObj.sym l19 true 3))])
def rLE2 (C : Ct) (L : AtLoop) (n0 : Nat) (c1 : Nat) (x2 : Int) (n3 : Nat) (x4 : Int) (l5 : List Value) (x6 : Int) (x7 : Int) (n8 : Nat) (c9 : Nat) (x10 : Int) (x11 : Int) (x12 : Int) (x13 : Int) (l14 : List Value) (x15 : Int) (x16 : Int) (n17 : Nat) (l18 : List Value) (l19 : List Value) (B : Bx) (X : Xx) (k : List D → Prop) : Prop := wpRound Tryz.prog (hC C) L 5 0 [(2, (Value.slice (some ⟨501, 0, none⟩) n0 c1)), (3, (Value.pointer (some ⟨1000, 0, none⟩))), (4, (Value.pointer (some ⟨1001, 0, none⟩))), (7, (Value.int .i64 x2)), (8, (Value.slice (some ⟨1002, 0, none⟩) n3 n3)), (9, (Value.pointer (some ⟨1003, 0, none⟩))), (10, (Value.int .i64 x4))] [(501, (AObj.sym l5 false 1)), (1000, (AObj.cells [(Value.int .i64 x6), (Value.int .i64 x7), (Value.slice (some ⟨500, 0, none⟩) n8 c9)] 24 false 1)), (1001, (AObj.cells [(Value.int .i64 x10), (Value.int .i64 x11), (Value.int .i64 x12), (Value.int .i64 x13)] 28 false 1)), (1002, (AObj.sym l14 true 1)), (1003, (AObj.cells [(Value.int .i64 x15), (Value.int .i64 x16), (Value.slice (some ⟨1004, 0, none⟩) n17 n17)] 24 false 3)), (500, (AObj.sym l18 false 3)), (1004, (AObj.sym l19 true 3))] B X (dataK k)
theorem rLE2_text (C : Ct) (L : AtLoop) (n0 : Nat) (c1 : Nat) (x2 : Int) (n3 : Nat) (x4 : Int) (l5 : List Go.Value) (x6 : Int) (x7 : Int) (n8 : Nat) (c9 : Nat) (x10 : Int) (x11 : Int) (x12 : Int) (x13 : Int) (l14 : List Go.Value) (x15 : Int) (x16 : Int) (n17 : Nat) (l18 : List Go.Value) (l19 : List Go.Value) (B : Bx) (X : Xx) (k : List D → Prop) : rLE2 C L n0 c1 x2 n3 x4 l5 x6 x7 n8 c9 x10 x11 x12 x13 l14 x15 x16 n17 l18 l19 B X k =
 (bcase (decide (x4 < (↑n8 : Int)))
 (bcase (decide (0 ≤ x4))
 (bcase (decide (x4 < (↑n8 : Int)))
 (∃ n1 : Int,
 (∃ n2 : Int,
 ((At (l18) (0 + Int.toNat x4 * 3) 2 [(vI n1), (vI n2)]) ∧
 (bcase (decide (0 ≤ IntKind.wrap .i64 (x4 + 1)))
 (bcase (decide (IntKind.wrap .i64 (x4 + 1) < (↑n0 : Int)))
 (∃ n4 : Int,
 ((At (l5) (0 + Int.toNat (IntKind.wrap .i64 (x4 + 1)) * 1) 1 [(vI n4)]) ∧
 ((((vI (IntKind.wrap .i64 (IntKind.wrap .i64 (n2 - n1) + 1))) = (vI (IntKind.wrap .i64 (IntKind.wrap .i64 (n2 - n1) + 1)))) ∧
 (((vI (IntKind.wrap .i64 (n2 - n1))) = (vI (IntKind.wrap .i64 (n2 - n1)))) ∧
 (((vI n1) = (vI n1)) ∧
 (((Go.Value.pointer (Option.some (Go.Addr.mk 1005 0 Option.none))) = (Go.Value.pointer (Option.some (Go.Addr.mk 1005 0 Option.none)))) ∧
 (((vI n2) = (vI n2)) ∧
 (((Go.Value.pointer (Option.some (Go.Addr.mk 1005 1 Option.none))) = (Go.Value.pointer (Option.some (Go.Addr.mk 1005 1 Option.none)))) ∧
 ((∃ n5 : Int,
 ((At (l5) (0 + Int.toNat (IntKind.wrap .i64 (x4 + 1)) * 1) 1 [(vI n5)]) ∧
 ((vI n5) = (vI n4)))) ∧
 ((bcase (decide (0 ≤ IntKind.wrap .i64 (x4 + 1)))
 (bcase (decide (IntKind.wrap .i64 (x4 + 1) < (↑n0 : Int)))
 ((Go.Value.pointer (Option.some (Go.Addr.mk 501 (0 + Int.toNat (IntKind.wrap .i64 (x4 + 1)) * 1) Option.none))) = (Go.Value.pointer (Option.some (Go.Addr.mk 501 (0 + Int.toNat (IntKind.wrap .i64 (x4 + 1)) * 1) Option.none))))
 False)
 False) ∧
 (((vI (IntKind.wrap .i64 (x4 + 1))) = (vI (IntKind.wrap .i64 (x4 + 1)))) ∧
 (((vI x4) = (vI x4)) ∧
 (((Go.Value.slice (Option.some (Go.Addr.mk 501 0 Option.none)) (n0) (c1)) = (Go.Value.slice (Option.some (Go.Addr.mk 501 0 Option.none)) (n0) (c1))) ∧
 (((vI n1) = (vI n1)) ∧
 (((Go.Value.pointer (Option.some (Go.Addr.mk 1005 0 Option.none))) = (Go.Value.pointer (Option.some (Go.Addr.mk 1005 0 Option.none)))) ∧
 (((Go.Value.slice (Option.some (Go.Addr.mk 1002 0 Option.none)) (n3) (n3)) = (Go.Value.slice (Option.some (Go.Addr.mk 1002 0 Option.none)) (n3) (n3))) ∧
 True)))))))))))))) ∧
 (∃ n5 : Int,
 ((Says C 35 [(D.val (vI n4)), (D.val (vI (IntKind.wrap .i64 (IntKind.wrap .i64 (n2 - n1) + 1))))] [(D.val (vI n5))]) ∧
 (((((Go.Value.slice (Option.some (Go.Addr.mk 1006 0 Option.none)) 1 1) = (Go.Value.slice (Option.some (Go.Addr.mk 1006 0 Option.none)) 1 1)) ∧
 ((Option.some (AObj.cells [(vI (IntKind.wrap .i64 (n1 + n5)))] 3 false 1)) = (Option.some (AObj.cells [(vI (IntKind.wrap .i64 (n1 + n5)))] 3 false 1)))) ∧
 (((vI (IntKind.wrap .i64 (n1 + n5))) = (vI (IntKind.wrap .i64 (n1 + n5)))) ∧
 (((vI (IntKind.wrap .i64 (n2 - n1))) = (vI (IntKind.wrap .i64 (n2 - n1)))) ∧
 (((vI n1) = (vI n1)) ∧
 (((Go.Value.pointer (Option.some (Go.Addr.mk 1005 0 Option.none))) = (Go.Value.pointer (Option.some (Go.Addr.mk 1005 0 Option.none)))) ∧
 (((vI n2) = (vI n2)) ∧
 (((Go.Value.pointer (Option.some (Go.Addr.mk 1005 1 Option.none))) = (Go.Value.pointer (Option.some (Go.Addr.mk 1005 1 Option.none)))) ∧
 ((bcase (decide (0 ≤ IntKind.wrap .i64 (x4 + 1)))
 (bcase (decide (IntKind.wrap .i64 (x4 + 1) < (↑n0 : Int)))
 ((Go.Value.pointer (Option.some (Go.Addr.mk 501 (0 + Int.toNat (IntKind.wrap .i64 (x4 + 1)) * 1) Option.none))) = (Go.Value.pointer (Option.some (Go.Addr.mk 501 (0 + Int.toNat (IntKind.wrap .i64 (x4 + 1)) * 1) Option.none))))
 False)
 False) ∧
 (((vI (IntKind.wrap .i64 (x4 + 1))) = (vI (IntKind.wrap .i64 (x4 + 1)))) ∧
 (((vI x4) = (vI x4)) ∧
 (((Go.Value.slice (Option.some (Go.Addr.mk 501 0 Option.none)) (n0) (c1)) = (Go.Value.slice (Option.some (Go.Addr.mk 501 0 Option.none)) (n0) (c1))) ∧
 (((vI n1) = (vI n1)) ∧
 (((Go.Value.pointer (Option.some (Go.Addr.mk 1005 0 Option.none))) = (Go.Value.pointer (Option.some (Go.Addr.mk 1005 0 Option.none)))) ∧
 (((Go.Value.slice (Option.some (Go.Addr.mk 1002 0 Option.none)) (n3) (n3)) = (Go.Value.slice (Option.some (Go.Addr.mk 1002 0 Option.none)) (n3) (n3))) ∧
 True)))))))))))))) ∧
 (bcase (decide (n3 < n3 + 1))
 (bcase (decide ((2 * (n3 + 1) + 768) * 8 ≤ 281474976710656))
 (bcase (decide (n3 + 1 ≤ 1099511627776))
 (bcase (decide (0 + n3 * 1 ≤ List.length l14))
 (bcase (decide (0 + n3 * 1 = List.length l14))
 ((((vI (IntKind.wrap .i64 (n1 + n5))) = (vI (IntKind.wrap .i64 (n1 + n5)))) ∧
 (((vI (IntKind.wrap .i64 (n2 - n1))) = (vI (IntKind.wrap .i64 (n2 - n1)))) ∧
 (((vI n1) = (vI n1)) ∧
 (((Go.Value.pointer (Option.some (Go.Addr.mk 1005 0 Option.none))) = (Go.Value.pointer (Option.some (Go.Addr.mk 1005 0 Option.none)))) ∧
 (((vI n2) = (vI n2)) ∧
 (((Go.Value.pointer (Option.some (Go.Addr.mk 1005 1 Option.none))) = (Go.Value.pointer (Option.some (Go.Addr.mk 1005 1 Option.none)))) ∧
 ((bcase (decide (0 ≤ IntKind.wrap .i64 (x4 + 1)))
 (bcase (decide (IntKind.wrap .i64 (x4 + 1) < (↑n0 : Int)))
 ((Go.Value.pointer (Option.some (Go.Addr.mk 501 (0 + Int.toNat (IntKind.wrap .i64 (x4 + 1)) * 1) Option.none))) = (Go.Value.pointer (Option.some (Go.Addr.mk 501 (0 + Int.toNat (IntKind.wrap .i64 (x4 + 1)) * 1) Option.none))))
 False)
 False) ∧
 (((vI (IntKind.wrap .i64 (x4 + 1))) = (vI (IntKind.wrap .i64 (x4 + 1)))) ∧
 (((vI x4) = (vI x4)) ∧
 (((Go.Value.slice (Option.some (Go.Addr.mk 501 0 Option.none)) (n0) (c1)) = (Go.Value.slice (Option.some (Go.Addr.mk 501 0 Option.none)) (n0) (c1))) ∧
 (((vI n1) = (vI n1)) ∧
 (((Go.Value.pointer (Option.some (Go.Addr.mk 1005 0 Option.none))) = (Go.Value.pointer (Option.some (Go.Addr.mk 1005 0 Option.none)))) ∧
 True)))))))))))) ∧
 (True ∧
 (bcase (decide (0 ≤ x4))
 (bcase (decide (x4 < (↑(n3 + 1) : Int)))
 (∃ n6 : Int,
 ((At ((List.take (n3 * 1) (List.drop 0 l14)) ++ [(vI (IntKind.wrap .i64 (n1 + n5)))]) (0 + Int.toNat x4 * 1) 1 [(vI n6)]) ∧
 (bcase (decide (0 ≤ x4))
 (bcase (decide (x4 < (↑(n3 + 1) : Int)))
 (∃ n7 : Int,
 ((At ((List.take (n3 * 1) (List.drop 0 l14)) ++ [(vI (IntKind.wrap .i64 (n1 + n5)))]) (0 + Int.toNat x4 * 1) 1 [(vI n7)]) ∧
 (bcase (decide (0 ≤ x4))
 (bcase (decide (x4 < (↑n17 : Int)))
 ((((Go.Value.pointer (Option.some (Go.Addr.mk 1004 (0 + Int.toNat x4 * 3) Option.none))) = (Go.Value.pointer (Option.some (Go.Addr.mk 1004 (0 + Int.toNat x4 * 3) Option.none)))) ∧
 ((bcase (decide (0 ≤ x4))
 (bcase (decide (x4 < (↑n17 : Int)))
 ((Go.Value.pointer (Option.some (Go.Addr.mk 1004 (0 + Int.toNat x4 * 3) Option.none))) = (Go.Value.pointer (Option.some (Go.Addr.mk 1004 (0 + Int.toNat x4 * 3) Option.none))))
 False)
 False) ∧
 (((Go.Value.agg [(vI n6), (vI n7)].toArray) = (Go.Value.agg [(vI n6), (vI n7)].toArray)) ∧
 ((∃ n9 : Int,
 ((At ((List.take (n3 * 1) (List.drop 0 l14)) ++ [(vI (IntKind.wrap .i64 (n1 + n5)))]) (0 + Int.toNat x4 * 1) 1 [(vI n9)]) ∧
 ((vI n9) = (vI n7)))) ∧
 ((bcase (decide (0 ≤ x4))
 (bcase (decide (x4 < (↑(n3 + 1) : Int)))
 ((Go.Value.pointer (Option.some (Go.Addr.mk 1007 (0 + Int.toNat x4 * 1) Option.none))) = (Go.Value.pointer (Option.some (Go.Addr.mk 1007 (0 + Int.toNat x4 * 1) Option.none))))
 False)
 False) ∧
 (((vI x4) = (vI x4)) ∧
 (((Go.Value.slice (Option.some (Go.Addr.mk 1007 0 Option.none)) (n3 + 1) (n3 + 1)) = (Go.Value.slice (Option.some (Go.Addr.mk 1007 0 Option.none)) (n3 + 1) (n3 + 1))) ∧
 ((∃ n9 : Int,
 ((At ((List.take (n3 * 1) (List.drop 0 l14)) ++ [(vI (IntKind.wrap .i64 (n1 + n5)))]) (0 + Int.toNat x4 * 1) 1 [(vI n9)]) ∧
 ((vI n9) = (vI n6)))) ∧
 ((bcase (decide (0 ≤ x4))
 (bcase (decide (x4 < (↑(n3 + 1) : Int)))
 ((Go.Value.pointer (Option.some (Go.Addr.mk 1007 (0 + Int.toNat x4 * 1) Option.none))) = (Go.Value.pointer (Option.some (Go.Addr.mk 1007 (0 + Int.toNat x4 * 1) Option.none))))
 False)
 False) ∧
 (((vI x4) = (vI x4)) ∧
 (((Go.Value.slice (Option.some (Go.Addr.mk 1007 0 Option.none)) (n3 + 1) (n3 + 1)) = (Go.Value.slice (Option.some (Go.Addr.mk 1007 0 Option.none)) (n3 + 1) (n3 + 1))) ∧
 (((vI x4) = (vI x4)) ∧
 (((Go.Value.slice (Option.some (Go.Addr.mk 1004 0 Option.none)) (n17) (n17)) = (Go.Value.slice (Option.some (Go.Addr.mk 1004 0 Option.none)) (n17) (n17))) ∧
 (((Go.Value.pointer (Option.some (Go.Addr.mk 1003 2 Option.none))) = (Go.Value.pointer (Option.some (Go.Addr.mk 1003 2 Option.none)))) ∧
 True)))))))))))))) ∧
 (bcase (decide (0 + Int.toNat x4 * 3 + 2 ≤ List.length l19))
 (((bcase (decide (0 ≤ x4))
 (bcase (decide (x4 < (↑n17 : Int)))
 ((Go.Value.pointer (Option.some (Go.Addr.mk 1004 (0 + Int.toNat x4 * 3) Option.none))) = (Go.Value.pointer (Option.some (Go.Addr.mk 1004 (0 + Int.toNat x4 * 3) Option.none))))
 False)
 False) ∧
 True) ∧
 (B [(Prod.mk 2 (Go.Value.slice (Option.some (Go.Addr.mk 501 0 Option.none)) (n0) (c1))), (Prod.mk 3 (Go.Value.pointer (Option.some (Go.Addr.mk 1000 0 Option.none)))), (Prod.mk 4 (Go.Value.pointer (Option.some (Go.Addr.mk 1001 0 Option.none)))), (Prod.mk 7 (vI x2)), (Prod.mk 8 (Go.Value.slice (Option.some (Go.Addr.mk 1002 0 Option.none)) (n3 + 1) (n3 + 1))), (Prod.mk 9 (Go.Value.pointer (Option.some (Go.Addr.mk 1003 0 Option.none)))), (Prod.mk 10 (vI (IntKind.wrap .i64 (x4 + 1))))] [(Prod.mk 501 (AObj.sym (l5) false 1)), (Prod.mk 1000 (AObj.cells [(vI x6), (vI x7), (Go.Value.slice (Option.some (Go.Addr.mk 500 0 Option.none)) (n8) (c9))] 24 false 1)), (Prod.mk 1001 (AObj.cells [(vI x10), (vI x11), (vI x12), (vI x13)] 28 false 1)), (Prod.mk 1002 (AObj.sym ((List.take (n3 * 1) (List.drop 0 l14)) ++ [(vI (IntKind.wrap .i64 (n1 + n5)))]) true 1)), (Prod.mk 1003 (AObj.cells [(vI x15), (vI x16), (Go.Value.slice (Option.some (Go.Addr.mk 1004 0 Option.none)) (n17) (n17))] 24 false 3)), (Prod.mk 500 (AObj.sym (l18) false 3)), (Prod.mk 1004 (AObj.sym (listSet (l19) (0 + Int.toNat x4 * 3) [(vI n6), (vI n7)]) true 3))]))
 False))
 False)
 False)))
 False)
 False)))
 False)
 False)))
 False)
 False)
 False)
 False)
 False)))))))
 False)
 False))))
 False)
 False)
 (X 0 [(Prod.mk 2 (Go.Value.slice (Option.some (Go.Addr.mk 501 0 Option.none)) (n0) (c1))), (Prod.mk 3 (Go.Value.pointer (Option.some (Go.Addr.mk 1000 0 Option.none)))), (Prod.mk 4 (Go.Value.pointer (Option.some (Go.Addr.mk 1001 0 Option.none)))), (Prod.mk 7 (vI x2)), (Prod.mk 8 (Go.Value.slice (Option.some (Go.Addr.mk 1002 0 Option.none)) (n3) (n3))), (Prod.mk 9 (Go.Value.pointer (Option.some (Go.Addr.mk 1003 0 Option.none))))] [(Prod.mk 501 (AObj.sym (l5) false 1)), (Prod.mk 1000 (AObj.cells [(vI x6), (vI x7), (Go.Value.slice (Option.some (Go.Addr.mk 500 0 Option.none)) (n8) (c9))] 24 false 1)), (Prod.mk 1001 (AObj.cells [(vI x10), (vI x11), (vI x12), (vI x13)] 28 false 1)), (Prod.mk 1002 (AObj.sym (l14) true 1)), (Prod.mk 1003 (AObj.cells [(vI x15), (vI x16), (Go.Value.slice (Option.some (Go.Addr.mk 1004 0 Option.none)) (n17) (n17))] 24 false 3)), (Prod.mk 500 (AObj.sym (l18) false 3)), (Prod.mk 1004 (AObj.sym (l19) true 3))])) := by kernel_rfl
def nLE4 (C : Ct) (L : AtLoop) (n0 : Nat) (c1 : Nat) (x2 : Int) (n3 : Nat) (l4 : List Value) (x5 : Int) (x6 : Int) (n7 : Nat) (c8 : Nat) (x9 : Int) (x10 : Int) (x11 : Int) (x12 : Int) (l13 : List Value) (x14 : Int) (x15 : Int) (n16 : Nat) (l17 : List Value) (l18 : List Value) (k : List D → Prop) : Prop := wpNext Tryz.prog (hC C) L 5 0 .normal [(2, (Value.slice (some ⟨501, 0, none⟩) n0 c1)), (3, (Value.pointer (some ⟨1000, 0, none⟩))), (4, (Value.pointer (some ⟨1001, 0, none⟩))), (7, (Value.int .i64 x2)), (8, (Value.slice (some ⟨1002, 0, none⟩) n3 n3)), (9, (Value.pointer (some ⟨1003, 0, none⟩)))] [(501, (AObj.sym l4 false 1)), (1000, (AObj.cells [(Value.int .i64 x5), (Value.int .i64 x6), (Value.slice (some ⟨500, 0, none⟩) n7 c8)] 24 false 1)), (1001, (AObj.cells [(Value.int .i64 x9), (Value.int .i64 x10), (Value.int .i64 x11), (Value.int .i64 x12)] 28 false 1)), (1002, (AObj.sym l13 true 1)), (1003, (AObj.cells [(Value.int .i64 x14), (Value.int .i64 x15), (Value.slice (some ⟨1004, 0, none⟩) n16 n16)] 24 false 3)), (500, (AObj.sym l17 false 3)), (1004, (AObj.sym l18 true 3))] (dataK k)
theorem nLE4_text (C : Ct) (L : AtLoop) (n0 : Nat) (c1 : Nat) (x2 : Int) (n3 : Nat) (l4 : List Go.Value) (x5 : Int) (x6 : Int) (n7 : Nat) (c8 : Nat) (x9 : Int) (x10 : Int) (x11 : Int) (x12 : Int) (l13 : List Go.Value) (x14 : Int) (x15 : Int) (n16 : Nat) (l17 : List Go.Value) (l18 : List Go.Value) (k : List D → Prop) : nLE4 C L n0 c1 x2 n3 l4 x5 x6 n7 c8 x9 x10 x11 x12 l13 x14 x15 n16 l17 l18 k =
 (((((Go.Value.pointer (Option.some (Go.Addr.mk 1005 0 Option.none))) = (Go.Value.pointer (Option.some (Go.Addr.mk 1005 0 Option.none)))) ∧
 ((Option.some (AObj.cells [(vI (0 : Int)), (vI (0 : Int))] 26 false 2)) = (Option.some (AObj.cells [(vI (0 : Int)), (vI (0 : Int))] 26 false 2)))) ∧
 (((Go.Value.agg [(vI x10), (vI x11)].toArray) = (Go.Value.agg [(vI x10), (vI x11)].toArray)) ∧
 (((Go.Value.pointer (Option.some (Go.Addr.mk 1001 1 Option.none))) = (Go.Value.pointer (Option.some (Go.Addr.mk 1001 1 Option.none)))) ∧
 (((vI x9) = (vI x9)) ∧
 (((Go.Value.pointer (Option.some (Go.Addr.mk 1001 0 Option.none))) = (Go.Value.pointer (Option.some (Go.Addr.mk 1001 0 Option.none)))) ∧
 (((Go.Value.agg [(vI x5), (vI x6), (Go.Value.slice (Option.some (Go.Addr.mk 500 0 Option.none)) (n7) (c8))].toArray) = (Go.Value.agg [(vI x5), (vI x6), (Go.Value.slice (Option.some (Go.Addr.mk 500 0 Option.none)) (n7) (c8))].toArray)) ∧
 True)))))) ∧
 (bcase (decide (0 + n7 * 3 ≤ List.length l17))
 ((Says C 11 [(D.agg [(D.val (vI x5)), (D.val (vI x6)), (D.sl (n7) 3 (List.take (n7 * 3) (List.drop 0 l17)))])] [(D.agg [(D.val (vI x5)), (D.val (vI x6)), (D.sl (n7) 3 (List.take (n7 * 3) (List.drop 0 l17)))])]) ∧
 (((((Go.Value.pointer (Option.some (Go.Addr.mk 1005 0 Option.none))) = (Go.Value.pointer (Option.some (Go.Addr.mk 1005 0 Option.none)))) ∧
 ((Option.some (AObj.cells [(vI (0 : Int)), (vI (0 : Int))] 26 false 2)) = (Option.some (AObj.cells [(vI (0 : Int)), (vI (0 : Int))] 26 false 2)))) ∧
 (((Go.Value.agg [(vI x10), (vI x11)].toArray) = (Go.Value.agg [(vI x10), (vI x11)].toArray)) ∧
 (((Go.Value.pointer (Option.some (Go.Addr.mk 1001 1 Option.none))) = (Go.Value.pointer (Option.some (Go.Addr.mk 1001 1 Option.none)))) ∧
 (((vI x9) = (vI x9)) ∧
 (((Go.Value.pointer (Option.some (Go.Addr.mk 1001 0 Option.none))) = (Go.Value.pointer (Option.some (Go.Addr.mk 1001 0 Option.none)))) ∧
 True))))) ∧
 (bcase (decide (0 + n7 * 3 ≤ List.length (List.take (n7 * 3) (List.drop 0 l17))))
 (∃ n1 : Int,
 (∃ n2 : Int,
 (∃ n4 : Int,
 ((Says C 12 [(D.agg [(D.val (vI x5)), (D.val (vI x6)), (D.sl (n7) 3 (List.take (n7 * 3) (List.drop 0 (List.take (n7 * 3) (List.drop 0 l17)))))]), (D.val (vI x9)), (D.agg [(D.val (vI x10)), (D.val (vI x11))])] [(D.agg [(D.val (vI n1)), (D.val (vI n2))]), (D.val (vI n4))]) ∧
 ((((vI n4) = (vI n4)) ∧
 (((Go.Value.agg [(vI n1), (vI n2)].toArray) = (Go.Value.agg [(vI n1), (vI n2)].toArray)) ∧
 (((Go.Value.tuple [(Go.Value.agg [(vI n1), (vI n2)].toArray), (vI n4)].toArray) = (Go.Value.tuple [(Go.Value.agg [(vI n1), (vI n2)].toArray), (vI n4)].toArray)) ∧
 ((((Go.Value.pointer (Option.some (Go.Addr.mk 1005 0 Option.none))) = (Go.Value.pointer (Option.some (Go.Addr.mk 1005 0 Option.none)))) ∧
 ((Option.some (AObj.cells [(vI (0 : Int)), (vI (0 : Int))] 26 false 2)) = (Option.some (AObj.cells [(vI (0 : Int)), (vI (0 : Int))] 26 false 2)))) ∧
 (((Go.Value.pointer (Option.some (Go.Addr.mk 1001 1 Option.none))) = (Go.Value.pointer (Option.some (Go.Addr.mk 1001 1 Option.none)))) ∧
 (((Go.Value.pointer (Option.some (Go.Addr.mk 1001 0 Option.none))) = (Go.Value.pointer (Option.some (Go.Addr.mk 1001 0 Option.none)))) ∧
 True)))))) ∧
 ((((vI n4) = (vI n4)) ∧
 True) ∧
 (True ∧
 (bcase (decide (0 + n7 * 3 ≤ List.length l17))
 (bcase (decide (0 + n3 * 1 ≤ List.length l13))
 (∃ n5 : Int,
 ((Says C 36 [(D.agg [(D.val (vI x5)), (D.val (vI x6)), (D.sl (n7) 3 (List.take (n7 * 3) (List.drop 0 l17)))]), (D.val (vI x9)), (D.val (vI x2)), (D.sl (n3) 1 (List.take (n3 * 1) (List.drop 0 l13)))] [(D.val (vI n5))]) ∧
 (bcase (n4 != 0)
 (k [(D.val (Value.bool false))])
 (((Says C 15 [(D.val (vI n5)), (D.val (vI n1)), (D.val (vI n2))] [(D.val (Value.bool true))]) ∧
 (((((Go.Value.pointer (Option.some (Go.Addr.mk 1007 0 Option.none))) = (Go.Value.pointer (Option.some (Go.Addr.mk 1007 0 Option.none)))) ∧
 ((Option.some (AObj.cells [(vI (0 : Int)), (vI (0 : Int))] 26 false 2)) = (Option.some (AObj.cells [(vI (0 : Int)), (vI (0 : Int))] 26 false 2)))) ∧
 (((Go.Value.agg [(vI x2), (vI x2)].toArray) = (Go.Value.agg [(vI x2), (vI x2)].toArray)) ∧
 (((vI x2) = (vI x2)) ∧
 (((vI x2) = (vI x2)) ∧
 (((vI x9) = (vI x9)) ∧
 (((Go.Value.pointer (Option.some (Go.Addr.mk 1001 0 Option.none))) = (Go.Value.pointer (Option.some (Go.Addr.mk 1001 0 Option.none)))) ∧
 (((Go.Value.agg [(vI x14), (vI x15), (Go.Value.slice (Option.some (Go.Addr.mk 1004 0 Option.none)) (n16) (n16))].toArray) = (Go.Value.agg [(vI x14), (vI x15), (Go.Value.slice (Option.some (Go.Addr.mk 1004 0 Option.none)) (n16) (n16))].toArray)) ∧
 True))))))) ∧
 (bcase (decide (0 + n16 * 3 ≤ List.length l18))
 ((Says C 11 [(D.agg [(D.val (vI x14)), (D.val (vI x15)), (D.sl (n16) 3 (List.take (n16 * 3) (List.drop 0 l18)))])] [(D.agg [(D.val (vI x14)), (D.val (vI x15)), (D.sl (n16) 3 (List.take (n16 * 3) (List.drop 0 l18)))])]) ∧
 (((((Go.Value.pointer (Option.some (Go.Addr.mk 1007 0 Option.none))) = (Go.Value.pointer (Option.some (Go.Addr.mk 1007 0 Option.none)))) ∧
 ((Option.some (AObj.cells [(vI (0 : Int)), (vI (0 : Int))] 26 false 2)) = (Option.some (AObj.cells [(vI (0 : Int)), (vI (0 : Int))] 26 false 2)))) ∧
 (((Go.Value.agg [(vI x2), (vI x2)].toArray) = (Go.Value.agg [(vI x2), (vI x2)].toArray)) ∧
 (((vI x2) = (vI x2)) ∧
 (((vI x2) = (vI x2)) ∧
 (((vI x9) = (vI x9)) ∧
 (((Go.Value.pointer (Option.some (Go.Addr.mk 1001 0 Option.none))) = (Go.Value.pointer (Option.some (Go.Addr.mk 1001 0 Option.none)))) ∧
 True)))))) ∧
 (bcase (decide (0 + n16 * 3 ≤ List.length (List.take (n16 * 3) (List.drop 0 l18))))
 (∃ n6 : Int,
 (∃ n8 : Int,
 (∃ n9 : Int,
 ((Says C 12 [(D.agg [(D.val (vI x14)), (D.val (vI x15)), (D.sl (n16) 3 (List.take (n16 * 3) (List.drop 0 (List.take (n16 * 3) (List.drop 0 l18)))))]), (D.val (vI x9)), (D.agg [(D.val (vI x2)), (D.val (vI x2))])] [(D.agg [(D.val (vI n6)), (D.val (vI n8))]), (D.val (vI n9))]) ∧
 ((((vI n9) = (vI n9)) ∧
 (((Go.Value.agg [(vI n6), (vI n8)].toArray) = (Go.Value.agg [(vI n6), (vI n8)].toArray)) ∧
 (((Go.Value.tuple [(Go.Value.agg [(vI n6), (vI n8)].toArray), (vI n9)].toArray) = (Go.Value.tuple [(Go.Value.agg [(vI n6), (vI n8)].toArray), (vI n9)].toArray)) ∧
 ((((Go.Value.pointer (Option.some (Go.Addr.mk 1007 0 Option.none))) = (Go.Value.pointer (Option.some (Go.Addr.mk 1007 0 Option.none)))) ∧
 ((Option.some (AObj.cells [(vI (0 : Int)), (vI (0 : Int))] 26 false 2)) = (Option.some (AObj.cells [(vI (0 : Int)), (vI (0 : Int))] 26 false 2)))) ∧
 (((vI x2) = (vI x2)) ∧
 (((vI x2) = (vI x2)) ∧
 (((Go.Value.pointer (Option.some (Go.Addr.mk 1001 0 Option.none))) = (Go.Value.pointer (Option.some (Go.Addr.mk 1001 0 Option.none)))) ∧
 True))))))) ∧
 ((((vI n9) = (vI n9)) ∧
 True) ∧
 (True ∧
 (bcase (n9 != 0)
 (k [(D.val (Value.bool false))])
 (bcase (if Bool.true = Bool.true then !(n6 == n5 && (n8 == n5 && Bool.true)) else n6 == n5 && (n8 == n5 && Bool.true))
 (k [(D.val (Value.bool false))])
 (bcase (decide (0 ≤ IntKind.wrap .i64 ((↑n0 : Int) - 1)))
 (bcase (decide (IntKind.wrap .i64 ((↑n0 : Int) - 1) < (↑n0 : Int)))
 (∃ n10 : Int,
 ((At (l4) (0 + Int.toNat (IntKind.wrap .i64 ((↑n0 : Int) - 1)) * 1) 1 [(vI n10)]) ∧
 (∃ n11 : Int,
 ((Says C 35 [(D.val (vI n10)), (D.val (vI (1000 : Int)))] [(D.val (vI n11))]) ∧
 (((((Go.Value.pointer (Option.some (Go.Addr.mk 1009 0 Option.none))) = (Go.Value.pointer (Option.some (Go.Addr.mk 1009 0 Option.none)))) ∧
 ((Option.some (AObj.cells [(vI (0 : Int)), (vI (0 : Int))] 26 false 2)) = (Option.some (AObj.cells [(vI (0 : Int)), (vI (0 : Int))] 26 false 2)))) ∧
 (((Go.Value.agg [(vI (if IntKind.wrap .i64 (x2 + n11) < 12000 then IntKind.wrap .i64 (x2 + n11) else 12000)), (vI (if IntKind.wrap .i64 (x2 + n11) < 12000 then IntKind.wrap .i64 (x2 + n11) else 12000))].toArray) = (Go.Value.agg [(vI (if IntKind.wrap .i64 (x2 + n11) < 12000 then IntKind.wrap .i64 (x2 + n11) else 12000)), (vI (if IntKind.wrap .i64 (x2 + n11) < 12000 then IntKind.wrap .i64 (x2 + n11) else 12000))].toArray)) ∧
 (((vI (if IntKind.wrap .i64 (x2 + n11) < 12000 then IntKind.wrap .i64 (x2 + n11) else 12000)) = (vI (if IntKind.wrap .i64 (x2 + n11) < 12000 then IntKind.wrap .i64 (x2 + n11) else 12000))) ∧
 (((vI (if IntKind.wrap .i64 (x2 + n11) < 12000 then IntKind.wrap .i64 (x2 + n11) else 12000)) = (vI (if IntKind.wrap .i64 (x2 + n11) < 12000 then IntKind.wrap .i64 (x2 + n11) else 12000))) ∧
 (((vI x9) = (vI x9)) ∧
 (((Go.Value.pointer (Option.some (Go.Addr.mk 1001 0 Option.none))) = (Go.Value.pointer (Option.some (Go.Addr.mk 1001 0 Option.none)))) ∧
 (((Go.Value.agg [(vI x14), (vI x15), (Go.Value.slice (Option.some (Go.Addr.mk 1004 0 Option.none)) (n16) (n16))].toArray) = (Go.Value.agg [(vI x14), (vI x15), (Go.Value.slice (Option.some (Go.Addr.mk 1004 0 Option.none)) (n16) (n16))].toArray)) ∧
 True))))))) ∧
 (bcase (decide (0 + n16 * 3 ≤ List.length l18))
 ((Says C 11 [(D.agg [(D.val (vI x14)), (D.val (vI x15)), (D.sl (n16) 3 (List.take (n16 * 3) (List.drop 0 l18)))])] [(D.agg [(D.val (vI x14)), (D.val (vI x15)), (D.sl (n16) 3 (List.take (n16 * 3) (List.drop 0 l18)))])]) ∧
 (((((Go.Value.pointer (Option.some (Go.Addr.mk 1009 0 Option.none))) = (Go.Value.pointer (Option.some (Go.Addr.mk 1009 0 Option.none)))) ∧
 ((Option.some (AObj.cells [(vI (0 : Int)), (vI (0 : Int))] 26 false 2)) = (Option.some (AObj.cells [(vI (0 : Int)), (vI (0 : Int))] 26 false 2)))) ∧
 (((Go.Value.agg [(vI (if IntKind.wrap .i64 (x2 + n11) < 12000 then IntKind.wrap .i64 (x2 + n11) else 12000)), (vI (if IntKind.wrap .i64 (x2 + n11) < 12000 then IntKind.wrap .i64 (x2 + n11) else 12000))].toArray) = (Go.Value.agg [(vI (if IntKind.wrap .i64 (x2 + n11) < 12000 then IntKind.wrap .i64 (x2 + n11) else 12000)), (vI (if IntKind.wrap .i64 (x2 + n11) < 12000 then IntKind.wrap .i64 (x2 + n11) else 12000))].toArray)) ∧
 (((vI (if IntKind.wrap .i64 (x2 + n11) < 12000 then IntKind.wrap .i64 (x2 + n11) else 12000)) = (vI (if IntKind.wrap .i64 (x2 + n11) < 12000 then IntKind.wrap .i64 (x2 + n11) else 12000))) ∧
 (((vI (if IntKind.wrap .i64 (x2 + n11) < 12000 then IntKind.wrap .i64 (x2 + n11) else 12000)) = (vI (if IntKind.wrap .i64 (x2 + n11) < 12000 then IntKind.wrap .i64 (x2 + n11) else 12000))) ∧
 (((vI x9) = (vI x9)) ∧
 (((Go.Value.pointer (Option.some (Go.Addr.mk 1001 0 Option.none))) = (Go.Value.pointer (Option.some (Go.Addr.mk 1001 0 Option.none)))) ∧
 True)))))) ∧
 (bcase (decide (0 + n16 * 3 ≤ List.length (List.take (n16 * 3) (List.drop 0 l18))))
 (∃ n12 : Int,
 (∃ n13 : Int,
 (∃ n14 : Int,
 ((Says C 12 [(D.agg [(D.val (vI x14)), (D.val (vI x15)), (D.sl (n16) 3 (List.take (n16 * 3) (List.drop 0 (List.take (n16 * 3) (List.drop 0 l18)))))]), (D.val (vI x9)), (D.agg [(D.val (vI (if IntKind.wrap .i64 (x2 + n11) < 12000 then IntKind.wrap .i64 (x2 + n11) else 12000))), (D.val (vI (if IntKind.wrap .i64 (x2 + n11) < 12000 then IntKind.wrap .i64 (x2 + n11) else 12000)))])] [(D.agg [(D.val (vI n12)), (D.val (vI n13))]), (D.val (vI n14))]) ∧
 ((((vI n14) = (vI n14)) ∧
 (((Go.Value.agg [(vI n12), (vI n13)].toArray) = (Go.Value.agg [(vI n12), (vI n13)].toArray)) ∧
 (((Go.Value.tuple [(Go.Value.agg [(vI n12), (vI n13)].toArray), (vI n14)].toArray) = (Go.Value.tuple [(Go.Value.agg [(vI n12), (vI n13)].toArray), (vI n14)].toArray)) ∧
 ((((Go.Value.pointer (Option.some (Go.Addr.mk 1009 0 Option.none))) = (Go.Value.pointer (Option.some (Go.Addr.mk 1009 0 Option.none)))) ∧
 ((Option.some (AObj.cells [(vI (0 : Int)), (vI (0 : Int))] 26 false 2)) = (Option.some (AObj.cells [(vI (0 : Int)), (vI (0 : Int))] 26 false 2)))) ∧
 (((vI (if IntKind.wrap .i64 (x2 + n11) < 12000 then IntKind.wrap .i64 (x2 + n11) else 12000)) = (vI (if IntKind.wrap .i64 (x2 + n11) < 12000 then IntKind.wrap .i64 (x2 + n11) else 12000))) ∧
 (((vI (if IntKind.wrap .i64 (x2 + n11) < 12000 then IntKind.wrap .i64 (x2 + n11) else 12000)) = (vI (if IntKind.wrap .i64 (x2 + n11) < 12000 then IntKind.wrap .i64 (x2 + n11) else 12000))) ∧
 (((Go.Value.pointer (Option.some (Go.Addr.mk 1001 0 Option.none))) = (Go.Value.pointer (Option.some (Go.Addr.mk 1001 0 Option.none)))) ∧
 True))))))) ∧
 ((((vI n14) = (vI n14)) ∧
 True) ∧
 (True ∧
 (bcase (n14 != 0)
 (k [(D.val (Value.bool false))])
 (bcase (decide (n12 < n5))
 (k [(D.val (Value.bool false))])
 (L 2 [(Prod.mk 3 (Go.Value.pointer (Option.some (Go.Addr.mk 1000 0 Option.none)))), (Prod.mk 4 (Go.Value.pointer (Option.some (Go.Addr.mk 1001 0 Option.none)))), (Prod.mk 12 (Go.Value.pointer (Option.some (Go.Addr.mk 1002 0 Option.none)))), (Prod.mk 20 (vI (0 : Int)))] [(Prod.mk 1000 (AObj.cells [(vI x5), (vI x6), (Go.Value.slice (Option.some (Go.Addr.mk 500 0 Option.none)) (n7) (c8))] 24 false 1)), (Prod.mk 1001 (AObj.cells [(vI x9), (vI x10), (vI x11), (vI x12)] 28 false 1)), (Prod.mk 1002 (AObj.cells [(vI n1), (vI n2)] 26 false 2)), (Prod.mk 500 (AObj.sym (l17) false 3))]))))))))))
 False)))
 False))))))
 False)
 False))))))))))
 False)))
 False))) ∨
 ((Says C 15 [(D.val (vI n5)), (D.val (vI n1)), (D.val (vI n2))] [(D.val (Value.bool false))]) ∧
 (k [(D.val (Value.bool false))]))))))
 False)
 False))))))))
 False)))
 False)) := by kernel_rfl
abbrev zLE5 (x0 : Int) (x1 : Int) (x2 : Int) (n3 : Nat) (c4 : Nat) (x5 : Int) (x6 : Int) (x7 : Int) (x8 : Int) (x9 : Int) (x10 : Int) (l11 : List Value) : Slots × Blocks := ([(3, (Value.pointer (some ⟨1000, 0, none⟩))), (4, (Value.pointer (some ⟨1001, 0, none⟩))), (12, (Value.pointer (some ⟨1002, 0, none⟩))), (20, (Value.int .i64 x0))], [(1000, (AObj.cells [(Value.int .i64 x1), (Value.int .i64 x2), (Value.slice (some ⟨500, 0, none⟩) n3 c4)] 24 false 1)), (1001, (AObj.cells [(Value.int .i64 x5), (Value.int .i64 x6), (Value.int .i64 x7), (Value.int .i64 x8)] 28 false 1)), (1002, (AObj.cells [(Value.int .i64 x9), (Value.int .i64 x10)] 26 false 2)), (500, (AObj.sym l11 false 3))])
def rLE5 (C : Ct) (L : AtLoop) (x0 : Int) (x1 : Int) (x2 : Int) (n3 : Nat) (c4 : Nat) (x5 : Int) (x6 : Int) (x7 : Int) (x8 : Int) (x9 : Int) (x10 : Int) (l11 : List Value) (B : Bx) (X : Xx) (k : List D → Prop) : Prop := wpRound Tryz.prog (hC C) L 5 2 [(3, (Value.pointer (some ⟨1000, 0, none⟩))), (4, (Value.pointer (some ⟨1001, 0, none⟩))), (12, (Value.pointer (some ⟨1002, 0, none⟩))), (20, (Value.int .i64 x0))] [(1000, (AObj.cells [(Value.int .i64 x1), (Value.int .i64 x2), (Value.slice (some ⟨500, 0, none⟩) n3 c4)] 24 false 1)), (1001, (AObj.cells [(Value.int .i64 x5), (Value.int .i64 x6), (Value.int .i64 x7), (Value.int .i64 x8)] 28 false 1)), (1002, (AObj.cells [(Value.int .i64 x9), (Value.int .i64 x10)] 26 false 2)), (500, (AObj.sym l11 false 3))] B X (dataK k)
theorem rLE5_text (C : Ct) (L : AtLoop) (x0 : Int) (x1 : Int) (x2 : Int) (n3 : Nat) (c4 : Nat) (x5 : Int) (x6 : Int) (x7 : Int) (x8 : Int) (x9 : Int) (x10 : Int) (l11 : List Go.Value) (B : Bx) (X : Xx) (k : List D → Prop) : rLE5 C L x0 x1 x2 n3 c4 x5 x6 x7 x8 x9 x10 l11 B X k =
 (bcase (decide (x0 < (↑n3 : Int)))
 (bcase (decide (0 ≤ x0))
 (((((Go.Value.pointer (Option.some (Go.Addr.mk 1003 0 Option.none))) = (Go.Value.pointer (Option.some (Go.Addr.mk 1003 0 Option.none)))) ∧
 ((Option.some (AObj.cells [(vI (0 : Int)), (vI (0 : Int))] 26 false 2)) = (Option.some (AObj.cells [(vI (0 : Int)), (vI (0 : Int))] 26 false 2)))) ∧
 (((Go.Value.agg [(vI x6), (vI x7)].toArray) = (Go.Value.agg [(vI x6), (vI x7)].toArray)) ∧
 (((Go.Value.pointer (Option.some (Go.Addr.mk 1001 1 Option.none))) = (Go.Value.pointer (Option.some (Go.Addr.mk 1001 1 Option.none)))) ∧
 (((vI (IntKind.wrap .i64 (↑(BitVec.toNat (BitVec.ofInt 64 x5 ||| BitVec.ofInt 64 (IntKind.wrap .i64 (1 * 2 ^ Min.min (Int.toNat x0) 64)))) : Int))) = (vI (IntKind.wrap .i64 (↑(BitVec.toNat (BitVec.ofInt 64 x5 ||| BitVec.ofInt 64 (IntKind.wrap .i64 (1 * 2 ^ Min.min (Int.toNat x0) 64)))) : Int)))) ∧
 ((bcase (decide (0 ≤ x0))
 ((vI (IntKind.wrap .i64 (1 * 2 ^ Min.min (Int.toNat x0) 64))) = (vI (IntKind.wrap .i64 (1 * 2 ^ Min.min (Int.toNat x0) 64))))
 False) ∧
 (((vI x0) = (vI x0)) ∧
 (((vI x5) = (vI x5)) ∧
 (((Go.Value.pointer (Option.some (Go.Addr.mk 1001 0 Option.none))) = (Go.Value.pointer (Option.some (Go.Addr.mk 1001 0 Option.none)))) ∧
 (((Go.Value.agg [(vI x1), (vI x2), (Go.Value.slice (Option.some (Go.Addr.mk 500 0 Option.none)) (n3) (c4))].toArray) = (Go.Value.agg [(vI x1), (vI x2), (Go.Value.slice (Option.some (Go.Addr.mk 500 0 Option.none)) (n3) (c4))].toArray)) ∧
 True))))))))) ∧
 (bcase (decide (0 + n3 * 3 ≤ List.length l11))
 ((Says C 11 [(D.agg [(D.val (vI x1)), (D.val (vI x2)), (D.sl (n3) 3 (List.take (n3 * 3) (List.drop 0 l11)))])] [(D.agg [(D.val (vI x1)), (D.val (vI x2)), (D.sl (n3) 3 (List.take (n3 * 3) (List.drop 0 l11)))])]) ∧
 (((((Go.Value.pointer (Option.some (Go.Addr.mk 1003 0 Option.none))) = (Go.Value.pointer (Option.some (Go.Addr.mk 1003 0 Option.none)))) ∧
 ((Option.some (AObj.cells [(vI (0 : Int)), (vI (0 : Int))] 26 false 2)) = (Option.some (AObj.cells [(vI (0 : Int)), (vI (0 : Int))] 26 false 2)))) ∧
 (((Go.Value.agg [(vI x6), (vI x7)].toArray) = (Go.Value.agg [(vI x6), (vI x7)].toArray)) ∧
 (((Go.Value.pointer (Option.some (Go.Addr.mk 1001 1 Option.none))) = (Go.Value.pointer (Option.some (Go.Addr.mk 1001 1 Option.none)))) ∧
 (((vI (IntKind.wrap .i64 (↑(BitVec.toNat (BitVec.ofInt 64 x5 ||| BitVec.ofInt 64 (IntKind.wrap .i64 (1 * 2 ^ Min.min (Int.toNat x0) 64)))) : Int))) = (vI (IntKind.wrap .i64 (↑(BitVec.toNat (BitVec.ofInt 64 x5 ||| BitVec.ofInt 64 (IntKind.wrap .i64 (1 * 2 ^ Min.min (Int.toNat x0) 64)))) : Int)))) ∧
 ((bcase (decide (0 ≤ x0))
 ((vI (IntKind.wrap .i64 (1 * 2 ^ Min.min (Int.toNat x0) 64))) = (vI (IntKind.wrap .i64 (1 * 2 ^ Min.min (Int.toNat x0) 64))))
 False) ∧
 (((vI x0) = (vI x0)) ∧
 (((vI x5) = (vI x5)) ∧
 (((Go.Value.pointer (Option.some (Go.Addr.mk 1001 0 Option.none))) = (Go.Value.pointer (Option.some (Go.Addr.mk 1001 0 Option.none)))) ∧
 True)))))))) ∧
 (bcase (decide (0 + n3 * 3 ≤ List.length (List.take (n3 * 3) (List.drop 0 l11))))
 (∃ n1 : Int,
 (∃ n2 : Int,
 (∃ n4 : Int,
 ((Says C 12 [(D.agg [(D.val (vI x1)), (D.val (vI x2)), (D.sl (n3) 3 (List.take (n3 * 3) (List.drop 0 (List.take (n3 * 3) (List.drop 0 l11)))))]), (D.val (vI (IntKind.wrap .i64 (↑(BitVec.toNat (BitVec.ofInt 64 x5 ||| BitVec.ofInt 64 (IntKind.wrap .i64 (1 * 2 ^ Min.min (Int.toNat x0) 64)))) : Int)))), (D.agg [(D.val (vI x6)), (D.val (vI x7))])] [(D.agg [(D.val (vI n1)), (D.val (vI n2))]), (D.val (vI n4))]) ∧
 ((((vI n4) = (vI n4)) ∧
 (((Go.Value.agg [(vI n1), (vI n2)].toArray) = (Go.Value.agg [(vI n1), (vI n2)].toArray)) ∧
 (((Go.Value.tuple [(Go.Value.agg [(vI n1), (vI n2)].toArray), (vI n4)].toArray) = (Go.Value.tuple [(Go.Value.agg [(vI n1), (vI n2)].toArray), (vI n4)].toArray)) ∧
 ((((Go.Value.pointer (Option.some (Go.Addr.mk 1003 0 Option.none))) = (Go.Value.pointer (Option.some (Go.Addr.mk 1003 0 Option.none)))) ∧
 ((Option.some (AObj.cells [(vI (0 : Int)), (vI (0 : Int))] 26 false 2)) = (Option.some (AObj.cells [(vI (0 : Int)), (vI (0 : Int))] 26 false 2)))) ∧
 (((Go.Value.pointer (Option.some (Go.Addr.mk 1001 1 Option.none))) = (Go.Value.pointer (Option.some (Go.Addr.mk 1001 1 Option.none)))) ∧
 ((bcase (decide (0 ≤ x0))
 ((vI (IntKind.wrap .i64 (1 * 2 ^ Min.min (Int.toNat x0) 64))) = (vI (IntKind.wrap .i64 (1 * 2 ^ Min.min (Int.toNat x0) 64))))
 False) ∧
 (((vI x0) = (vI x0)) ∧
 (((vI x5) = (vI x5)) ∧
 (((Go.Value.pointer (Option.some (Go.Addr.mk 1001 0 Option.none))) = (Go.Value.pointer (Option.some (Go.Addr.mk 1001 0 Option.none)))) ∧
 True))))))))) ∧
 ((((vI n4) = (vI n4)) ∧
 True) ∧
 (True ∧
 (bcase (n4 != 0)
 (k [(D.val (Value.bool false))])
 (bcase (decide (n1 > x9))
 (k [(D.val (Value.bool false))])
 (bcase (decide (n2 > x10))
 (k [(D.val (Value.bool false))])
 (B [(Prod.mk 3 (Go.Value.pointer (Option.some (Go.Addr.mk 1000 0 Option.none)))), (Prod.mk 4 (Go.Value.pointer (Option.some (Go.Addr.mk 1001 0 Option.none)))), (Prod.mk 12 (Go.Value.pointer (Option.some (Go.Addr.mk 1002 0 Option.none)))), (Prod.mk 20 (vI (IntKind.wrap .i64 (x0 + 1))))] [(Prod.mk 1000 (AObj.cells [(vI x1), (vI x2), (Go.Value.slice (Option.some (Go.Addr.mk 500 0 Option.none)) (n3) (c4))] 24 false 1)), (Prod.mk 1001 (AObj.cells [(vI x5), (vI x6), (vI x7), (vI x8)] 28 false 1)), (Prod.mk 1002 (AObj.cells [(vI x9), (vI x10)] 26 false 2)), (Prod.mk 500 (AObj.sym (l11) false 3))])))))))))))
 False)))
 False))
 False)
 (X 2 [] [])) := by kernel_rfl
def nLE6 (C : Ct) (L : AtLoop) (k : List D → Prop) : Prop := wpNext Tryz.prog (hC C) L 5 2 .normal [] [] (dataK k)
theorem nLE6_text (C : Ct) (L : AtLoop) (k : List D → Prop) : nLE6 C L k =
 (k [(D.val (Value.bool true))]) := by kernel_rfl
def gLEn (C : Ct) (L : AtLoop) (x0 : Int) (x1 : Int) (n2 : Nat) (c2 : Nat) (l2 : List Value) (x3 : Int) (x4 : Int) (x5 : Int) (x6 : Int) (k : List D → Prop) : Prop := wpFn Tryz.prog (hC C) L 0 5 #[.agg #[.int .i64 x0, .int .i64 x1, .slice (some ⟨500, 0, none⟩) n2 c2], .agg #[.int .i64 x3, .int .i64 x4, .int .i64 x5, .int .i64 x6], .slice none 0 0] (heapOf [(500, .sym l2 false 3)]) (dataK k)
theorem gLEn_text (C : Ct) (L : AtLoop) (x0 : Int) (x1 : Int) (n2 : Nat) (c2 : Nat) (l2 : List Go.Value) (x3 : Int) (x4 : Int) (x5 : Int) (x6 : Int) (k : List D → Prop) : gLEn C L x0 x1 n2 c2 l2 x3 x4 x5 x6 k =
 (((Says C 8 [] [(D.val (Value.bool true))]) ∧
 (bcase (decide ((↑n2 : Int) ≤ 6))
 (bcase (decide (0 + n2 * 3 ≤ List.length l2))
 (∃ n1 : Int,
 ((Says C 34 [(D.agg [(D.val (vI x0)), (D.val (vI x1)), (D.sl (n2) 3 (List.take (n2 * 3) (List.drop 0 l2)))])] [(D.val (vI n1))]) ∧
 (bcase (n1 != 0)
 (k [(D.val (Value.bool true))])
 (bcase (decide (0 + n2 * 3 ≤ List.length l2))
 (∃ n3 : Int,
 ((Says C 17 [(D.agg [(D.val (vI x0)), (D.val (vI x1)), (D.sl (n2) 3 (List.take (n2 * 3) (List.drop 0 l2)))]), (D.val (vI x3))] [(D.val (vI n3))]) ∧
 (bcase (n3 != 0)
 (k [(D.val (Value.bool true))])
 (∃ n4 : Int,
 ((Says C 18 [(D.agg [(D.val (vI x4)), (D.val (vI x5))])] [(D.val (vI n4))]) ∧
 (bcase (n4 != 0)
 (k [(D.val (Value.bool true))])
 (k [(D.val (Value.bool true))])))))))
 False))))
 False)
 (k [(D.val (Value.bool true))]))) ∨
 ((Says C 8 [] [(D.val (Value.bool false))]) ∧
 (k [(D.val (Value.bool false))]))) := by kernel_rfl
def gLEt (C : Ct) (L : AtLoop) (x0 : Int) (x1 : Int) (x3 : Int) (x4 : Int) (x5 : Int) (x6 : Int) (n7 : Nat) (c7 : Nat) (l7 : List Value) (k : List D → Prop) : Prop := wpFn Tryz.prog (hC C) L 0 5 #[.agg #[.int .i64 x0, .int .i64 x1, .slice none 0 0], .agg #[.int .i64 x3, .int .i64 x4, .int .i64 x5, .int .i64 x6], .slice (some ⟨500, 0, none⟩) n7 c7] (heapOf [(500, .sym l7 false 1)]) (dataK k)
theorem gLEt_text (C : Ct) (L : AtLoop) (x0 : Int) (x1 : Int) (x3 : Int) (x4 : Int) (x5 : Int) (x6 : Int) (n7 : Nat) (c7 : Nat) (l7 : List Go.Value) (k : List D → Prop) : gLEt C L x0 x1 x3 x4 x5 x6 n7 c7 l7 k =
 (((Says C 8 [] [(D.val (Value.bool true))]) ∧
 (∃ n1 : Int,
 ((Says C 34 [(D.agg [(D.val (vI x0)), (D.val (vI x1)), D.nil])] [(D.val (vI n1))]) ∧
 (bcase (n1 != 0)
 (k [(D.val (Value.bool true))])
 (∃ n2 : Int,
 ((Says C 17 [(D.agg [(D.val (vI x0)), (D.val (vI x1)), D.nil]), (D.val (vI x3))] [(D.val (vI n2))]) ∧
 (bcase (n2 != 0)
 (k [(D.val (Value.bool true))])
 (∃ n3 : Int,
 ((Says C 18 [(D.agg [(D.val (vI x4)), (D.val (vI x5))])] [(D.val (vI n3))]) ∧
 (bcase (n3 != 0)
 (k [(D.val (Value.bool true))])
 (bcase (decide ((↑n7 : Int) ≤ (↑0 : Int)))
 (k [(D.val (Value.bool true))])
 (bcase (decide ((↑n7 : Int) > 20))
 (k [(D.val (Value.bool true))])
 (bcase (decide (0 < (↑n7 : Int)))
 (∃ n4 : Int,
 ((At (l7) 0 1 [(vI n4)]) ∧
 ((((vI (IntKind.wrap .i64 (IntKind.wrap .i64 (x5 - x4) + 1))) = (vI (IntKind.wrap .i64 (IntKind.wrap .i64 (x5 - x4) + 1)))) ∧
 (((vI (IntKind.wrap .i64 (x5 - x4))) = (vI (IntKind.wrap .i64 (x5 - x4)))) ∧
 (((vI x4) = (vI x4)) ∧
 (((Go.Value.pointer (Option.some (Go.Addr.mk 1001 1 Option.none))) = (Go.Value.pointer (Option.some (Go.Addr.mk 1001 1 Option.none)))) ∧
 (((Go.Value.pointer (Option.some (Go.Addr.mk 1001 1 Option.none))) = (Go.Value.pointer (Option.some (Go.Addr.mk 1001 1 Option.none)))) ∧
 (((vI x5) = (vI x5)) ∧
 (((Go.Value.pointer (Option.some (Go.Addr.mk 1001 2 Option.none))) = (Go.Value.pointer (Option.some (Go.Addr.mk 1001 2 Option.none)))) ∧
 (((Go.Value.pointer (Option.some (Go.Addr.mk 1001 1 Option.none))) = (Go.Value.pointer (Option.some (Go.Addr.mk 1001 1 Option.none)))) ∧
 ((∃ n5 : Int,
 ((At (l7) 0 1 [(vI n5)]) ∧
 ((vI n5) = (vI n4)))) ∧
 ((bcase (decide (0 < (↑n7 : Int)))
 ((Go.Value.pointer (Option.some (Go.Addr.mk 500 0 Option.none))) = (Go.Value.pointer (Option.some (Go.Addr.mk 500 0 Option.none))))
 False) ∧
 (((Go.Value.slice (Option.some (Go.Addr.mk 500 0 Option.none)) (n7) (c7)) = (Go.Value.slice (Option.some (Go.Addr.mk 500 0 Option.none)) (n7) (c7))) ∧
 (((vI x4) = (vI x4)) ∧
 (((Go.Value.pointer (Option.some (Go.Addr.mk 1001 1 Option.none))) = (Go.Value.pointer (Option.some (Go.Addr.mk 1001 1 Option.none)))) ∧
 (((Go.Value.pointer (Option.some (Go.Addr.mk 1001 1 Option.none))) = (Go.Value.pointer (Option.some (Go.Addr.mk 1001 1 Option.none)))) ∧
 True)))))))))))))) ∧
 (∃ n5 : Int,
 ((Says C 35 [(D.val (vI n4)), (D.val (vI (IntKind.wrap .i64 (IntKind.wrap .i64 (x5 - x4) + 1))))] [(D.val (vI n5))]) ∧
 ((((vI (IntKind.wrap .i64 (x4 + n5))) = (vI (IntKind.wrap .i64 (x4 + n5)))) ∧
 (((vI (IntKind.wrap .i64 (x5 - x4))) = (vI (IntKind.wrap .i64 (x5 - x4)))) ∧
 (((vI x4) = (vI x4)) ∧
 (((Go.Value.pointer (Option.some (Go.Addr.mk 1001 1 Option.none))) = (Go.Value.pointer (Option.some (Go.Addr.mk 1001 1 Option.none)))) ∧
 (((Go.Value.pointer (Option.some (Go.Addr.mk 1001 1 Option.none))) = (Go.Value.pointer (Option.some (Go.Addr.mk 1001 1 Option.none)))) ∧
 (((vI x5) = (vI x5)) ∧
 (((Go.Value.pointer (Option.some (Go.Addr.mk 1001 2 Option.none))) = (Go.Value.pointer (Option.some (Go.Addr.mk 1001 2 Option.none)))) ∧
 (((Go.Value.pointer (Option.some (Go.Addr.mk 1001 1 Option.none))) = (Go.Value.pointer (Option.some (Go.Addr.mk 1001 1 Option.none)))) ∧
 ((bcase (decide (0 < (↑n7 : Int)))
 ((Go.Value.pointer (Option.some (Go.Addr.mk 500 0 Option.none))) = (Go.Value.pointer (Option.some (Go.Addr.mk 500 0 Option.none))))
 False) ∧
 (((Go.Value.slice (Option.some (Go.Addr.mk 500 0 Option.none)) (n7) (c7)) = (Go.Value.slice (Option.some (Go.Addr.mk 500 0 Option.none)) (n7) (c7))) ∧
 (((vI x4) = (vI x4)) ∧
 (((Go.Value.pointer (Option.some (Go.Addr.mk 1001 1 Option.none))) = (Go.Value.pointer (Option.some (Go.Addr.mk 1001 1 Option.none)))) ∧
 (((Go.Value.pointer (Option.some (Go.Addr.mk 1001 1 Option.none))) = (Go.Value.pointer (Option.some (Go.Addr.mk 1001 1 Option.none)))) ∧
 True))))))))))))) ∧
 (True ∧
 ((Says C 11 [(D.agg [(D.val (vI x0)), (D.val (vI x1)), D.nil])] [(D.agg [(D.val (vI x0)), (D.val (vI x1)), (D.sl 0 3 [])])]) ∧
 (L 0 [(Prod.mk 2 (Go.Value.slice (Option.some (Go.Addr.mk 500 0 Option.none)) (n7) (c7))), (Prod.mk 3 (Go.Value.pointer (Option.some (Go.Addr.mk 1000 0 Option.none)))), (Prod.mk 4 (Go.Value.pointer (Option.some (Go.Addr.mk 1001 0 Option.none)))), (Prod.mk 7 (vI (IntKind.wrap .i64 (x4 + n5)))), (Prod.mk 8 (Go.Value.slice Option.none 0 0)), (Prod.mk 9 (Go.Value.pointer (Option.some (Go.Addr.mk 1002 0 Option.none)))), (Prod.mk 10 (vI (0 : Int)))] [(Prod.mk 500 (AObj.sym (l7) false 1)), (Prod.mk 1000 (AObj.cells [(vI x0), (vI x1), (Go.Value.slice Option.none 0 0)] 24 false 1)), (Prod.mk 1001 (AObj.cells [(vI x3), (vI x4), (vI x5), (vI x6)] 28 false 1)), (Prod.mk 1002 (AObj.cells [(vI x0), (vI x1), (Go.Value.slice (Option.some (Go.Addr.mk 1003 0 Option.none)) 0 0)] 24 false 3)), (Prod.mk 1003 (AObj.sym [] true 3))])))))))))
 False))))))))))))) ∨
 ((Says C 8 [] [(D.val (Value.bool false))]) ∧
 (k [(D.val (Value.bool false))]))) := by kernel_rfl
def gLEu (C : Ct) (L : AtLoop) (x0 : Int) (x1 : Int) (x3 : Int) (x4 : Int) (x5 : Int) (x6 : Int) (k : List D → Prop) : Prop := wpFn Tryz.prog (hC C) L 0 5 #[.agg #[.int .i64 x0, .int .i64 x1, .slice none 0 0], .agg #[.int .i64 x3, .int .i64 x4, .int .i64 x5, .int .i64 x6], .slice none 0 0] (heapOf []) (dataK k)
theorem gLEu_text (C : Ct) (L : AtLoop) (x0 : Int) (x1 : Int) (x3 : Int) (x4 : Int) (x5 : Int) (x6 : Int) (k : List D → Prop) : gLEu C L x0 x1 x3 x4 x5 x6 k =
 (((Says C 8 [] [(D.val (Value.bool true))]) ∧
 (∃ n1 : Int,
 ((Says C 34 [(D.agg [(D.val (vI x0)), (D.val (vI x1)), D.nil])] [(D.val (vI n1))]) ∧
 (bcase (n1 != 0)
 (k [(D.val (Value.bool true))])
 (∃ n2 : Int,
 ((Says C 17 [(D.agg [(D.val (vI x0)), (D.val (vI x1)), D.nil]), (D.val (vI x3))] [(D.val (vI n2))]) ∧
 (bcase (n2 != 0)
 (k [(D.val (Value.bool true))])
 (∃ n3 : Int,
 ((Says C 18 [(D.agg [(D.val (vI x4)), (D.val (vI x5))])] [(D.val (vI n3))]) ∧
 (bcase (n3 != 0)
 (k [(D.val (Value.bool true))])
 (k [(D.val (Value.bool true))]))))))))))) ∨
 ((Says C 8 [] [(D.val (Value.bool false))]) ∧
 (k [(D.val (Value.bool false))]))) := by kernel_rfl
end Go.Proofs.G5c

/- Chapter 8: hotter strip never leaves colder, more water never hotter; no program in it. -/
namespace Go.Proofs.G8
open Go Go.Abs
theorem stp_mono {w a r r' d d' : Int} {on : Bool} (hr : 0 ≤ r' ∧ r' ≤ r ∧ r ≤ 1000) (hd : d ≤ d') : stp w a on r d ≤ stp w a on r' d' := by
  cases on with
  | false =>
    rw [stp_off (by simp), stp_off (by simp)]
    split <;> split <;> omega
  | true =>
    by_cases h1 : d > w
    · have h2 : d' > w := by omega
      rw [stp_on h1, stp_on h2]
      have e1 : (d' - w) * r' ≤ (d' - w) * r := Int.mul_le_mul_of_nonneg_left hr.2.1 (by omega)
      have e2 : (d' - w) * r = (d - w) * r + (d' - d) * r := by rw [← Int.add_mul]; congr 1; omega
      have e3 : (d' - d) * r ≤ (d' - d) * 1000 := Int.mul_le_mul_of_nonneg_left hr.2.2 (by omega)
      generalize (d' - w) * r' = Y at *
      generalize (d - w) * r = X at *
      split <;> split <;> omega
    · by_cases h2 : d' > w
      · rw [stp_off (fun h => h1 h.2), stp_on h2]
        have e1 : (d' - w) * r' ≤ (d' - w) * 1000 := Int.mul_le_mul_of_nonneg_left (by omega) (by omega)
        generalize (d' - w) * r' = Y at *
        split <;> split <;> omega
      · rw [stp_off (fun h => h1 h.2), stp_off (fun h => h2 h.2)]
        split <;> split <;> omega
theorem stp_more {w a r d : Int} {on on' : Bool} (hr : 0 ≤ r) (h : on' = true → on = true) : stp w a on r d ≤ stp w a on' r d := by
  cases on with
  | false =>
    cases on' with
    | false => exact Int.le_refl _
    | true => exact absurd (h rfl) (by decide)
  | true =>
    cases on' with
    | true => exact Int.le_refl _
    | false =>
      rw [stp_off (show ¬ (false = true ∧ d > w) by simp)]
      by_cases h1 : d > w
      · rw [stp_on h1]
        have := Int.mul_nonneg (show 0 ≤ d - w by omega) hr
        generalize (d - w) * r = X at *
        split <;> split <;> omega
      · rw [stp_off (fun h => h1 h.2)]
        exact Int.le_refl _
inductive Le2 : List Int → List Int → Prop
  | nil : Le2 [] []
  | cons {x y : Int} {xs ys : List Int} (h : 0 ≤ y ∧ y ≤ x ∧ x ≤ 1000) (t : Le2 xs ys) : Le2 (x :: xs) (y :: ys)
theorem aft_mono {w a s s' : Int} {xs ys : List Int} (h : Le2 xs ys) : ∀ {b : Nat} {d d' : Int}, (∀ k, k < b + xs.length → inB s' k = true → inB s k = true) → d ≤ d' → aft w a s b xs d ≤ aft w a s' b ys d' := by
  induction h with
  | nil => intro b d d' _ hd; exact hd
  | @cons x y xs ys h t ih =>
    intro b d d' hs hd
    rw [aft, aft]
    refine ih (fun k hk => hs k (by rw [List.length_cons]; omega)) ?_
    exact Int.le_trans (stp_more (by omega) (hs b (by rw [List.length_cons]; omega))) (stp_mono h hd)
theorem le2_of : ∀ {xs ys : List Int}, xs.length = ys.length → (∀ k, k < xs.length → 0 ≤ ys.getD k 0 ∧ ys.getD k 0 ≤ xs.getD k 0 ∧ xs.getD k 0 ≤ 1000) → Le2 xs ys
  | [], [], _, _ => .nil
  | x :: xs, y :: ys, hl, h => .cons (by have := h 0 (by simp); simpa using this) (le2_of (by simpa using hl) (fun k hk => by have := h (k + 1) (by simpa using hk); simpa using this))
  | [], y :: ys, hl, _ => by simp at hl
  | x :: xs, [], hl, _ => by simp at hl
/-- a further bank -/
def orS (s : Int) (b : Nat) : Int := IntKind.wrap .i64 (↑(BitVec.toNat (BitVec.ofInt 64 s ||| BitVec.ofInt 64 (IntKind.wrap .i64 (1 * 2 ^ Min.min (Int.toNat (b : Int)) 64)))) : Int)
def orOK (s b : Nat) : Bool := decide (0 ≤ orS (s : Int) b) && ((List.range 5).all fun n => !(decide (b < n)) || !(decide ((s : Int) ≤ 2 ^ n - 1)) || decide (orS (s : Int) b ≤ 2 ^ n - 1)) && ((List.range 4).all fun k => !(inB (s : Int) k) || inB (orS (s : Int) b) k)
theorem orAll : ((List.range 16).all fun s => (List.range 4).all fun b => orOK s b) = true := by kernel_rfl
theorem or_ok {s : Int} {b n : Nat} (hb : b < n) (hn : n ≤ 4) (h0 : 0 ≤ s) (hs : s ≤ 2 ^ n - 1) (h16 : s < 16) : (0 ≤ orS s b ∧ orS s b ≤ 2 ^ n - 1) ∧ ∀ k, k < 4 → inB s k = true → inB (orS s b) k = true := by
  obtain ⟨m, rfl⟩ := Int.eq_ofNat_of_zero_le h0
  have h := List.all_eq_true.1 (List.all_eq_true.1 orAll m (List.mem_range.2 (by omega))) b (List.mem_range.2 (by omega))
  unfold orOK at h
  simp only [Bool.and_eq_true, decide_eq_true_eq] at h
  obtain ⟨⟨h1, h2⟩, h3⟩ := h
  have h2 := List.all_eq_true.1 h2 n (List.mem_range.2 (by omega))
  simp only [Bool.or_eq_true, Bool.not_eq_true', decide_eq_false_iff_not, decide_eq_true_eq] at h2
  refine ⟨⟨h1, ?_⟩, fun k hk hi => ?_⟩
  · rcases h2 with (h | h) | h
    · exact absurd hb h
    · exact absurd hs h
    · exact h
  · have h3 := List.all_eq_true.1 h3 k (List.mem_range.2 hk)
    rw [hi] at h3
    simpa using h3
end Go.Proofs.G8

/- Chapter 8: the law on enclosed segments, in data. -/
namespace Go.Proofs.G5c
open Go Go.Abs Go.Proofs Go.Proofs.G8
set_option maxRecDepth 100000
theorem tmod_pos {a n : Int} (hn : 0 < n) : (if a.tmod n < 0 then a.tmod n + n else a.tmod n) = a % n := by
  rw [Int.tmod_eq_emod]
  have h0 := Int.emod_nonneg a (show n ≠ 0 by omega)
  have h1 := Int.emod_lt_of_pos a hn
  have hn2 : (n.natAbs : Int) = n := by omega
  split
  · split <;> omega
  · rename_i h
    have hne : a % n ≠ 0 := fun e => h (.inr (Int.dvd_of_emod_eq_zero e))
    rw [if_pos (by omega)]; omega
theorem conMo (a n : Int) (hn : 0 < n ∧ n ≤ 4611686018427387904) : C5 35 [dI a, dI n] [dI (a % n)] := by
  refine con_flat hokC mixed Tryz.func35 rfl (by show 0 ≤ 400; omega) rfl (by kernel_rfl) (fun caps => ?_)
  show gMo _ _ a n _
  have h0 := Int.natAbs_tmod a n
  have h1 : a.natAbs % n.natAbs < n.natAbs := Nat.mod_lt _ (by omega)
  rw [gMo_text, bc_n (show n ≠ 0 by omega), w64 (by omega) (by omega), ← tmod_pos hn.1]
  refine bc_dec (fun h => ?_) (fun h => ?_)
  · rw [if_pos h] <;> trivial
  · rw [if_neg h] <;> trivial
/-! ### the rates that are picked -/
def Rk (l : List Tr) (p : List Int) (k : Nat) : Int := (tp l k).1 + gd p (k + 1) % ((tp l k).2.1 - (tp l k).1 + 1)
abbrev Rl (l : List Tr) (p : List Int) : List Int := (List.range l.length).map (Rk l p)
abbrev El (l : List Tr) (p : List Int) : List Tr := (List.range l.length).map fun k => (Rk l p k, Rk l p k, (tp l k).2.2)
theorem gd_Rl {l : List Tr} {p : List Int} {k : Nat} (h : k < l.length) : gd (Rl l p) k = Rk l p k := by
  rw [← gd_at (show k < (Rl l p).length by simpa using h)]; simp
theorem tp_El {l : List Tr} {p : List Int} {k : Nat} (h : k < l.length) : tp (El l p) k = (Rk l p k, Rk l p k, (tp l k).2.2) := by
  rw [← tp_at (show k < (El l p).length by simpa using h)]; simp
theorem his_El (l : List Tr) (p : List Int) : his (El l p) = Rl l p := by simp [his, El, Rl]
theorem los_El (l : List Tr) (p : List Int) : los (El l p) = Rl l p := by simp [los, El, Rl]
theorem Rk_bd {w a : Int} {l : List Tr} (h : TV w a l) {p : List Int} {k : Nat} (hk : k < l.length) : 0 ≤ (tp l k).1 ∧ (tp l k).1 ≤ Rk l p k ∧ Rk l p k ≤ (tp l k).2.1 ∧ (tp l k).2.1 ≤ 1000 := by
  have hb := (h.b0 _ (tp_mem hk)).1
  have h0 := Int.emod_nonneg (gd p (k + 1)) (show (tp l k).2.1 - (tp l k).1 + 1 ≠ 0 by omega)
  have h1 := Int.emod_lt_of_pos (gd p (k + 1)) (show 0 < (tp l k).2.1 - (tp l k).1 + 1 by omega)
  unfold Rk
  omega
theorem TV.el {w a : Int} {l : List Tr} (h : TV w a l) (p : List Int) : TV w a (El l p) := by
  refine ⟨h.w0, h.a0, by simpa using h.n0, ?_⟩
  intro q hq
  obtain ⟨k, hk, rfl⟩ := List.mem_map.1 hq
  have hk := List.mem_range.1 hk
  have h1 := Rk_bd h (p := p) hk
  have h2 := (h.b0 _ (tp_mem hk)).2
  exact ⟨⟨by show 0 ≤ Rk l p k; omega, Int.le_refl _, by show Rk l p k ≤ 1000; omega⟩, h2⟩
theorem Rl_bd {w a : Int} {l : List Tr} (h : TV w a l) (p : List Int) : ∀ r ∈ Rl l p, 0 ≤ r ∧ r ≤ 1000 := by
  intro r hr
  obtain ⟨k, hk, rfl⟩ := List.mem_map.1 hr
  have h1 := Rk_bd h (p := p) (List.mem_range.1 hk)
  omega
theorem le_hi {w a : Int} {l : List Tr} (h : TV w a l) (p : List Int) : Le2 (his l) (Rl l p) := by
  refine le2_of (by simp) (fun k hk => ?_)
  have hk : k < l.length := by simpa using hk
  have h1 := Rk_bd h (p := p) hk
  have e1 : (his l).getD k 0 = (tp l k).2.1 := gd_hi hk
  have e2 : (Rl l p).getD k 0 = Rk l p k := gd_Rl hk
  rw [e1, e2]; omega
theorem le_lo {w a : Int} {l : List Tr} (h : TV w a l) (p : List Int) : Le2 (Rl l p) (los l) := by
  refine le2_of (by simp) (fun k hk => ?_)
  have hk : k < l.length := by simpa using hk
  have h1 := Rk_bd h (p := p) hk
  have e1 : (los l).getD k 0 = (tp l k).1 := gd_lo hk
  have e2 : (Rl l p).getD k 0 = Rk l p k := gd_Rl hk
  rw [e1, e2]; omega
theorem le_self {rs : List Int} (h : ∀ r ∈ rs, 0 ≤ r ∧ r ≤ 1000) : Le2 rs rs := by
  induction rs with
  | nil => exact .nil
  | cons r rs ih => exact .cons (by have := h r (List.mem_cons_self ..); omega) (ih fun x hx => h x (List.mem_cons_of_mem _ hx))
theorem trs_app : ∀ l m : List Tr, trs (l ++ m) = trs l ++ trs m
  | [], m => rfl
  | p :: r, m => by simp only [List.cons_append, trs, trs_app r m]
theorem set_E {l : List Tr} {p : List Int} {i : Nat} (h : i < l.length) : listSet (trs ((El l p).take i ++ l.drop i)) (0 + i * 3) [vI (Rk l p i), vI (Rk l p i)] = trs ((El l p).take (i + 1) ++ l.drop (i + 1)) := by
  have hE : i < (El l p).length := by simpa using h
  have hA : ((El l p).take i).length = i := by rw [List.length_take]; omega
  have hT : (trs ((El l p).take i)).length = i * 3 := by rw [trs_length, hA]
  rw [List.take_succ_eq_append_getElem hE, List.drop_eq_getElem_cons h, tp_at hE, tp_at h, tp_El h, trs_app, trs_app, trs_app]
  show listSet (trs ((El l p).take i) ++ (vI (tp l i).1 :: vI (tp l i).2.1 :: vI (tp l i).2.2 :: trs (l.drop (i + 1)))) (0 + i * 3) [vI (Rk l p i), vI (Rk l p i)] = _
  unfold listSet
  rw [Nat.zero_add, ← hT, List.take_left' rfl, List.drop_append, List.drop_eq_nil_of_le (by simp)]
  have : (trs ((El l p).take i)).length + [vI (Rk l p i), vI (Rk l p i)].length - (trs ((El l p).take i)).length = 2 := by simp
  rw [this]
  simp [trs]
theorem len_E {l : List Tr} {p : List Int} {i : Nat} (h : i ≤ l.length) : (trs ((El l p).take i ++ l.drop i)).length = l.length * 3 := by
  rw [trs_length]; simp; omega
theorem at_tp01 {l : List Tr} {i : Nat} (h : i < l.length) : At (trs l) (0 + i * 3) 2 [vI (tp l i).1, vI (tp l i).2.1] := by
  refine ⟨by rw [trs_length]; omega, ?_⟩
  rw [Nat.zero_add, trs_drop, List.drop_eq_getElem_cons h, ← tp_at h]
  rfl
/-! ### the law -/
structure EV (w a : Int) (l : List Tr) (s x y : Int) (p : List Int) : Prop where
  t : TV w a l
  s0 : 0 ≤ s ∧ s ≤ 2 ^ l.length - 1
  d0 : 0 ≤ x ∧ x ≤ y ∧ y ≤ 12000
  p0 : l.length < p.length ∧ p.length ≤ 20
def dg (x y : Int) (p : List Int) : Int := x + gd p 0 % (y - x + 1)
theorem dg_bd {x y : Int} (h : 0 ≤ x ∧ x ≤ y ∧ y ≤ 12000) (p : List Int) : x ≤ dg x y p ∧ dg x y p ≤ y := by
  have h0 := Int.emod_nonneg (gd p 0) (show y - x + 1 ≠ 0 by omega)
  have h1 := Int.emod_lt_of_pos (gd p 0) (show 0 < y - x + 1 by omega)
  unfold dg
  omega
theorem conLE {w a : Int} {l : List Tr} {s x y : Int} {p : List Int} (g : Int) (h : EV w a l s x y p) : C5 5 [dT w a l, .agg [dI s, dI x, dI y, dI g], .sl p.length 1 (vi p)] [.val (.bool true)] := by
  have hn := h.t.n0
  have hp := h.p0
  have hd := h.d0
  have hdg := dg_bd hd p
  have h16 := set16 hn.2 h.s0
  let st0 : Nat × Nat × Nat → Slots × Blocks := fun q => match q.1 with
    | 0 => zLE1 p.length q.2.1 (dg x y p) 0 (vi p) w a l.length q.2.2 s x y g w a l.length (trs l) (trs ((El l p).take 0 ++ l.drop 0))
    | i + 1 => zLE2 p.length q.2.1 (dg x y p) (i + 1) ((i + 1 : Nat) : Int) (vi p) w a l.length q.2.2 s x y g (vi ((Rl l p).take (i + 1))) w a l.length (trs l) (trs ((El l p).take (i + 1) ++ l.drop (i + 1)))
  let st2 : Nat × Nat → Slots × Blocks := fun q => zLE5 q.1 w a l.length q.2 s x y g (aft w a s 0 (his l) x) (aft w a s 0 (los l) y) (trs l)
  refine con_of (L := fun id s b => match id with | 0 => ∃ q : Nat × Nat × Nat, q.1 ≤ l.length ∧ st0 q = (s, b) | _ => ∃ q : Nat × Nat, q.1 ≤ l.length ∧ st2 q = (s, b)) hokC mixed Tryz.func5 rfl (by show 2 ≤ 400; omega) rfl (ids := [0, 2]) (by kernel_rfl) rfl (fun caps => ?_) (fun id hid => ?_)
  · show gLE _ _ w a l.length (caps 500) (trs l) s x y g p.length (caps 501) (vi p) _
    rw [gLE_text]
    refine .inl ⟨⟨conAw⟩, ?_⟩
    have a0 : At (vi p) 0 1 [vI (gd p 0)] := by
      have := at_gd (l := p) (i := 0) (by omega)
      simpa using this
    have e1 : IntKind.wrap .i64 (IntKind.wrap .i64 (y - x) + 1) = y - x + 1 := by rw [w64 (z := y - x) (by omega) (by omega), w64 (by omega) (by omega)]
    simp only [bc_t (show (l.length : Int) ≤ 6 by omega), bc_t (v3le l), trs_whole, bc_f (show ¬ (p.length : Int) ≤ (l.length : Int) by omega), bc_f (show ¬ (p.length : Int) > 20 by omega), bc_t (show (0 : Int) < (p.length : Int) by omega), at1 a0, e1, eq_self, true_and, and_true]
    refine ⟨_, ⟨conTE w a l (by omega)⟩, bc_bne (fun hh => absurd (ctE_ok.2 h.t) hh) (fun _ => ⟨_, ⟨conSE w a l hn.2 s⟩, bc_bne (fun hh => absurd (setE_ok.2 h.s0) hh) (fun _ => ⟨_, ⟨conDE x y⟩, bc_bne (fun hh => absurd (degE_ok.2 hd) hh) (fun _ => ?_)⟩)⟩)⟩
    refine ⟨_, ⟨conMo _ _ ⟨by omega, by omega⟩⟩, ⟨conCy w a l (by omega)⟩, (0, caps 501, caps 500), Nat.zero_le _, ?_⟩
    have e2 : IntKind.wrap .i64 (x + gd p 0 % (y - x + 1)) = dg x y p := by
      have : x + gd p 0 % (y - x + 1) = dg x y p := rfl
      rw [this, w64 (by omega) (by omega)]
    rw [e2]; rfl
  · have hid : id = 0 ∨ id = 2 := by simpa using hid
    rcases hid with rfl | rfl
    · refine ⟨Nat × Nat × Nat, st0, fun q => q.1 ≤ l.length, fun q => l.length - q.1, ⟨fun s b h => h, by kernel_rfl, ?_⟩⟩
      rintro ⟨i, c1, c2⟩ hi
      have hi : i ≤ l.length := hi
      have e9 : ∀ {i : Nat}, i < l.length → IntKind.wrap .i64 (IntKind.wrap .i64 ((tp l i).2.1 - (tp l i).1) + 1) = (tp l i).2.1 - (tp l i).1 + 1 := fun {i} h1 => by
        have hb := h.t.b0 _ (tp_mem h1)
        rw [w64 (z := (tp l i).2.1 - (tp l i).1) (by omega) (by omega), w64 (by omega) (by omega)]
      have e8 : ∀ {i : Nat}, i < l.length → IntKind.wrap .i64 ((tp l i).1 + gd p (i + 1) % ((tp l i).2.1 - (tp l i).1 + 1)) = Rk l p i := fun {i} h1 => by
        have hb := Rk_bd h.t (p := p) h1
        have : (tp l i).1 + gd p (i + 1) % ((tp l i).2.1 - (tp l i).1 + 1) = Rk l p i := rfl
        rw [this, w64 (by omega) (by omega)]
      have a9 : ∀ (z : Int) (Q : Int → Prop), (∃ n : Int, At [vI z] (0 + 0 * 1) 1 [vI n] ∧ Q n) = Q z := fun z Q => at1 ⟨by simp, rfl⟩
      cases i with
      | zero =>
        have h0 : 0 < l.length := by omega
        have hb := h.t.b0 _ (tp_mem h0)
        show rLE1 _ _ p.length c1 (dg x y p) ((0 : Nat) : Int) (vi p) w a l.length c2 s x y g w a l.length (trs l) (trs ((El l p).take 0 ++ l.drop 0)) _ _ _
        rw [rLE1_text]
        have ap : At (vi p) (0 + 1 * 1) 1 [vI (gd p (0 + 1))] := at_gd (by omega)
        have hset := set_E (p := p) h0
        have hlen := len_E (p := p) (Nat.zero_le l.length)
        simp only [bc_t (show ((0 : Nat) : Int) < (l.length : Int) by omega), bc_t (show (0 : Int) ≤ ((0 : Nat) : Int) by omega), Int.toNat_natCast, at2 (at_tp01 h0), wi1 h0 (show l.length < 1000000000 by omega), bc_t (show (0 : Int) ≤ ((0 + 1 : Nat) : Int) by omega), bc_t (show ((0 + 1 : Nat) : Int) < (p.length : Int) by omega), at1 ap, e9 h0, bc_t (show ((0 : Nat) : Int) < (1 : Int) by omega), a9, bc_t (show 0 + 0 * 3 + 2 ≤ (trs ((El l p).take 0 ++ l.drop 0)).length by omega), eq_self, true_and, and_true]
        refine ⟨_, ⟨conMo _ _ ⟨by omega, by omega⟩⟩, ?_⟩
        simp only [e8 h0, hset]
        refine ⟨(1, c1, c2), h0, by show l.length - 1 < l.length - 0; omega, ?_⟩
        have e1 : vi ((Rl l p).take 1) = [vI (Rk l p 0)] := by
          rw [← vi_snoc (L := Rl l p) (i := 0) (by simpa using h0), gd_Rl h0]; simp [vi]
        show zLE2 _ _ _ _ _ _ _ _ _ _ _ _ _ _ _ _ _ _ _ _ = _
        rw [e1]
      | succ i =>
        show rLE2 _ _ p.length c1 (dg x y p) (i + 1) ((i + 1 : Nat) : Int) (vi p) w a l.length c2 s x y g (vi ((Rl l p).take (i + 1))) w a l.length (trs l) (trs ((El l p).take (i + 1) ++ l.drop (i + 1))) _ _ _
        rw [rLE2_text]
        have eR : (vi ((Rl l p).take (i + 1))).length = i + 1 := by simp; omega
        refine bc_dec (fun h1 => ?_) (fun h1 => ?_)
        · have h0 : i + 1 < l.length := by omega
          have hb := h.t.b0 _ (tp_mem h0)
          have ap : At (vi p) (0 + (i + 1 + 1) * 1) 1 [vI (gd p (i + 1 + 1))] := at_gd (by omega)
          have hset := set_E (p := p) h0
          have hlen := len_E (p := p) (show i + 1 ≤ l.length by omega)
          have f1 := vi_snoc (L := Rl l p) (i := i + 1) (by simpa using h0)
          rw [gd_Rl h0] at f1
          simp only [bc_t h1, bc_t (show (0 : Int) ≤ ((i + 1 : Nat) : Int) by omega), Int.toNat_natCast, at2 (at_tp01 h0), wi1 h0 (show l.length < 1000000000 by omega), bc_t (show (0 : Int) ≤ ((i + 1 + 1 : Nat) : Int) by omega), bc_t (show ((i + 1 + 1 : Nat) : Int) < (p.length : Int) by omega), at1 ap, e9 h0, bc_t (show ((i + 1 : Nat) : Int) < ((i + 1 + 1 : Nat) : Int) by omega), bc_t (show 0 + (i + 1) * 3 + 2 ≤ (trs ((El l p).take (i + 1) ++ l.drop (i + 1))).length by omega), bc_t (show i + 1 < i + 1 + 1 by omega), bc_t (show (2 * (i + 1 + 1) + 768) * 8 ≤ 281474976710656 by omega), bc_t (show i + 1 + 1 ≤ 1099511627776 by omega), bc_t (show 0 + (i + 1) * 1 ≤ (vi ((Rl l p).take (i + 1))).length by omega), bc_t (show 0 + (i + 1) * 1 = (vi ((Rl l p).take (i + 1))).length by omega), eq_self, true_and, and_true]
          refine ⟨_, ⟨conMo _ _ ⟨by omega, by omega⟩⟩, ?_⟩
          have aR : At (vi ((Rl l p).take (i + 1 + 1))) (0 + (i + 1) * 1) 1 [vI (Rk l p (i + 1))] := by
            have hR : i + 1 < ((Rl l p).take (i + 1 + 1)).length := by simp; omega
            have := at_gd hR
            have e : gd ((Rl l p).take (i + 1 + 1)) (i + 1) = Rk l p (i + 1) := by
              rw [← gd_at hR, List.getElem_take]
              simp
            rwa [e] at this
          simp only [e8 h0, f1, at1 aR, hset, eq_self, true_and]
          exact ⟨(i + 2, c1, c2), h0, by show l.length - (i + 2) < l.length - (i + 1); omega, rfl⟩
        · show (if 0 = 0 then _ else _)
          rw [if_pos rfl]
          have hl : i + 1 = l.length := by omega
          have t1 : (Rl l p).take (i + 1) = Rl l p := List.take_of_length_le (by simp; omega)
          have t2 : (El l p).take (i + 1) ++ l.drop (i + 1) = El l p := by
            rw [List.take_of_length_le (by simp; omega), List.drop_eq_nil_of_le (by omega), List.append_nil]
          show nLE4 _ _ p.length c1 (dg x y p) (i + 1) (vi p) w a l.length c2 s x y g (vi ((Rl l p).take (i + 1))) w a l.length (trs l) (trs ((El l p).take (i + 1) ++ l.drop (i + 1))) _
          rw [nLE4_text, t1, t2, hl]
          have hE := h.t.el p
          have nE : (El l p).length = l.length := by simp
          have nR : (Rl l p).length = l.length := by simp
          have hP := conPB w a l (by omega) s x y
          rw [pbR, if_pos (pbE_ok.2 ⟨h.t, h.s0, hd⟩)] at hP
          have hA := conAf h.t s (dg x y p) h16 (by omega) (Rl l p) nR (Rl_bd h.t p)
          have hQ := fun (z : Int) (hz : 0 ≤ z ∧ z ≤ z ∧ z ≤ 12000) => by
            have hQ := conPB w a (El l p) (by omega) s z z
            rw [pbR, if_pos (pbE_ok.2 ⟨hE, by rw [nE]; exact h.s0, hz⟩), his_El, los_El] at hQ
            exact hQ
          have hC := conCy w a (El l p) (by omega)
          have v1 := vi_whole (Rl l p)
          have l1 := v1le (Rl l p)
          have v3 := trs_whole (El l p)
          have l3 := v3le (El l p)
          have ap : At (vi p) (0 + (p.length - 1) * 1) 1 [vI (gd p (p.length - 1))] := at_gd (by omega)
          have e1 : IntKind.wrap .i64 ((p.length : Int) - 1) = ((p.length - 1 : Nat) : Int) := by rw [w64 (by omega) (by omega)]; omega
          have hm0 := Int.emod_nonneg (gd p (p.length - 1)) (show (1000 : Int) ≠ 0 by omega)
          have hm1 := Int.emod_lt_of_pos (gd p (p.length - 1)) (show (0 : Int) < 1000 by omega)
          rw [dT, nE] at hC hQ
          rw [nR] at hA v1 l1
          rw [nE] at v3 l3
          have m1 := aft_mono (w := w) (a := a) (s := s) (s' := s) (le_hi h.t p) (b := 0) (d := x) (d' := dg x y p) (fun _ _ q => q) hdg.1
          have m2 := aft_mono (w := w) (a := a) (s := s) (s' := s) (le_lo h.t p) (b := 0) (d := dg x y p) (d' := y) (fun _ _ q => q) hdg.2
          simp only [bc_t (v3le l), trs_whole, bc_t l1, v1, bc_t l3, v3, e1, bc_t (show (0 : Int) ≤ ((p.length - 1 : Nat) : Int) by omega), bc_t (show ((p.length - 1 : Nat) : Int) < (p.length : Int) by omega), Int.toNat_natCast, at1 ap, eq_self, true_and, and_true]
          refine ⟨⟨conCy w a l (by omega)⟩, _, _, _, ⟨hP⟩, _, ⟨hA⟩, bc_bne (fun hh => absurd rfl hh) (fun _ => .inl ⟨sayWt ⟨m1, m2⟩, ⟨hC⟩, _, _, _, ⟨hQ (dg x y p) ⟨by omega, Int.le_refl _, by omega⟩⟩, bc_bne (fun hh => absurd rfl hh) (fun _ => ?_)⟩)⟩
          have eq1 : ∀ z : Int, (!(z == z && (z == z && true))) = false := by intro z; simp
          rw [if_pos trivial, eq1, bcF]
          refine ⟨_, ⟨conMo _ _ ⟨by omega, by omega⟩⟩, ⟨hC⟩, ?_⟩
          rw [w64 (z := dg x y p + gd p (p.length - 1) % 1000) (by omega) (by omega)]
          have hh0 : dg x y p ≤ (if dg x y p + gd p (p.length - 1) % 1000 < 12000 then dg x y p + gd p (p.length - 1) % 1000 else 12000) ∧ (if dg x y p + gd p (p.length - 1) % 1000 < 12000 then dg x y p + gd p (p.length - 1) % 1000 else 12000) ≤ 12000 := by split <;> omega
          generalize (if dg x y p + gd p (p.length - 1) % 1000 < 12000 then dg x y p + gd p (p.length - 1) % 1000 else 12000) = hot at hh0 ⊢
          refine ⟨_, _, _, ⟨hQ hot ⟨by omega, Int.le_refl _, hh0.2⟩⟩, bc_bne (fun hh => absurd rfl hh) (fun _ => bc_dec (fun hh => ?_) (fun _ => ⟨(0, c2), Nat.zero_le _, rfl⟩))⟩
          have := aft_mono (w := w) (a := a) (s := s) (s' := s) (le_self (Rl_bd h.t p)) (b := 0) (d := dg x y p) (d' := hot) (fun _ _ q => q) hh0.1
          omega
    · refine ⟨Nat × Nat, st2, fun q => q.1 ≤ l.length, fun q => l.length - q.1, ⟨fun s b h => h, by kernel_rfl, ?_⟩⟩
      rintro ⟨i, c2⟩ hi
      have hi : i ≤ l.length := hi
      show rLE5 _ _ i w a l.length c2 s x y g (aft w a s 0 (his l) x) (aft w a s 0 (los l) y) (trs l) _ _ _
      rw [rLE5_text]
      refine bc_dec (fun h1 => ?_) (fun h1 => ?_)
      · have hi1 : i < l.length := by omega
        have ho := or_ok (s := s) hi1 hn.2 h.s0.1 h.s0.2 h16.2
        have hpb : pbE w a l (orS s i) x y = 0 := pbE_ok.2 ⟨h.t, ho.1, hd⟩
        have hP := conPB w a l (by omega) (orS s i) x y
        rw [pbR, if_pos hpb] at hP
        simp only [bc_t (show (0 : Int) ≤ (i : Int) by omega), bc_t (v3le l), trs_whole, eq_self, true_and, and_true, wi1 hi1 (show l.length < 1000000000 by omega)]
        refine ⟨⟨conCy w a l (by omega)⟩, _, _, _, ⟨hP⟩, bc_bne (fun hh => absurd rfl hh) (fun _ => bc_dec (fun hh => ?_) (fun _ => bc_dec (fun hh => ?_) (fun _ => ?_)))⟩
        · have := aft_mono (w := w) (a := a) (s := orS s i) (s' := s) (le_self h.t.hi) (b := 0) (d := x) (d' := x) (fun k hk => ho.2 k (by simp at hk; omega)) (Int.le_refl _)
          omega
        · have := aft_mono (w := w) (a := a) (s := orS s i) (s' := s) (le_self h.t.lo) (b := 0) (d := y) (d' := y) (fun k hk => ho.2 k (by simp at hk; omega)) (Int.le_refl _)
          omega
        · exact ⟨(i + 1, c2), hi1, by show l.length - (i + 1) < l.length - i; omega, rfl⟩
      · show (if 2 = 2 then _ else _)
        rw [if_pos rfl]
        show nLE6 _ _ _
        rw [nLE6_text]
theorem conLEx {w a : Int} {l : List Tr} {s x y : Int} {p : List Int} (g : Int) (h : ¬ EV w a l s x y p) : C5 5 [dT w a l, .agg [dI s, dI x, dI y, dI g], .sl p.length 1 (vi p)] [.val (.bool true)] := by
  refine con_of (L := fun _ _ _ => False) hokC mixed Tryz.func5 rfl (by show 2 ≤ 400; omega) rfl (ids := [0, 2]) (by kernel_rfl) rfl (fun caps => ?_) (fun id hid => ?_)
  · show gLE _ _ w a l.length (caps 500) (trs l) s x y g p.length (caps 501) (vi p) _
    rw [gLE_text]
    refine .inl ⟨⟨conAw⟩, bc_dec (fun hn => ?_) (fun _ => by trivial)⟩
    simp only [bc_t (v3le l), trs_whole]
    refine ⟨_, ⟨conTE w a l (by omega)⟩, bc_bne (fun _ => by trivial) (fun h1 => ?_)⟩
    have ht := ctE_ok.1 h1
    refine ⟨_, ⟨conSE w a l ht.n0.2 s⟩, bc_bne (fun _ => by trivial) (fun h2 => ⟨_, ⟨conDE x y⟩, bc_bne (fun _ => by trivial) (fun h3 => bc_dec (fun _ => by trivial) (fun h4 => bc_dec (fun _ => by trivial) (fun h5 => ?_)))⟩)⟩
    exact absurd ⟨ht, setE_ok.1 h2, degE_ok.1 h3, by omega, by omega⟩ h
  · have hid : id = 0 ∨ id = 2 := by simpa using hid
    rcases hid with rfl | rfl
    · exact ⟨Nat, fun _ => ([], []), fun _ => False, fun _ => 0, ⟨fun s b h => h.elim, by kernel_rfl, fun j hj => hj.elim⟩⟩
    · exact ⟨Nat, fun _ => ([], []), fun _ => False, fun _ => 0, ⟨fun s b h => h.elim, by kernel_rfl, fun j hj => hj.elim⟩⟩
theorem conLEn (w a : Int) (l : List Tr) (s x y g : Int) : C5 5 [dT w a l, .agg [dI s, dI x, dI y, dI g], .nil] [.val (.bool true)] := by
  refine con_of (L := fun _ _ _ => False) hokC mixed Tryz.func5 rfl (by show 1 ≤ 400; omega) rfl (ids := [0, 2]) (by kernel_rfl) rfl (fun caps => ?_) (fun id hid => ?_)
  · show gLEn _ _ w a l.length (caps 500) (trs l) s x y g _
    rw [gLEn_text]
    refine .inl ⟨⟨conAw⟩, bc_dec (fun hn => ?_) (fun _ => by trivial)⟩
    simp only [bc_t (v3le l), trs_whole]
    refine ⟨_, ⟨conTE w a l (by omega)⟩, bc_bne (fun _ => by trivial) (fun h1 => ?_)⟩
    have ht := ctE_ok.1 h1
    exact ⟨_, ⟨conSE w a l ht.n0.2 s⟩, bc_bne (fun _ => by trivial) (fun h2 => ⟨_, ⟨conDE x y⟩, bc_bne (fun _ => by trivial) (fun h3 => by trivial)⟩)⟩
  · have hid : id = 0 ∨ id = 2 := by simpa using hid
    rcases hid with rfl | rfl
    · exact ⟨Nat, fun _ => ([], []), fun _ => False, fun _ => 0, ⟨fun s b h => h.elim, by kernel_rfl, fun j hj => hj.elim⟩⟩
    · exact ⟨Nat, fun _ => ([], []), fun _ => False, fun _ => 0, ⟨fun s b h => h.elim, by kernel_rfl, fun j hj => hj.elim⟩⟩
theorem conLEt (w a : Int) (s x y g : Int) (p : List Int) : C5 5 [.agg [dI w, dI a, .nil], .agg [dI s, dI x, dI y, dI g], .sl p.length 1 (vi p)] [.val (.bool true)] := by
  refine con_of (L := fun _ _ _ => False) hokC mixed Tryz.func5 rfl (by show 1 ≤ 400; omega) rfl (ids := [0, 2]) (by kernel_rfl) rfl (fun caps => ?_) (fun id hid => ?_)
  · show gLEt _ _ w a s x y g p.length (caps 500) (vi p) _
    rw [gLEt_text]
    refine .inl ⟨⟨conAw⟩, _, ⟨conTEn w a⟩, bc_bne (fun _ => by trivial) (fun h1 => ?_)⟩
    have := (ctE_ok.1 h1).n0.1
    simp at this
  · have hid : id = 0 ∨ id = 2 := by simpa using hid
    rcases hid with rfl | rfl
    · exact ⟨Nat, fun _ => ([], []), fun _ => False, fun _ => 0, ⟨fun s b h => h.elim, by kernel_rfl, fun j hj => hj.elim⟩⟩
    · exact ⟨Nat, fun _ => ([], []), fun _ => False, fun _ => 0, ⟨fun s b h => h.elim, by kernel_rfl, fun j hj => hj.elim⟩⟩
theorem conLEu (w a : Int) (s x y g : Int) : C5 5 [.agg [dI w, dI a, .nil], .agg [dI s, dI x, dI y, dI g], .nil] [.val (.bool true)] := by
  refine con_of (L := fun _ _ _ => False) hokC mixed Tryz.func5 rfl (by show 0 ≤ 400; omega) rfl (ids := [0, 2]) (by kernel_rfl) rfl (fun caps => ?_) (fun id hid => ?_)
  · show gLEu _ _ w a s x y g _
    rw [gLEu_text]
    refine .inl ⟨⟨conAw⟩, _, ⟨conTEn w a⟩, bc_bne (fun _ => by trivial) (fun h1 => ?_)⟩
    have := (ctE_ok.1 h1).n0.1
    simp at this
  · have hid : id = 0 ∨ id = 2 := by simpa using hid
    rcases hid with rfl | rfl
    · exact ⟨Nat, fun _ => ([], []), fun _ => False, fun _ => 0, ⟨fun s b h => h.elim, by kernel_rfl, fun j hj => hj.elim⟩⟩
    · exact ⟨Nat, fun _ => ([], []), fun _ => False, fun _ => 0, ⟨fun s b h => h.elim, by kernel_rfl, fun j hj => hj.elim⟩⟩
end Go.Proofs.G5c

/- CoolEnclosed: whatever the input, it returns true, and the input reads as it did. Condition: the listed library tables hold what the text of the program lays (the card ties that to the text). -/
namespace Go.Proofs.YtjimnhgpldmpnaaGreatDoor.K
open Go Go.Abs Go.RowKit Go.ChangeShapes Go.WideShapes Go.ChangeAt Go.Proofs Go.Flat Go.Proofs.G5c
set_option maxRecDepth 100000
namespace CoolEnclosed
abbrev shs : List Sh := [.agg [3, 3, 22], .agg [3, 3, 3, 3], .one 48]
theorem shapes : Tryz.f5.params.toList.mapM (argSh Tryz.prog) = some shs := by kernel_rfl
theorem all (ds : List D) (h : ShDs Tryz.prog shs ds) : Con Tryz.prog 5 ds [.val (.bool true)] := by
  cases h with | cons h1 t => cases t with | cons h2 t => cases t with | cons h3 t =>
  cases t
  obtain ⟨d1, rfl, h1⟩ := h1
  obtain ⟨d2, rfl, h2⟩ := h2
  cases h1 with | cons p1 t => cases t with | cons p2 t => cases t with | cons p3 t =>
  cases t
  cases h2 with | cons q1 t => cases t with | cons q2 t => cases t with | cons q3 t => cases t with | cons q4 t =>
  cases t
  obtain ⟨x1, rfl, _⟩ := leaf_int Tryz.underlying3 p1
  obtain ⟨x2, rfl, _⟩ := leaf_int Tryz.underlying3 p2
  obtain ⟨y1, rfl, _⟩ := leaf_int Tryz.underlying3 q1
  obtain ⟨y2, rfl, _⟩ := leaf_int Tryz.underlying3 q2
  obtain ⟨y3, rfl, _⟩ := leaf_int Tryz.underlying3 q3
  obtain ⟨y4, rfl, _⟩ := leaf_int Tryz.underlying3 q4
  rcases leaf_trs Tryz.underlying22 (by kernel_rfl) p3 with rfl | ⟨l, rfl⟩ <;> rcases leaf_ints Tryz.underlying48 (by kernel_rfl) h3 with rfl | ⟨p, rfl⟩
  · exact conLEu x1 x2 y1 y2 y3 y4
  · exact conLEt x1 x2 y1 y2 y3 y4 p
  · exact conLEn x1 x2 l y1 y2 y3 y4
  · by_cases hv : EV x1 x2 l y1 y2 y3 p
    · exact conLE y4 hv
    · exact conLEx y4 hv
def wArgs : Array Value := #[.agg #[.int .i64 0, .int .i64 0, .slice none 0 0], .agg #[.int .i64 0, .int .i64 0, .int .i64 0, .int .i64 0], .slice none 0 0]
theorem laid_met (os : Os) : laidMet Tryz.prog Rows.coolEnclosedRow.laid ((laidWorld os).forCall (fun _ _ => 0) ⟨#[], wArgs, []⟩).memory :=
  laidMet_of_run' 8 (by kernel_rfl) (by kernel_rfl)
theorem reads (os : Os) {H : Type} (enc : TypeId × Value → H) : ∃ places, DataW.whole enc Tryz.prog ((laidWorld os).forCall (fun _ _ => 0) ⟨#[], wArgs, []⟩).memory Tryz.f5.params.toList Rows.coolEnclosedSpec.vars false wArgs.toList 8 =
    some ([.agg [.lit (.int .i64 0), .lit (.int .i64 0), .nil], .agg [.lit (.int .i64 0), .agg [.lit (.int .i64 0), .lit (.int .i64 0)], .lit (.int .i64 0)], .nil], [], places) :=
  ⟨[], by kernel_rfl⟩
theorem lifted (os : Os) (started : os.Started) (H : Type) (enc : TypeId × Value → H) (F : Stop.Interp) :
    ReturnsInHanded {} Tryz.checked os 5 .any ((OpenSpec.ofChange Rows.coolEnclosedSpec).preRow enc Tryz.prog Tryz.f5 Rows.coolEnclosedRow.domain false Rows.coolEnclosedRow.laid) (((OpenSpec.ofChange Rows.coolEnclosedSpec).at F).post enc Tryz.prog Tryz.f5 false true false false) := by
  obtain ⟨places, hx⟩ := reads os enc
  refine returnsInHanded_of_row (C := Tryz.checked) (s := OpenSpec.ofChange Rows.coolEnclosedSpec) own started (by kernel_rfl) Tryz.func5
    (witness_row_at (enc := enc) (C := Tryz.checked) false (laidWorld os) wArgs rfl (by kernel_rfl) (by kernel_rfl) (by kernel_rfl)
      (OpenSpec.preRow_of_cond 8 hx (by kernel_rfl) (fun k hk => by cases hk) (by kernel_rfl) (laid_met os))) ?_
  intro W base args ds gs before hval hW _ _ _ _ _ _
  exact law_shapes (tb := 4) (s := Rows.coolEnclosedSpec) shapes all laidP mapsP slicesP (tsP (by kernel_rfl)) rfl Tryz.underlying4 rfl (fun ds h => by
    match ds, h with
    | [_, _, _], _ => exact ⟨rfl, rfl, rfl⟩) hval hW
theorem said : Rows.CoolEnclosedSaid :=
  OpenClaim.holds_of_cond 5 Tryz.f5 rfl rfl rfl rfl rfl rfl rfl ⟨rfl, rfl, rfl, rfl, rfl⟩ rfl rfl rfl rfl rfl (by kernel_rfl) Tryz.func5 (by kernel_rfl)
    (of_decide_eq_true (by kernel_rfl)) (by unfold Func.isWrapper; first | (rw [if_pos (by decide +kernel)]; kernel_rfl) | (rw [if_neg (by decide +kernel)]; exact ⟨rfl, rfl⟩))
    (fun os started H enc _ F => by rw [OpenClaim.pre_eq_preRow]; exact lifted os started H enc F)
theorem plain (f : FuncId) (fn : Func) (hf : Tryz.pinned.checked.prog.funcNamed "cobble/cobblelaw08.CoolEnclosed" = some f) (hfn : Tryz.pinned.checked.prog.funcs[f]? = some fn) :
    false = Tryz.pinned.checked.prog.looks [] ∧ ∀ (j : Nat) t, fn.params[j]? = some t → Tryz.pinned.checked.prog.wantsStandIn t = false := by
  obtain rfl : f = 5 := Option.some.inj ((show Tryz.prog.funcNamed "cobble/cobblelaw08.CoolEnclosed" = some 5 by kernel_rfl).symm.trans hf) |>.symm
  obtain rfl : fn = Tryz.f5 := (Option.some.inj (Tryz.func5.symm.trans hfn)).symm
  exact ⟨by kernel_rfl, noStand (by kernel_rfl)⟩
theorem card : Rows.CoolEnclosedCardSaid :=
  Claim7.holds_tied_plain_at .later [] _ _ _ _ said (fun _ h => by cases h) (by kernel_rfl) (fun _ h => by cases h) coolEnclosed_row_tie rfl ⟨rfl, rfl⟩ (by kernel_rfl) rfl plain (by kernel_rfl)
#print axioms card
end CoolEnclosed
end Go.Proofs.YtjimnhgpldmpnaaGreatDoor.K
