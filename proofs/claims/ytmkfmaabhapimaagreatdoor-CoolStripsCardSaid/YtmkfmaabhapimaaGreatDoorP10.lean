/- Texts of the proof, put together: Gd8L, Gd8KS. -/
import Derived.Test.YtmkfmaabhapimaaGreatDoorP7
import Derived.Test.YtmkfmaabhapimaaGreatDoorGd8T6
import Derived.Test.YtmkfmaabhapimaaGreatDoorP6
/- Chapter 8: the law on strips, in data. -/
namespace Go.Proofs.G5d
open Go Go.Abs Go.Proofs Go.Proofs.G8
set_option maxRecDepth 100000
theorem dw3 (l : List Tr) : Dw l.length 3 (trs l) = .sl l.length 3 (trs l) := by simp only [Dw, Tk, trs_whole]
theorem dw2 (l : List Pr) : Dw l.length 2 (vp l) = .sl l.length 2 (vp l) := by simp only [Dw, Tk, vp_whole]
theorem dw1 (l : List Int) : Dw l.length 1 (vi l) = .sl l.length 1 (vi l) := by simp only [Dw, Tk, vi_whole]
theorem conBI (l : List Int) (hl : l.length < 1000000) : C5 18 [sI l, sI l] [.val (.bool true)] := by
  let st : Nat × Nat × Nat → Slots × Blocks := fun x => zBI1 l.length x.2.1 l.length x.2.2 x.1 (vi l) (vi l)
  refine con_of (L := fun _ s b => ∃ x : Nat × Nat × Nat, x.1 ≤ l.length ∧ st x = (s, b)) hokC mixed Tryz.func18 rfl (by show 2 ≤ 400; omega) rfl (ids := [0]) (by kernel_rfl) rfl (fun caps => ?_) (fun id hid => ?_)
  · show gBI _ _ l.length (caps 500) (vi l) l.length (caps 501) (vi l) _
    rw [gBI_text]
    exact bc_bne (fun h => absurd rfl h) (fun _ => ⟨(0, caps 500, caps 501), Nat.zero_le _, rfl⟩)
  · obtain rfl := List.mem_singleton.1 hid
    refine ⟨Nat × Nat × Nat, st, fun x => x.1 ≤ l.length, fun x => l.length - x.1, ⟨fun s b h => h, by kernel_rfl, ?_⟩⟩
    rintro ⟨i, c1, c2⟩ hi
    have hi : i ≤ l.length := hi
    show rBI1 _ _ l.length c1 l.length c2 (i : Int) (vi l) (vi l) _ _ _
    rw [rBI1_text]
    refine bc_dec (fun h => ?_) (fun h => ?_)
    · have h1 : i < l.length := by omega
      simp only [bc_t h, bc_t (show (0 : Int) ≤ (i : Int) by omega), Int.toNat_natCast, at1 (at_gd h1), eq_self, true_and, and_true, wi1 h1 (show l.length < 1000000000 by omega)]
      refine bc_bne (fun hc => absurd rfl hc) (fun _ => ⟨bc_bne (fun hc => absurd rfl hc) (fun _ => trivial), (i + 1, c1, c2), h1, by show l.length - (i + 1) < l.length - i; omega, rfl⟩)
    · show (if 0 = 0 then _ else _)
      rw [if_pos rfl]
      show nBI2 _ _ _
      rw [nBI2_text]
theorem neq2 (a b : Int) : (!(a == a && (b == b && true))) = false := by simp
theorem conBR (l : List Pr) (hl : l.length < 1000000) : C5 16 [sR l, sR l] [.val (.bool true)] := by
  let st : Nat × Nat × Nat → Slots × Blocks := fun x => zBR1 l.length x.2.1 l.length x.2.2 x.1 (vp l) (vp l)
  refine con_of (L := fun _ s b => ∃ x : Nat × Nat × Nat, x.1 ≤ l.length ∧ st x = (s, b)) hokC mixed Tryz.func16 rfl (by show 2 ≤ 400; omega) rfl (ids := [0]) (by kernel_rfl) rfl (fun caps => ?_) (fun id hid => ?_)
  · show gBR _ _ l.length (caps 500) (vp l) l.length (caps 501) (vp l) _
    rw [gBR_text]
    exact bc_bne (fun h => absurd rfl h) (fun _ => ⟨(0, caps 500, caps 501), Nat.zero_le _, rfl⟩)
  · obtain rfl := List.mem_singleton.1 hid
    refine ⟨Nat × Nat × Nat, st, fun x => x.1 ≤ l.length, fun x => l.length - x.1, ⟨fun s b h => h, by kernel_rfl, ?_⟩⟩
    rintro ⟨i, c1, c2⟩ hi
    have hi : i ≤ l.length := hi
    show rBR1 _ _ l.length c1 l.length c2 (i : Int) (vp l) (vp l) _ _ _
    rw [rBR1_text]
    refine bc_dec (fun h => ?_) (fun h => ?_)
    · have h1 : i < l.length := by omega
      simp only [bc_t h, bc_t (show (0 : Int) ≤ (i : Int) by omega), Int.toNat_natCast, at2 (at_pt h1), eq_self, true_and, and_true, if_true, neq2, bcF, wi1 h1 (show l.length < 1000000000 by omega)]
      exact ⟨(i + 1, c1, c2), h1, by show l.length - (i + 1) < l.length - i; omega, rfl⟩
    · show (if 0 = 0 then _ else _)
      rw [if_pos rfl]
      show nBR2 _ _ _
      rw [nBR2_text]
def zsE (l : List Tr) (E : List Pr) (s : List Int) : Int := if s.length ≠ E.length then 10 else coL l 0 s
theorem conZS' {w a : Int} {l : List Tr} {E T : List Pr} {s : List Int} {ds : D} (ht : TV w a l) (hs : skE E T = 0) (hd : InD s ds) : C5 15 [dT w a l, .agg [sR E, sR T], ds] [dI (zsE l E s)] := by
  have hk := sk_len hs
  cases hd with
  | sl =>
    refine con_flat hokC mixed Tryz.func15 rfl (by show 4 ≤ 400; omega) rfl (by kernel_rfl) (fun caps => ?_)
    show gZS _ _ w a l.length (caps 500) (trs l) E.length (caps 501) (vp E) T.length (caps 502) (vp T) s.length (caps 503) (vi s) _
    rw [gZS_text]
    refine bc_bne (fun h => ?_) (fun h => ?_)
    · show _ = _; rw [zsE, if_pos (by omega)]
    · simp only [bc_t (v3le l), bc_t (v1le s), trs_whole, vi_whole]
      refine ⟨_, ⟨conZE ht s ⟨by omega, by omega⟩⟩, ?_⟩
      rw [zsE, if_neg (by omega)]
  | nil =>
    refine con_flat hokC mixed Tryz.func15 rfl (by show 3 ≤ 400; omega) rfl (by kernel_rfl) (fun caps => ?_)
    show gZSn _ _ w a l.length (caps 500) (trs l) E.length (caps 501) (vp E) T.length (caps 502) (vp T) _
    rw [gZSn_text]
    refine bc_bne (fun h => ?_) (fun h => ?_)
    · show _ = _; rw [zsE, if_pos (by simp; omega)]
    · have h : (0 : Int) = (E.length : Int) := h
      omega
theorem conCy' {w a : Int} {l : List Tr} {dl : D} (h : TbD w a l dl) (hl : l.length ≤ 1000000) : C5 10 [dl] [dT w a l] := by
  cases h with
  | sl => exact conCy w a l hl
  | nil => exact conCyn w a
theorem conCI' {s : List Int} {ds : D} (h : InD s ds) (hs : s.length ≤ 1000000) : C5 11 [ds] [sI s] := by
  cases h with
  | sl => exact conCI s hs
  | nil => exact conCIn
theorem prE_both {w a : Int} {l : List Tr} {E T : List Pr} {s : List Int} (h : bothE w a l E T ≠ 0) : prE w a l E T s = bothE w a l E T := by
  rw [bothE_of] at h ⊢
  unfold prE
  by_cases h1 : ctE w a l = 0
  · rw [if_pos h1] at h ⊢
    rw [if_neg (fun hh => hh h1), if_pos h]
  · rw [if_neg h1, if_pos h1]
theorem prE_sets {w a : Int} {l : List Tr} {E T : List Pr} {s : List Int} (h : bothE w a l E T = 0) : TV w a l ∧ skE E T = 0 ∧ prE w a l E T s = zsE l E s := by
  rw [bothE_of] at h
  by_cases h1 : ctE w a l = 0
  · rw [if_pos h1] at h
    refine ⟨ctE_ok.1 h1, h, ?_⟩
    unfold prE zsE
    rw [if_neg (fun hh => hh h1), if_neg (fun hh => hh h)]
  · rw [if_neg h1] at h; exact absurd h h1
theorem conLS (w a : Int) (l : List Tr) (E : List Pr) (T : List Pr) (s : List Int) (hp : ¬ PV w a l E T s) : C5 3 [dT w a l, .agg [sR E, sR T], sI s] [.val (.bool true)] := by
  refine con_flat hokC mixed Tryz.func3 rfl (by show 4 ≤ 400; omega) rfl (by kernel_rfl) (fun caps => ?_)
  show gLS _ _ w a l.length (caps 500) (trs l) E.length (caps 501) (vp E) T.length (caps 502) (vp T) s.length (caps 503) (vi s) _
  rw [gLS_text]
  refine .inl ⟨⟨conAw⟩, ?_⟩
  refine bc_dec (fun g1 => ?_) (fun _ => by trivial)
  refine bc_dec (fun g2 => ?_) (fun _ => by trivial)
  refine bc_dec (fun g3 => ?_) (fun _ => by trivial)
  refine bc_dec (fun g4 => ?_) (fun _ => by trivial)
  simp only [bc_t (v3le l), trs_whole, dw3 l, bc_t (v2le E), dw2 E, bc_t (v2le T), dw2 T, vp_whole, bc_t (v1le s), vi_whole, dw1 s, eq_self, true_and, and_true]
  have hp : prE w a l E T s ≠ 0 := fun hh => hp (prE_ok.1 hh)
  refine ⟨⟨conCs' (SlD.sl E) (SlD.sl T) (by omega) (by omega)⟩, _, _, ⟨conSK E T (by omega)⟩, ⟨conCy' (TbD.sl l) (by omega)⟩, ⟨conCs' (SlD.sl E) (SlD.sl T) (by omega) (by omega)⟩, ⟨conCI' (InD.sl s) (by omega)⟩, .inl ⟨_, ⟨conEOx hp (by omega) (by omega) (by omega)⟩, ⟨conCy' (TbD.sl l) (by omega)⟩, ⟨conCs' (SlD.sl E) (SlD.sl T) (by omega) (by omega)⟩, ⟨conCI' (InD.sl s) (by omega)⟩, .inl ⟨_, ⟨conAOx hp (by omega) (by omega) (by omega)⟩, _, _, ⟨conRS' (SlD.sl E) (SlD.sl T) (by omega)⟩, bc_bne (fun hh => absurd rfl hh) (fun _ => bc_bne (fun hh => absurd rfl hh) (fun _ => ⟨_, ⟨conBE' (TbD.sl l) (SlD.sl E) (SlD.sl T) (by omega) (by omega)⟩, ?_⟩))⟩⟩⟩
  by_cases hb : bothE w a l E T = 0
  · have hz := prE_sets (s := s) hb
    rw [hz.2.2] at hp ⊢
    exact bc_beq (fun _ => ⟨_, ⟨conZS' hz.1 hz.2.1 (InD.sl s)⟩, bc_bne (fun _ => bc_beq (fun _ => bc_beq (fun _ => by trivial) (fun hh => absurd rfl hh)) (fun hh => absurd rfl hh)) (fun hh => absurd hh hp)⟩) (fun hh => absurd hb hh)
  · rw [prE_both hb]
    exact bc_beq (fun hh => absurd hh hb) (fun _ => bc_bne (fun _ => bc_beq (fun _ => bc_beq (fun _ => by trivial) (fun hh => absurd rfl hh)) (fun hh => absurd rfl hh)) (fun hh => absurd hh hb))
theorem conLSn (w a : Int) (l : List Tr) (E : List Pr) (T : List Pr) : C5 3 [dT w a l, .agg [sR E, sR T], .nil] [.val (.bool true)] := by
  refine con_flat hokC mixed Tryz.func3 rfl (by show 3 ≤ 400; omega) rfl (by kernel_rfl) (fun caps => ?_)
  show gLSn _ _ w a l.length (caps 500) (trs l) E.length (caps 501) (vp E) T.length (caps 502) (vp T) _
  rw [gLSn_text]
  refine .inl ⟨⟨conAw⟩, ?_⟩
  refine bc_dec (fun g1 => ?_) (fun _ => by trivial)
  refine bc_dec (fun g2 => ?_) (fun _ => by trivial)
  refine bc_dec (fun g3 => ?_) (fun _ => by trivial)
  simp only [bc_t (v3le l), trs_whole, dw3 l, bc_t (v2le E), dw2 E, bc_t (v2le T), dw2 T, vp_whole, eq_self, true_and, and_true]
  have hp : prE w a l E T ([] : List Int) ≠ 0 := fun hh => by
    have h := prE_ok.1 hh
    have h1 := h.t.n0.1
    have h2 := sk_len h.sv
    have h3 := h.n
    simp only [List.length_nil] at h1 h2 h3
    omega
  refine ⟨⟨conCs' (SlD.sl E) (SlD.sl T) (by omega) (by omega)⟩, _, _, ⟨conSK E T (by omega)⟩, ⟨conCy' (TbD.sl l) (by omega)⟩, ⟨conCs' (SlD.sl E) (SlD.sl T) (by omega) (by omega)⟩, ⟨conCI' InD.nil (by simp)⟩, .inl ⟨_, ⟨conEOx hp (by omega) (by omega) (by simp)⟩, ⟨conCy' (TbD.sl l) (by omega)⟩, ⟨conCs' (SlD.sl E) (SlD.sl T) (by omega) (by omega)⟩, ⟨conCI' InD.nil (by simp)⟩, .inl ⟨_, ⟨conAOx hp (by omega) (by omega) (by simp)⟩, _, _, ⟨conRS' (SlD.sl E) (SlD.sl T) (by omega)⟩, bc_bne (fun hh => absurd rfl hh) (fun _ => bc_bne (fun hh => absurd rfl hh) (fun _ => ⟨_, ⟨conBE' (TbD.sl l) (SlD.sl E) (SlD.sl T) (by omega) (by omega)⟩, ?_⟩))⟩⟩⟩
  by_cases hb : bothE w a l E T = 0
  · have hz := prE_sets (s := ([] : List Int)) hb
    rw [hz.2.2] at hp ⊢
    exact bc_beq (fun _ => ⟨_, ⟨conZS' hz.1 hz.2.1 InD.nil⟩, bc_bne (fun _ => bc_beq (fun _ => bc_beq (fun _ => by trivial) (fun hh => absurd rfl hh)) (fun hh => absurd rfl hh)) (fun hh => absurd hh hp)⟩) (fun hh => absurd hb hh)
  · rw [prE_both hb]
    exact bc_beq (fun hh => absurd hh hb) (fun _ => bc_bne (fun _ => bc_beq (fun _ => bc_beq (fun _ => by trivial) (fun hh => absurd rfl hh)) (fun hh => absurd rfl hh)) (fun hh => absurd hh hb))
theorem conLSa (w a : Int) (l : List Tr) (T : List Pr) (s : List Int) : C5 3 [dT w a l, .agg [.nil, sR T], sI s] [.val (.bool true)] := by
  refine con_flat hokC mixed Tryz.func3 rfl (by show 3 ≤ 400; omega) rfl (by kernel_rfl) (fun caps => ?_)
  show gLSa _ _ w a l.length (caps 500) (trs l) T.length (caps 501) (vp T) s.length (caps 502) (vi s) _
  rw [gLSa_text]
  refine .inl ⟨⟨conAw⟩, ?_⟩
  refine bc_dec (fun g1 => ?_) (fun _ => by trivial)
  refine bc_dec (fun g3 => ?_) (fun _ => by trivial)
  refine bc_dec (fun g4 => ?_) (fun _ => by trivial)
  simp only [bc_t (v3le l), trs_whole, dw3 l, bc_t (v2le T), dw2 T, vp_whole, bc_t (v1le s), vi_whole, dw1 s, eq_self, true_and, and_true]
  have hp : prE w a l ([] : List Pr) T s ≠ 0 := fun hh => by
    have h := prE_ok.1 hh
    have h1 := h.t.n0.1
    have h2 := sk_len h.sv
    have h3 := h.n
    simp only [List.length_nil] at h1 h2 h3
    omega
  refine ⟨⟨conCs' SlD.nil (SlD.sl T) (by simp) (by omega)⟩, _, _, ⟨conSK ([] : List Pr) T (by simp)⟩, ⟨conCy' (TbD.sl l) (by omega)⟩, ⟨conCs' SlD.nil (SlD.sl T) (by simp) (by omega)⟩, ⟨conCI' (InD.sl s) (by omega)⟩, .inl ⟨_, ⟨conEOx hp (by omega) (by simp) (by omega)⟩, ⟨conCy' (TbD.sl l) (by omega)⟩, ⟨conCs' SlD.nil (SlD.sl T) (by simp) (by omega)⟩, ⟨conCI' (InD.sl s) (by omega)⟩, .inl ⟨_, ⟨conAOx hp (by omega) (by simp) (by omega)⟩, _, _, ⟨conRS' SlD.nil (SlD.sl T) (by simp)⟩, bc_bne (fun hh => absurd rfl hh) (fun _ => bc_bne (fun hh => absurd rfl hh) (fun _ => ⟨_, ⟨conBE' (TbD.sl l) SlD.nil (SlD.sl T) (by omega) (by simp)⟩, ?_⟩))⟩⟩⟩
  by_cases hb : bothE w a l ([] : List Pr) T = 0
  · have hz := prE_sets (s := s) hb
    have h1 := hz.1.n0.1
    have h2 := sk_len hz.2.1
    simp only [List.length_nil] at h1 h2
    omega
  · rw [prE_both hb]
    exact bc_beq (fun hh => absurd hh hb) (fun _ => bc_bne (fun _ => bc_beq (fun _ => bc_beq (fun _ => by trivial) (fun hh => absurd rfl hh)) (fun hh => absurd rfl hh)) (fun hh => absurd hh hb))
theorem conLSan (w a : Int) (l : List Tr) (T : List Pr) : C5 3 [dT w a l, .agg [.nil, sR T], .nil] [.val (.bool true)] := by
  refine con_flat hokC mixed Tryz.func3 rfl (by show 2 ≤ 400; omega) rfl (by kernel_rfl) (fun caps => ?_)
  show gLSan _ _ w a l.length (caps 500) (trs l) T.length (caps 501) (vp T) _
  rw [gLSan_text]
  refine .inl ⟨⟨conAw⟩, ?_⟩
  refine bc_dec (fun g1 => ?_) (fun _ => by trivial)
  refine bc_dec (fun g3 => ?_) (fun _ => by trivial)
  simp only [bc_t (v3le l), trs_whole, dw3 l, bc_t (v2le T), dw2 T, vp_whole, eq_self, true_and, and_true]
  have hp : prE w a l ([] : List Pr) T ([] : List Int) ≠ 0 := fun hh => by
    have h := prE_ok.1 hh
    have h1 := h.t.n0.1
    have h2 := sk_len h.sv
    have h3 := h.n
    simp only [List.length_nil] at h1 h2 h3
    omega
  refine ⟨⟨conCs' SlD.nil (SlD.sl T) (by simp) (by omega)⟩, _, _, ⟨conSK ([] : List Pr) T (by simp)⟩, ⟨conCy' (TbD.sl l) (by omega)⟩, ⟨conCs' SlD.nil (SlD.sl T) (by simp) (by omega)⟩, ⟨conCI' InD.nil (by simp)⟩, .inl ⟨_, ⟨conEOx hp (by omega) (by simp) (by simp)⟩, ⟨conCy' (TbD.sl l) (by omega)⟩, ⟨conCs' SlD.nil (SlD.sl T) (by simp) (by omega)⟩, ⟨conCI' InD.nil (by simp)⟩, .inl ⟨_, ⟨conAOx hp (by omega) (by simp) (by simp)⟩, _, _, ⟨conRS' SlD.nil (SlD.sl T) (by simp)⟩, bc_bne (fun hh => absurd rfl hh) (fun _ => bc_bne (fun hh => absurd rfl hh) (fun _ => ⟨_, ⟨conBE' (TbD.sl l) SlD.nil (SlD.sl T) (by omega) (by simp)⟩, ?_⟩))⟩⟩⟩
  by_cases hb : bothE w a l ([] : List Pr) T = 0
  · have hz := prE_sets (s := ([] : List Int)) hb
    have h1 := hz.1.n0.1
    have h2 := sk_len hz.2.1
    simp only [List.length_nil] at h1 h2
    omega
  · rw [prE_both hb]
    exact bc_beq (fun hh => absurd hh hb) (fun _ => bc_bne (fun _ => bc_beq (fun _ => bc_beq (fun _ => by trivial) (fun hh => absurd rfl hh)) (fun hh => absurd rfl hh)) (fun hh => absurd hh hb))
theorem conLSb (w a : Int) (l : List Tr) (E : List Pr) (s : List Int) : C5 3 [dT w a l, .agg [sR E, .nil], sI s] [.val (.bool true)] := by
  refine con_flat hokC mixed Tryz.func3 rfl (by show 3 ≤ 400; omega) rfl (by kernel_rfl) (fun caps => ?_)
  show gLSb _ _ w a l.length (caps 500) (trs l) E.length (caps 501) (vp E) s.length (caps 502) (vi s) _
  rw [gLSb_text]
  refine .inl ⟨⟨conAw⟩, ?_⟩
  refine bc_dec (fun g1 => ?_) (fun _ => by trivial)
  refine bc_dec (fun g2 => ?_) (fun _ => by trivial)
  refine bc_dec (fun g4 => ?_) (fun _ => by trivial)
  simp only [bc_t (v3le l), trs_whole, dw3 l, bc_t (v2le E), dw2 E, vp_whole, bc_t (v1le s), vi_whole, dw1 s, eq_self, true_and, and_true]
  have hp : prE w a l E ([] : List Pr) s ≠ 0 := fun hh => by
    have h := prE_ok.1 hh
    have h1 := h.t.n0.1
    have h2 := sk_len h.sv
    have h3 := h.n
    simp only [List.length_nil] at h1 h2 h3
    omega
  refine ⟨⟨conCs' (SlD.sl E) SlD.nil (by omega) (by simp)⟩, _, _, ⟨conSK E ([] : List Pr) (by omega)⟩, ⟨conCy' (TbD.sl l) (by omega)⟩, ⟨conCs' (SlD.sl E) SlD.nil (by omega) (by simp)⟩, ⟨conCI' (InD.sl s) (by omega)⟩, .inl ⟨_, ⟨conEOx hp (by omega) (by omega) (by omega)⟩, ⟨conCy' (TbD.sl l) (by omega)⟩, ⟨conCs' (SlD.sl E) SlD.nil (by omega) (by simp)⟩, ⟨conCI' (InD.sl s) (by omega)⟩, .inl ⟨_, ⟨conAOx hp (by omega) (by omega) (by omega)⟩, _, _, ⟨conRS' (SlD.sl E) SlD.nil (by omega)⟩, bc_bne (fun hh => absurd rfl hh) (fun _ => bc_bne (fun hh => absurd rfl hh) (fun _ => ⟨_, ⟨conBE' (TbD.sl l) (SlD.sl E) SlD.nil (by omega) (by omega)⟩, ?_⟩))⟩⟩⟩
  by_cases hb : bothE w a l E ([] : List Pr) = 0
  · have hz := prE_sets (s := s) hb
    have h1 := hz.1.n0.1
    have h2 := sk_len hz.2.1
    simp only [List.length_nil] at h1 h2
    omega
  · rw [prE_both hb]
    exact bc_beq (fun hh => absurd hh hb) (fun _ => bc_bne (fun _ => bc_beq (fun _ => bc_beq (fun _ => by trivial) (fun hh => absurd rfl hh)) (fun hh => absurd rfl hh)) (fun hh => absurd hh hb))
theorem conLSbn (w a : Int) (l : List Tr) (E : List Pr) : C5 3 [dT w a l, .agg [sR E, .nil], .nil] [.val (.bool true)] := by
  refine con_flat hokC mixed Tryz.func3 rfl (by show 2 ≤ 400; omega) rfl (by kernel_rfl) (fun caps => ?_)
  show gLSbn _ _ w a l.length (caps 500) (trs l) E.length (caps 501) (vp E) _
  rw [gLSbn_text]
  refine .inl ⟨⟨conAw⟩, ?_⟩
  refine bc_dec (fun g1 => ?_) (fun _ => by trivial)
  refine bc_dec (fun g2 => ?_) (fun _ => by trivial)
  simp only [bc_t (v3le l), trs_whole, dw3 l, bc_t (v2le E), dw2 E, vp_whole, eq_self, true_and, and_true]
  have hp : prE w a l E ([] : List Pr) ([] : List Int) ≠ 0 := fun hh => by
    have h := prE_ok.1 hh
    have h1 := h.t.n0.1
    have h2 := sk_len h.sv
    have h3 := h.n
    simp only [List.length_nil] at h1 h2 h3
    omega
  refine ⟨⟨conCs' (SlD.sl E) SlD.nil (by omega) (by simp)⟩, _, _, ⟨conSK E ([] : List Pr) (by omega)⟩, ⟨conCy' (TbD.sl l) (by omega)⟩, ⟨conCs' (SlD.sl E) SlD.nil (by omega) (by simp)⟩, ⟨conCI' InD.nil (by simp)⟩, .inl ⟨_, ⟨conEOx hp (by omega) (by omega) (by simp)⟩, ⟨conCy' (TbD.sl l) (by omega)⟩, ⟨conCs' (SlD.sl E) SlD.nil (by omega) (by simp)⟩, ⟨conCI' InD.nil (by simp)⟩, .inl ⟨_, ⟨conAOx hp (by omega) (by omega) (by simp)⟩, _, _, ⟨conRS' (SlD.sl E) SlD.nil (by omega)⟩, bc_bne (fun hh => absurd rfl hh) (fun _ => bc_bne (fun hh => absurd rfl hh) (fun _ => ⟨_, ⟨conBE' (TbD.sl l) (SlD.sl E) SlD.nil (by omega) (by omega)⟩, ?_⟩))⟩⟩⟩
  by_cases hb : bothE w a l E ([] : List Pr) = 0
  · have hz := prE_sets (s := ([] : List Int)) hb
    have h1 := hz.1.n0.1
    have h2 := sk_len hz.2.1
    simp only [List.length_nil] at h1 h2
    omega
  · rw [prE_both hb]
    exact bc_beq (fun hh => absurd hh hb) (fun _ => bc_bne (fun _ => bc_beq (fun _ => bc_beq (fun _ => by trivial) (fun hh => absurd rfl hh)) (fun hh => absurd rfl hh)) (fun hh => absurd hh hb))
theorem conLSc (w a : Int) (l : List Tr) (s : List Int) : C5 3 [dT w a l, .agg [.nil, .nil], sI s] [.val (.bool true)] := by
  refine con_flat hokC mixed Tryz.func3 rfl (by show 2 ≤ 400; omega) rfl (by kernel_rfl) (fun caps => ?_)
  show gLSc _ _ w a l.length (caps 500) (trs l) s.length (caps 501) (vi s) _
  rw [gLSc_text]
  refine .inl ⟨⟨conAw⟩, ?_⟩
  refine bc_dec (fun g1 => ?_) (fun _ => by trivial)
  refine bc_dec (fun g4 => ?_) (fun _ => by trivial)
  simp only [bc_t (v3le l), trs_whole, dw3 l, bc_t (v1le s), vi_whole, dw1 s, eq_self, true_and, and_true]
  have hp : prE w a l ([] : List Pr) ([] : List Pr) s ≠ 0 := fun hh => by
    have h := prE_ok.1 hh
    have h1 := h.t.n0.1
    have h2 := sk_len h.sv
    have h3 := h.n
    simp only [List.length_nil] at h1 h2 h3
    omega
  refine ⟨⟨conCs' SlD.nil SlD.nil (by simp) (by simp)⟩, _, _, ⟨conSK ([] : List Pr) ([] : List Pr) (by simp)⟩, ⟨conCy' (TbD.sl l) (by omega)⟩, ⟨conCs' SlD.nil SlD.nil (by simp) (by simp)⟩, ⟨conCI' (InD.sl s) (by omega)⟩, .inl ⟨_, ⟨conEOx hp (by omega) (by simp) (by omega)⟩, ⟨conCy' (TbD.sl l) (by omega)⟩, ⟨conCs' SlD.nil SlD.nil (by simp) (by simp)⟩, ⟨conCI' (InD.sl s) (by omega)⟩, .inl ⟨_, ⟨conAOx hp (by omega) (by simp) (by omega)⟩, _, _, ⟨conRS' SlD.nil SlD.nil (by simp)⟩, bc_bne (fun hh => absurd rfl hh) (fun _ => bc_bne (fun hh => absurd rfl hh) (fun _ => ⟨_, ⟨conBE' (TbD.sl l) SlD.nil SlD.nil (by omega) (by simp)⟩, ?_⟩))⟩⟩⟩
  by_cases hb : bothE w a l ([] : List Pr) ([] : List Pr) = 0
  · have hz := prE_sets (s := s) hb
    have h1 := hz.1.n0.1
    have h2 := sk_len hz.2.1
    simp only [List.length_nil] at h1 h2
    omega
  · rw [prE_both hb]
    exact bc_beq (fun hh => absurd hh hb) (fun _ => bc_bne (fun _ => bc_beq (fun _ => bc_beq (fun _ => by trivial) (fun hh => absurd rfl hh)) (fun hh => absurd rfl hh)) (fun hh => absurd hh hb))
theorem conLScn (w a : Int) (l : List Tr) : C5 3 [dT w a l, .agg [.nil, .nil], .nil] [.val (.bool true)] := by
  refine con_flat hokC mixed Tryz.func3 rfl (by show 1 ≤ 400; omega) rfl (by kernel_rfl) (fun caps => ?_)
  show gLScn _ _ w a l.length (caps 500) (trs l) _
  rw [gLScn_text]
  refine .inl ⟨⟨conAw⟩, ?_⟩
  refine bc_dec (fun g1 => ?_) (fun _ => by trivial)
  simp only [bc_t (v3le l), trs_whole, dw3 l, eq_self, true_and, and_true]
  have hp : prE w a l ([] : List Pr) ([] : List Pr) ([] : List Int) ≠ 0 := fun hh => by
    have h := prE_ok.1 hh
    have h1 := h.t.n0.1
    have h2 := sk_len h.sv
    have h3 := h.n
    simp only [List.length_nil] at h1 h2 h3
    omega
  refine ⟨⟨conCs' SlD.nil SlD.nil (by simp) (by simp)⟩, _, _, ⟨conSK ([] : List Pr) ([] : List Pr) (by simp)⟩, ⟨conCy' (TbD.sl l) (by omega)⟩, ⟨conCs' SlD.nil SlD.nil (by simp) (by simp)⟩, ⟨conCI' InD.nil (by simp)⟩, .inl ⟨_, ⟨conEOx hp (by omega) (by simp) (by simp)⟩, ⟨conCy' (TbD.sl l) (by omega)⟩, ⟨conCs' SlD.nil SlD.nil (by simp) (by simp)⟩, ⟨conCI' InD.nil (by simp)⟩, .inl ⟨_, ⟨conAOx hp (by omega) (by simp) (by simp)⟩, _, _, ⟨conRS' SlD.nil SlD.nil (by simp)⟩, bc_bne (fun hh => absurd rfl hh) (fun _ => bc_bne (fun hh => absurd rfl hh) (fun _ => ⟨_, ⟨conBE' (TbD.sl l) SlD.nil SlD.nil (by omega) (by simp)⟩, ?_⟩))⟩⟩⟩
  by_cases hb : bothE w a l ([] : List Pr) ([] : List Pr) = 0
  · have hz := prE_sets (s := ([] : List Int)) hb
    have h1 := hz.1.n0.1
    have h2 := sk_len hz.2.1
    simp only [List.length_nil] at h1 h2
    omega
  · rw [prE_both hb]
    exact bc_beq (fun hh => absurd hh hb) (fun _ => bc_bne (fun _ => bc_beq (fun _ => bc_beq (fun _ => by trivial) (fun hh => absurd rfl hh)) (fun hh => absurd rfl hh)) (fun hh => absurd hh hb))
theorem conLSt (w a : Int) (E : List Pr) (T : List Pr) (s : List Int) : C5 3 [.agg [dI w, dI a, .nil], .agg [sR E, sR T], sI s] [.val (.bool true)] := by
  refine con_flat hokC mixed Tryz.func3 rfl (by show 3 ≤ 400; omega) rfl (by kernel_rfl) (fun caps => ?_)
  show gLSt _ _ w a E.length (caps 500) (vp E) T.length (caps 501) (vp T) s.length (caps 502) (vi s) _
  rw [gLSt_text]
  refine .inl ⟨⟨conAw⟩, ?_⟩
  refine bc_dec (fun g2 => ?_) (fun _ => by trivial)
  refine bc_dec (fun g3 => ?_) (fun _ => by trivial)
  refine bc_dec (fun g4 => ?_) (fun _ => by trivial)
  simp only [bc_t (v2le E), dw2 E, bc_t (v2le T), dw2 T, vp_whole, bc_t (v1le s), vi_whole, dw1 s, eq_self, true_and, and_true]
  have hp : prE w a ([] : List Tr) E T s ≠ 0 := fun hh => by
    have h := prE_ok.1 hh
    have h1 := h.t.n0.1
    have h2 := sk_len h.sv
    have h3 := h.n
    simp only [List.length_nil] at h1 h2 h3
    omega
  refine ⟨⟨conCs' (SlD.sl E) (SlD.sl T) (by omega) (by omega)⟩, _, _, ⟨conSK E T (by omega)⟩, ⟨conCy' TbD.nil (by simp)⟩, ⟨conCs' (SlD.sl E) (SlD.sl T) (by omega) (by omega)⟩, ⟨conCI' (InD.sl s) (by omega)⟩, .inl ⟨_, ⟨conEOx hp (by simp) (by omega) (by omega)⟩, ⟨conCy' TbD.nil (by simp)⟩, ⟨conCs' (SlD.sl E) (SlD.sl T) (by omega) (by omega)⟩, ⟨conCI' (InD.sl s) (by omega)⟩, .inl ⟨_, ⟨conAOx hp (by simp) (by omega) (by omega)⟩, _, _, ⟨conRS' (SlD.sl E) (SlD.sl T) (by omega)⟩, bc_bne (fun hh => absurd rfl hh) (fun _ => bc_bne (fun hh => absurd rfl hh) (fun _ => ⟨_, ⟨conBE' TbD.nil (SlD.sl E) (SlD.sl T) (by simp) (by omega)⟩, ?_⟩))⟩⟩⟩
  by_cases hb : bothE w a ([] : List Tr) E T = 0
  · have hz := prE_sets (s := s) hb
    have h1 := hz.1.n0.1
    have h2 := sk_len hz.2.1
    simp only [List.length_nil] at h1 h2
    omega
  · rw [prE_both hb]
    exact bc_beq (fun hh => absurd hh hb) (fun _ => bc_bne (fun _ => bc_beq (fun _ => bc_beq (fun _ => by trivial) (fun hh => absurd rfl hh)) (fun hh => absurd rfl hh)) (fun hh => absurd hh hb))
theorem conLStn (w a : Int) (E : List Pr) (T : List Pr) : C5 3 [.agg [dI w, dI a, .nil], .agg [sR E, sR T], .nil] [.val (.bool true)] := by
  refine con_flat hokC mixed Tryz.func3 rfl (by show 2 ≤ 400; omega) rfl (by kernel_rfl) (fun caps => ?_)
  show gLStn _ _ w a E.length (caps 500) (vp E) T.length (caps 501) (vp T) _
  rw [gLStn_text]
  refine .inl ⟨⟨conAw⟩, ?_⟩
  refine bc_dec (fun g2 => ?_) (fun _ => by trivial)
  refine bc_dec (fun g3 => ?_) (fun _ => by trivial)
  simp only [bc_t (v2le E), dw2 E, bc_t (v2le T), dw2 T, vp_whole, eq_self, true_and, and_true]
  have hp : prE w a ([] : List Tr) E T ([] : List Int) ≠ 0 := fun hh => by
    have h := prE_ok.1 hh
    have h1 := h.t.n0.1
    have h2 := sk_len h.sv
    have h3 := h.n
    simp only [List.length_nil] at h1 h2 h3
    omega
  refine ⟨⟨conCs' (SlD.sl E) (SlD.sl T) (by omega) (by omega)⟩, _, _, ⟨conSK E T (by omega)⟩, ⟨conCy' TbD.nil (by simp)⟩, ⟨conCs' (SlD.sl E) (SlD.sl T) (by omega) (by omega)⟩, ⟨conCI' InD.nil (by simp)⟩, .inl ⟨_, ⟨conEOx hp (by simp) (by omega) (by simp)⟩, ⟨conCy' TbD.nil (by simp)⟩, ⟨conCs' (SlD.sl E) (SlD.sl T) (by omega) (by omega)⟩, ⟨conCI' InD.nil (by simp)⟩, .inl ⟨_, ⟨conAOx hp (by simp) (by omega) (by simp)⟩, _, _, ⟨conRS' (SlD.sl E) (SlD.sl T) (by omega)⟩, bc_bne (fun hh => absurd rfl hh) (fun _ => bc_bne (fun hh => absurd rfl hh) (fun _ => ⟨_, ⟨conBE' TbD.nil (SlD.sl E) (SlD.sl T) (by simp) (by omega)⟩, ?_⟩))⟩⟩⟩
  by_cases hb : bothE w a ([] : List Tr) E T = 0
  · have hz := prE_sets (s := ([] : List Int)) hb
    have h1 := hz.1.n0.1
    have h2 := sk_len hz.2.1
    simp only [List.length_nil] at h1 h2
    omega
  · rw [prE_both hb]
    exact bc_beq (fun hh => absurd hh hb) (fun _ => bc_bne (fun _ => bc_beq (fun _ => bc_beq (fun _ => by trivial) (fun hh => absurd rfl hh)) (fun hh => absurd rfl hh)) (fun hh => absurd hh hb))
theorem conLSta (w a : Int) (T : List Pr) (s : List Int) : C5 3 [.agg [dI w, dI a, .nil], .agg [.nil, sR T], sI s] [.val (.bool true)] := by
  refine con_flat hokC mixed Tryz.func3 rfl (by show 2 ≤ 400; omega) rfl (by kernel_rfl) (fun caps => ?_)
  show gLSta _ _ w a T.length (caps 500) (vp T) s.length (caps 501) (vi s) _
  rw [gLSta_text]
  refine .inl ⟨⟨conAw⟩, ?_⟩
  refine bc_dec (fun g3 => ?_) (fun _ => by trivial)
  refine bc_dec (fun g4 => ?_) (fun _ => by trivial)
  simp only [bc_t (v2le T), dw2 T, vp_whole, bc_t (v1le s), vi_whole, dw1 s, eq_self, true_and, and_true]
  have hp : prE w a ([] : List Tr) ([] : List Pr) T s ≠ 0 := fun hh => by
    have h := prE_ok.1 hh
    have h1 := h.t.n0.1
    have h2 := sk_len h.sv
    have h3 := h.n
    simp only [List.length_nil] at h1 h2 h3
    omega
  refine ⟨⟨conCs' SlD.nil (SlD.sl T) (by simp) (by omega)⟩, _, _, ⟨conSK ([] : List Pr) T (by simp)⟩, ⟨conCy' TbD.nil (by simp)⟩, ⟨conCs' SlD.nil (SlD.sl T) (by simp) (by omega)⟩, ⟨conCI' (InD.sl s) (by omega)⟩, .inl ⟨_, ⟨conEOx hp (by simp) (by simp) (by omega)⟩, ⟨conCy' TbD.nil (by simp)⟩, ⟨conCs' SlD.nil (SlD.sl T) (by simp) (by omega)⟩, ⟨conCI' (InD.sl s) (by omega)⟩, .inl ⟨_, ⟨conAOx hp (by simp) (by simp) (by omega)⟩, _, _, ⟨conRS' SlD.nil (SlD.sl T) (by simp)⟩, bc_bne (fun hh => absurd rfl hh) (fun _ => bc_bne (fun hh => absurd rfl hh) (fun _ => ⟨_, ⟨conBE' TbD.nil SlD.nil (SlD.sl T) (by simp) (by simp)⟩, ?_⟩))⟩⟩⟩
  by_cases hb : bothE w a ([] : List Tr) ([] : List Pr) T = 0
  · have hz := prE_sets (s := s) hb
    have h1 := hz.1.n0.1
    have h2 := sk_len hz.2.1
    simp only [List.length_nil] at h1 h2
    omega
  · rw [prE_both hb]
    exact bc_beq (fun hh => absurd hh hb) (fun _ => bc_bne (fun _ => bc_beq (fun _ => bc_beq (fun _ => by trivial) (fun hh => absurd rfl hh)) (fun hh => absurd rfl hh)) (fun hh => absurd hh hb))
theorem conLStan (w a : Int) (T : List Pr) : C5 3 [.agg [dI w, dI a, .nil], .agg [.nil, sR T], .nil] [.val (.bool true)] := by
  refine con_flat hokC mixed Tryz.func3 rfl (by show 1 ≤ 400; omega) rfl (by kernel_rfl) (fun caps => ?_)
  show gLStan _ _ w a T.length (caps 500) (vp T) _
  rw [gLStan_text]
  refine .inl ⟨⟨conAw⟩, ?_⟩
  refine bc_dec (fun g3 => ?_) (fun _ => by trivial)
  simp only [bc_t (v2le T), dw2 T, vp_whole, eq_self, true_and, and_true]
  have hp : prE w a ([] : List Tr) ([] : List Pr) T ([] : List Int) ≠ 0 := fun hh => by
    have h := prE_ok.1 hh
    have h1 := h.t.n0.1
    have h2 := sk_len h.sv
    have h3 := h.n
    simp only [List.length_nil] at h1 h2 h3
    omega
  refine ⟨⟨conCs' SlD.nil (SlD.sl T) (by simp) (by omega)⟩, _, _, ⟨conSK ([] : List Pr) T (by simp)⟩, ⟨conCy' TbD.nil (by simp)⟩, ⟨conCs' SlD.nil (SlD.sl T) (by simp) (by omega)⟩, ⟨conCI' InD.nil (by simp)⟩, .inl ⟨_, ⟨conEOx hp (by simp) (by simp) (by simp)⟩, ⟨conCy' TbD.nil (by simp)⟩, ⟨conCs' SlD.nil (SlD.sl T) (by simp) (by omega)⟩, ⟨conCI' InD.nil (by simp)⟩, .inl ⟨_, ⟨conAOx hp (by simp) (by simp) (by simp)⟩, _, _, ⟨conRS' SlD.nil (SlD.sl T) (by simp)⟩, bc_bne (fun hh => absurd rfl hh) (fun _ => bc_bne (fun hh => absurd rfl hh) (fun _ => ⟨_, ⟨conBE' TbD.nil SlD.nil (SlD.sl T) (by simp) (by simp)⟩, ?_⟩))⟩⟩⟩
  by_cases hb : bothE w a ([] : List Tr) ([] : List Pr) T = 0
  · have hz := prE_sets (s := ([] : List Int)) hb
    have h1 := hz.1.n0.1
    have h2 := sk_len hz.2.1
    simp only [List.length_nil] at h1 h2
    omega
  · rw [prE_both hb]
    exact bc_beq (fun hh => absurd hh hb) (fun _ => bc_bne (fun _ => bc_beq (fun _ => bc_beq (fun _ => by trivial) (fun hh => absurd rfl hh)) (fun hh => absurd rfl hh)) (fun hh => absurd hh hb))
theorem conLStb (w a : Int) (E : List Pr) (s : List Int) : C5 3 [.agg [dI w, dI a, .nil], .agg [sR E, .nil], sI s] [.val (.bool true)] := by
  refine con_flat hokC mixed Tryz.func3 rfl (by show 2 ≤ 400; omega) rfl (by kernel_rfl) (fun caps => ?_)
  show gLStb _ _ w a E.length (caps 500) (vp E) s.length (caps 501) (vi s) _
  rw [gLStb_text]
  refine .inl ⟨⟨conAw⟩, ?_⟩
  refine bc_dec (fun g2 => ?_) (fun _ => by trivial)
  refine bc_dec (fun g4 => ?_) (fun _ => by trivial)
  simp only [bc_t (v2le E), dw2 E, vp_whole, bc_t (v1le s), vi_whole, dw1 s, eq_self, true_and, and_true]
  have hp : prE w a ([] : List Tr) E ([] : List Pr) s ≠ 0 := fun hh => by
    have h := prE_ok.1 hh
    have h1 := h.t.n0.1
    have h2 := sk_len h.sv
    have h3 := h.n
    simp only [List.length_nil] at h1 h2 h3
    omega
  refine ⟨⟨conCs' (SlD.sl E) SlD.nil (by omega) (by simp)⟩, _, _, ⟨conSK E ([] : List Pr) (by omega)⟩, ⟨conCy' TbD.nil (by simp)⟩, ⟨conCs' (SlD.sl E) SlD.nil (by omega) (by simp)⟩, ⟨conCI' (InD.sl s) (by omega)⟩, .inl ⟨_, ⟨conEOx hp (by simp) (by omega) (by omega)⟩, ⟨conCy' TbD.nil (by simp)⟩, ⟨conCs' (SlD.sl E) SlD.nil (by omega) (by simp)⟩, ⟨conCI' (InD.sl s) (by omega)⟩, .inl ⟨_, ⟨conAOx hp (by simp) (by omega) (by omega)⟩, _, _, ⟨conRS' (SlD.sl E) SlD.nil (by omega)⟩, bc_bne (fun hh => absurd rfl hh) (fun _ => bc_bne (fun hh => absurd rfl hh) (fun _ => ⟨_, ⟨conBE' TbD.nil (SlD.sl E) SlD.nil (by simp) (by omega)⟩, ?_⟩))⟩⟩⟩
  by_cases hb : bothE w a ([] : List Tr) E ([] : List Pr) = 0
  · have hz := prE_sets (s := s) hb
    have h1 := hz.1.n0.1
    have h2 := sk_len hz.2.1
    simp only [List.length_nil] at h1 h2
    omega
  · rw [prE_both hb]
    exact bc_beq (fun hh => absurd hh hb) (fun _ => bc_bne (fun _ => bc_beq (fun _ => bc_beq (fun _ => by trivial) (fun hh => absurd rfl hh)) (fun hh => absurd rfl hh)) (fun hh => absurd hh hb))
theorem conLStbn (w a : Int) (E : List Pr) : C5 3 [.agg [dI w, dI a, .nil], .agg [sR E, .nil], .nil] [.val (.bool true)] := by
  refine con_flat hokC mixed Tryz.func3 rfl (by show 1 ≤ 400; omega) rfl (by kernel_rfl) (fun caps => ?_)
  show gLStbn _ _ w a E.length (caps 500) (vp E) _
  rw [gLStbn_text]
  refine .inl ⟨⟨conAw⟩, ?_⟩
  refine bc_dec (fun g2 => ?_) (fun _ => by trivial)
  simp only [bc_t (v2le E), dw2 E, vp_whole, eq_self, true_and, and_true]
  have hp : prE w a ([] : List Tr) E ([] : List Pr) ([] : List Int) ≠ 0 := fun hh => by
    have h := prE_ok.1 hh
    have h1 := h.t.n0.1
    have h2 := sk_len h.sv
    have h3 := h.n
    simp only [List.length_nil] at h1 h2 h3
    omega
  refine ⟨⟨conCs' (SlD.sl E) SlD.nil (by omega) (by simp)⟩, _, _, ⟨conSK E ([] : List Pr) (by omega)⟩, ⟨conCy' TbD.nil (by simp)⟩, ⟨conCs' (SlD.sl E) SlD.nil (by omega) (by simp)⟩, ⟨conCI' InD.nil (by simp)⟩, .inl ⟨_, ⟨conEOx hp (by simp) (by omega) (by simp)⟩, ⟨conCy' TbD.nil (by simp)⟩, ⟨conCs' (SlD.sl E) SlD.nil (by omega) (by simp)⟩, ⟨conCI' InD.nil (by simp)⟩, .inl ⟨_, ⟨conAOx hp (by simp) (by omega) (by simp)⟩, _, _, ⟨conRS' (SlD.sl E) SlD.nil (by omega)⟩, bc_bne (fun hh => absurd rfl hh) (fun _ => bc_bne (fun hh => absurd rfl hh) (fun _ => ⟨_, ⟨conBE' TbD.nil (SlD.sl E) SlD.nil (by simp) (by omega)⟩, ?_⟩))⟩⟩⟩
  by_cases hb : bothE w a ([] : List Tr) E ([] : List Pr) = 0
  · have hz := prE_sets (s := ([] : List Int)) hb
    have h1 := hz.1.n0.1
    have h2 := sk_len hz.2.1
    simp only [List.length_nil] at h1 h2
    omega
  · rw [prE_both hb]
    exact bc_beq (fun hh => absurd hh hb) (fun _ => bc_bne (fun _ => bc_beq (fun _ => bc_beq (fun _ => by trivial) (fun hh => absurd rfl hh)) (fun hh => absurd rfl hh)) (fun hh => absurd hh hb))
theorem conLStc (w a : Int) (s : List Int) : C5 3 [.agg [dI w, dI a, .nil], .agg [.nil, .nil], sI s] [.val (.bool true)] := by
  refine con_flat hokC mixed Tryz.func3 rfl (by show 1 ≤ 400; omega) rfl (by kernel_rfl) (fun caps => ?_)
  show gLStc _ _ w a s.length (caps 500) (vi s) _
  rw [gLStc_text]
  refine .inl ⟨⟨conAw⟩, ?_⟩
  refine bc_dec (fun g4 => ?_) (fun _ => by trivial)
  simp only [bc_t (v1le s), vi_whole, dw1 s, eq_self, true_and, and_true]
  have hp : prE w a ([] : List Tr) ([] : List Pr) ([] : List Pr) s ≠ 0 := fun hh => by
    have h := prE_ok.1 hh
    have h1 := h.t.n0.1
    have h2 := sk_len h.sv
    have h3 := h.n
    simp only [List.length_nil] at h1 h2 h3
    omega
  refine ⟨⟨conCs' SlD.nil SlD.nil (by simp) (by simp)⟩, _, _, ⟨conSK ([] : List Pr) ([] : List Pr) (by simp)⟩, ⟨conCy' TbD.nil (by simp)⟩, ⟨conCs' SlD.nil SlD.nil (by simp) (by simp)⟩, ⟨conCI' (InD.sl s) (by omega)⟩, .inl ⟨_, ⟨conEOx hp (by simp) (by simp) (by omega)⟩, ⟨conCy' TbD.nil (by simp)⟩, ⟨conCs' SlD.nil SlD.nil (by simp) (by simp)⟩, ⟨conCI' (InD.sl s) (by omega)⟩, .inl ⟨_, ⟨conAOx hp (by simp) (by simp) (by omega)⟩, _, _, ⟨conRS' SlD.nil SlD.nil (by simp)⟩, bc_bne (fun hh => absurd rfl hh) (fun _ => bc_bne (fun hh => absurd rfl hh) (fun _ => ⟨_, ⟨conBE' TbD.nil SlD.nil SlD.nil (by simp) (by simp)⟩, ?_⟩))⟩⟩⟩
  by_cases hb : bothE w a ([] : List Tr) ([] : List Pr) ([] : List Pr) = 0
  · have hz := prE_sets (s := s) hb
    have h1 := hz.1.n0.1
    have h2 := sk_len hz.2.1
    simp only [List.length_nil] at h1 h2
    omega
  · rw [prE_both hb]
    exact bc_beq (fun hh => absurd hh hb) (fun _ => bc_bne (fun _ => bc_beq (fun _ => bc_beq (fun _ => by trivial) (fun hh => absurd rfl hh)) (fun hh => absurd rfl hh)) (fun hh => absurd hh hb))
theorem conLStcn (w a : Int) : C5 3 [.agg [dI w, dI a, .nil], .agg [.nil, .nil], .nil] [.val (.bool true)] := by
  refine con_flat hokC mixed Tryz.func3 rfl (by show 0 ≤ 400; omega) rfl (by kernel_rfl) (fun caps => ?_)
  show gLStcn _ _ w a _
  rw [gLStcn_text]
  refine .inl ⟨⟨conAw⟩, ?_⟩
  simp only [eq_self, true_and, and_true]
  have hp : prE w a ([] : List Tr) ([] : List Pr) ([] : List Pr) ([] : List Int) ≠ 0 := fun hh => by
    have h := prE_ok.1 hh
    have h1 := h.t.n0.1
    have h2 := sk_len h.sv
    have h3 := h.n
    simp only [List.length_nil] at h1 h2 h3
    omega
  refine ⟨⟨conCs' SlD.nil SlD.nil (by simp) (by simp)⟩, _, _, ⟨conSK ([] : List Pr) ([] : List Pr) (by simp)⟩, ⟨conCy' TbD.nil (by simp)⟩, ⟨conCs' SlD.nil SlD.nil (by simp) (by simp)⟩, ⟨conCI' InD.nil (by simp)⟩, .inl ⟨_, ⟨conEOx hp (by simp) (by simp) (by simp)⟩, ⟨conCy' TbD.nil (by simp)⟩, ⟨conCs' SlD.nil SlD.nil (by simp) (by simp)⟩, ⟨conCI' InD.nil (by simp)⟩, .inl ⟨_, ⟨conAOx hp (by simp) (by simp) (by simp)⟩, _, _, ⟨conRS' SlD.nil SlD.nil (by simp)⟩, bc_bne (fun hh => absurd rfl hh) (fun _ => bc_bne (fun hh => absurd rfl hh) (fun _ => ⟨_, ⟨conBE' TbD.nil SlD.nil SlD.nil (by simp) (by simp)⟩, ?_⟩))⟩⟩⟩
  by_cases hb : bothE w a ([] : List Tr) ([] : List Pr) ([] : List Pr) = 0
  · have hz := prE_sets (s := ([] : List Int)) hb
    have h1 := hz.1.n0.1
    have h2 := sk_len hz.2.1
    simp only [List.length_nil] at h1 h2
    omega
  · rw [prE_both hb]
    exact bc_beq (fun hh => absurd hh hb) (fun _ => bc_bne (fun _ => bc_beq (fun _ => bc_beq (fun _ => by trivial) (fun hh => absurd rfl hh)) (fun hh => absurd rfl hh)) (fun hh => absurd hh hb))
theorem conLSv {w a : Int} {l : List Tr} {E T : List Pr} {s : List Int} (h : PV w a l E T s) : C5 3 [dT w a l, .agg [sR E, sR T], sI s] [.val (.bool true)] := by
  have hn := h.t.n0
  have hk := sk_len h.sv
  have hns := h.n
  refine con_flat hokC mixed Tryz.func3 rfl (by show 4 ≤ 400; omega) rfl (by kernel_rfl) (fun caps => ?_)
  show gLS _ _ w a l.length (caps 500) (trs l) E.length (caps 501) (vp E) T.length (caps 502) (vp T) s.length (caps 503) (vi s) _
  rw [gLS_text]
  refine .inl ⟨⟨conAw⟩, ?_⟩
  simp only [bc_t (show (l.length : Int) ≤ 6 by omega), bc_t (show (E.length : Int) ≤ 14 by omega), bc_t (show (T.length : Int) ≤ 14 by omega), bc_t (show (s.length : Int) ≤ 14 by omega), bc_t (v3le l), trs_whole, bc_t (v2le E), bc_t (v2le T), vp_whole, bc_t (v1le s), vi_whole, dw3 l, dw2 E, dw2 T, dw1 s, eq_self, true_and, and_true]
  have hb : bothE w a l E T = 0 := by rw [bothE_of, if_pos (ctE_ok.2 h.t)]; exact h.sv
  have hz : zsE l E s = 0 := by rw [zsE, if_neg (fun hh => hh h.n)]; exact h.co
  have cZ := conZS' h.t h.sv (InD.sl s)
  rw [hz] at cZ
  have nX : (exL w a l E s s.length).length = s.length := by simp
  have nA : (anL w a l E T s s.length).length = s.length := by simp
  have cR : C5 16 [.sl (exL w a l E s s.length).length 2 (vp (exL w a l E s s.length)), .sl (exL w a l E s s.length).length 2 (vp (exL w a l E s s.length))] [.val (.bool true)] := conBR (exL w a l E s s.length) (by omega)
  have cI : C5 18 [.sl (anL w a l E T s s.length).length 1 (vi (anL w a l E T s s.length)), .sl (anL w a l E T s s.length).length 1 (vi (anL w a l E T s s.length))] [.val (.bool true)] := conBI (anL w a l E T s s.length) (by omega)
  have v1 := vp_whole (exL w a l E s s.length)
  have l1 := v2le (exL w a l E s s.length)
  have v2 := vi_whole (anL w a l E T s s.length)
  have l2 := v1le (anL w a l E T s s.length)
  rw [nX] at cR v1 l1
  rw [nA] at cI v2 l2
  refine ⟨⟨conCs' (SlD.sl E) (SlD.sl T) (by omega) (by omega)⟩, _, _, ⟨conSK E T (by omega)⟩, ⟨conCy w a l (by omega)⟩, ⟨conCs' (SlD.sl E) (SlD.sl T) (by omega) (by omega)⟩, ⟨conCI s (by omega)⟩, .inr ⟨_, _, _, ⟨conEO h⟩, ?_⟩⟩
  try simp only [eq_self, true_and, and_true]
  refine ⟨⟨conCy w a l (by omega)⟩, ⟨conCs' (SlD.sl E) (SlD.sl T) (by omega) (by omega)⟩, ⟨conCI s (by omega)⟩, .inr ⟨_, _, _, ⟨conAO h⟩, _, _, ⟨conRS' (SlD.sl E) (SlD.sl T) (by omega)⟩, bc_bne (fun hh => absurd rfl hh) (fun _ => bc_bne (fun hh => absurd rfl hh) (fun _ => ⟨_, ⟨conBE' (TbD.sl l) (SlD.sl E) (SlD.sl T) (by omega) (by omega)⟩, bc_beq (fun _ => ⟨_, ⟨cZ⟩, bc_bne (fun hh => absurd rfl hh) (fun _ => bc_beq (fun _ => .inr ⟨_, _, ⟨conRX h⟩, ?_⟩) (fun hh => absurd rfl hh))⟩) (fun hh => absurd hb hh)⟩))⟩⟩
  have d1 : Dw s.length 2 (vp (exL w a l E s s.length)) = .sl s.length 2 (vp (exL w a l E s s.length)) := by simp only [Dw, Tk, v1]
  simp only [bc_t l1, d1]
  refine .inl ⟨⟨cR⟩, bc_beq (fun _ => .inr ⟨_, _, ⟨conRA h⟩, ?_⟩) (fun hh => absurd rfl hh)⟩
  have d2 : Dw s.length 1 (vi (anL w a l E T s s.length)) = .sl s.length 1 (vi (anL w a l E T s s.length)) := by simp only [Dw, Tk, v2]
  simp only [bc_t l2, d2]
  exact .inl ⟨cI⟩
end Go.Proofs.G5d

/- CoolStrips: whatever the input, it returns true, and the input reads as it did. Condition: the listed library tables hold what the text of the program lays (the card ties that to the text). -/
namespace Go.Proofs.YtmkfmaabhapimaaGreatDoor.K
open Go Go.Abs Go.RowKit Go.ChangeShapes Go.WideShapes Go.ChangeAt Go.Proofs Go.Flat Go.Proofs.G5d
set_option maxRecDepth 100000
namespace CoolStrips
abbrev shs : List Sh := [.agg [3, 3, 22], .agg [25, 25], .one 28]
theorem shapes : Tryz.f3.params.toList.mapM (argSh Tryz.prog) = some shs := by kernel_rfl
theorem all (ds : List D) (h : ShDs Tryz.prog shs ds) : Con Tryz.prog 3 ds [.val (.bool true)] := by
  cases h with | cons h1 t => cases t with | cons h2 t => cases t with | cons h3 t =>
  cases t
  obtain ⟨d1, rfl, h1⟩ := h1
  obtain ⟨d2, rfl, h2⟩ := h2
  cases h1 with | cons p1 t => cases t with | cons p2 t => cases t with | cons p3 t =>
  cases t
  cases h2 with | cons q1 t => cases t with | cons q2 t =>
  cases t
  obtain ⟨x1, rfl, _⟩ := leaf_int Tryz.underlying3 p1
  obtain ⟨x2, rfl, _⟩ := leaf_int Tryz.underlying3 p2
  rcases leaf_trs Tryz.underlying22 (by kernel_rfl) p3 with rfl | ⟨l, rfl⟩ <;> rcases leaf_prs Tryz.underlying25 (by kernel_rfl) q1 with rfl | ⟨E, rfl, _⟩ <;> rcases leaf_prs Tryz.underlying25 (by kernel_rfl) q2 with rfl | ⟨T, rfl, _⟩ <;> rcases leaf_ints Tryz.underlying28 (by kernel_rfl) h3 with rfl | ⟨s, rfl⟩
  · exact conLStcn x1 x2
  · exact conLStc x1 x2 s
  · exact conLStan x1 x2 T
  · exact conLSta x1 x2 T s
  · exact conLStbn x1 x2 E
  · exact conLStb x1 x2 E s
  · exact conLStn x1 x2 E T
  · exact conLSt x1 x2 E T s
  · exact conLScn x1 x2 l
  · exact conLSc x1 x2 l s
  · exact conLSan x1 x2 l T
  · exact conLSa x1 x2 l T s
  · exact conLSbn x1 x2 l E
  · exact conLSb x1 x2 l E s
  · exact conLSn x1 x2 l E T
  · by_cases hv : PV x1 x2 l E T s
    · exact conLSv hv
    · exact conLS x1 x2 l E T s hv
def wArgs : Array Value := #[.agg #[.int .i64 0, .int .i64 0, .slice none 0 0], .agg #[.slice none 0 0, .slice none 0 0], .slice none 0 0]
theorem laid_met (os : Os) : laidMet Tryz.prog Rows.coolStripsRow.laid ((laidWorld os).forCall (fun _ _ => 0) ⟨#[], wArgs, []⟩).memory :=
  laidMet_of_run' 8 (by kernel_rfl) (by kernel_rfl)
theorem reads (os : Os) {H : Type} (enc : TypeId × Value → H) : ∃ places, DataW.whole enc Tryz.prog ((laidWorld os).forCall (fun _ _ => 0) ⟨#[], wArgs, []⟩).memory Tryz.f3.params.toList Rows.coolStripsSpec.vars false wArgs.toList 8 =
    some ([.agg [.lit (.int .i64 0), .lit (.int .i64 0), .nil], .agg [.nil, .nil], .nil], [], places) :=
  ⟨[], by kernel_rfl⟩
theorem lifted (os : Os) (started : os.Started) (H : Type) (enc : TypeId × Value → H) (F : Stop.Interp) :
    ReturnsInHanded {} Tryz.checked os 3 .any ((OpenSpec.ofChange Rows.coolStripsSpec).preRow enc Tryz.prog Tryz.f3 Rows.coolStripsRow.domain false Rows.coolStripsRow.laid) (((OpenSpec.ofChange Rows.coolStripsSpec).at F).post enc Tryz.prog Tryz.f3 false true false false) := by
  obtain ⟨places, hx⟩ := reads os enc
  refine returnsInHanded_of_row (C := Tryz.checked) (s := OpenSpec.ofChange Rows.coolStripsSpec) own started (by kernel_rfl) Tryz.func3
    (witness_row_at (enc := enc) (C := Tryz.checked) false (laidWorld os) wArgs rfl (by kernel_rfl) (by kernel_rfl) (by kernel_rfl)
      (OpenSpec.preRow_of_cond 8 hx (by kernel_rfl) (fun k hk => by cases hk) (by kernel_rfl) (laid_met os))) ?_
  intro W base args ds gs before hval hW _ _ _ _ _ _
  exact law_shapes (tb := 4) (s := Rows.coolStripsSpec) shapes all laidP mapsP slicesP (tsP (by kernel_rfl)) rfl Tryz.underlying4 rfl (fun ds h => by
    match ds, h with
    | [_, _, _], _ => exact ⟨rfl, rfl, rfl⟩) hval hW
theorem said : Rows.CoolStripsSaid :=
  OpenClaim.holds_of_cond 3 Tryz.f3 rfl rfl rfl rfl rfl rfl rfl ⟨rfl, rfl, rfl, rfl, rfl⟩ rfl rfl rfl rfl rfl (by kernel_rfl) Tryz.func3 (by kernel_rfl)
    (of_decide_eq_true (by kernel_rfl)) (by unfold Func.isWrapper; first | (rw [if_pos (by decide +kernel)]; kernel_rfl) | (rw [if_neg (by decide +kernel)]; exact ⟨rfl, rfl⟩))
    (fun os started H enc _ F => by rw [OpenClaim.pre_eq_preRow]; exact lifted os started H enc F)
theorem plain (f : FuncId) (fn : Func) (hf : Tryz.pinned.checked.prog.funcNamed "cobble/cobblelaw08.CoolStrips" = some f) (hfn : Tryz.pinned.checked.prog.funcs[f]? = some fn) :
    false = Tryz.pinned.checked.prog.looks [] ∧ ∀ (j : Nat) t, fn.params[j]? = some t → Tryz.pinned.checked.prog.wantsStandIn t = false := by
  obtain rfl : f = 3 := Option.some.inj ((show Tryz.prog.funcNamed "cobble/cobblelaw08.CoolStrips" = some 3 by kernel_rfl).symm.trans hf) |>.symm
  obtain rfl : fn = Tryz.f3 := (Option.some.inj (Tryz.func3.symm.trans hfn)).symm
  exact ⟨by kernel_rfl, noStand (by kernel_rfl)⟩
theorem card : Rows.CoolStripsCardSaid :=
  Claim7.holds_tied_plain_at .later [] _ _ _ _ said (fun _ h => by cases h) (by kernel_rfl) (fun _ h => by cases h) coolStrips_row_tie rfl ⟨rfl, rfl⟩ (by kernel_rfl) rfl plain (by kernel_rfl)
#print axioms card
end CoolStrips
end Go.Proofs.YtmkfmaabhapimaaGreatDoor.K
