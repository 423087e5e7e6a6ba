/- Texts of the proof, put together: Gf75, Gf76, Gf77, Gf7K4. -/
import Derived.Test.YtpjfmeijfkbfaaaP6
/- Chapter 7: FlatWorn, in data. -/
namespace Go.Proofs.G5f
open Go Go.Abs Go.Proofs Go.Proofs.G7
set_option maxRecDepth 100000
def cmpF (f g : Int × Int) : Int := if f.1 * g.2 < g.1 * f.2 then -1 else if f.1 * g.2 > g.1 * f.2 then 1 else 0
theorem cmpF_le {f g : Int × Int} (h : f.1 * g.2 ≤ g.1 * f.2) : cmpF f g ≤ 0 := by
  unfold cmpF
  split
  · decide
  · rw [if_neg (by omega)]; decide
theorem mul_sm {a b : Int} (ha : -1000000000 ≤ a ∧ a ≤ 1000000000) (hb : 0 < b ∧ b ≤ 1000000000) : -1000000000000000000 ≤ a * b ∧ a * b ≤ 1000000000000000000 := by
  have := mul_le (A := 1000000000) (B := 1000000000) ha ⟨by omega, hb.2⟩
  omega
theorem conCmp {f g : Int × Int} (h0 : 0 < f.2) (hf : sm f) (g0 : 0 < g.2) (hg : sm g) : C5 58 [dF f, dF g] [dI (cmpF f g)] := by
  refine con_flat hokU mixed Try.func58 rfl (by show 0 ≤ 400; omega) rfl (by kernel_rfl) (fun caps => ?_)
  show gCmp _ _ f.1 f.2 g.1 g.2 _
  rw [gCmp_text]
  have k1 := mul_sm hf.1 ⟨g0, hg.2.2⟩
  have k2 := mul_sm hg.1 ⟨h0, hf.2.2⟩
  simp only [eq_self, true_and]
  rw [w64 (z := f.1 * g.2) (by omega) (by omega), w64 (z := g.1 * f.2) (by omega) (by omega)]
  refine bc_dec (fun h => ?_) (fun h => bc_dec (fun h2 => ?_) (fun h2 => ?_))
  · show _ = _; rw [cmpF, if_pos h]; rfl
  · show _ = _; rw [cmpF, if_neg h, if_pos h2]
  · show _ = _; rw [cmpF, if_neg h, if_neg h2]
/-! ### without strips -/
theorem conFsn : C5 101 [.nil, .val (.func (.func 102) #[] #[])] [dI 0, dI 0] := by
  refine con_of (L := fun _ s b => zFsn1 0 0 = (s, b)) hokU mixed Try.func101 rfl (by show 0 ≤ 400; omega) rfl (ids := [0]) (by kernel_rfl) rfl (fun caps => ?_) (fun id hid => ?_)
  · show gFsn _ _ _
    rw [gFsn_text]
  · obtain rfl := List.mem_singleton.1 hid
    refine ⟨Unit, fun _ => zFsn1 0 0, fun _ => True, fun _ => 0, ⟨fun s b h => ⟨(), trivial, h⟩, by kernel_rfl, ?_⟩⟩
    intro _ _
    show rFsn1 _ _ 0 0 _ _ _
    rw [rFsn1_text]
    refine bc_no (by omega) ?_
    show (if 0 = 0 then _ else _)
    rw [if_pos rfl]
    show nFsn2 _ _ _
    rw [nFsn2_text]
theorem conWon {c : List (Int × Int)} (hv : CcV c) : C5 51 [.sl c.length 2 (vp c), .nil] [.sl c.length 2 (vp c), dI 0] := by
  have hn := hv.n
  refine con_of (L := fun _ s b => zWon1 c.length 0 0 (vp c) = (s, b)) hokU mixed Try.func51 rfl (by show 1 ≤ 400; omega) rfl (ids := [0]) (by kernel_rfl) rfl (fun caps => ?_) (fun id hid => ?_)
  · show gWon _ _ c.length (caps 500) (vp c) _
    rw [gWon_text]
    simp only [bc_t (v2le c), vp_whole]
    have hk := conKC c (by omega)
    rw [ccE_ok.2 hv] at hk
    exact ⟨_, _, ⟨hk⟩, _, _, ⟨conFsn⟩, _, ⟨conCC _ _ _⟩, _, ⟨conFE [0, cntE 0 0 20, 0] (by simp)⟩, bc_bne (fun h => absurd (by decide) h) (fun _ => ⟨⟨conCoP c (by omega)⟩, by trivial⟩)⟩
  · obtain rfl := List.mem_singleton.1 hid
    refine ⟨Unit, fun _ => zWon1 c.length 0 0 (vp c), fun _ => True, fun _ => 0, ⟨fun s b h => ⟨(), trivial, h⟩, by kernel_rfl, ?_⟩⟩
    intro _ _
    show rWon1 _ _ c.length 0 0 (vp c) _ _ _
    rw [rWon1_text]
    refine bc_no (by omega) ?_
    show (if 0 = 0 then _ else _)
    rw [if_pos rfl]
    show nWon2 _ _ c.length (vp c) _
    rw [nWon2_text]
    exact ⟨⟨rfl, by simp⟩, by trivial⟩
end Go.Proofs.G5f

/- Chapter 7: FlatWorn, the law, in data. -/
namespace Go.Proofs.G5f
open Go Go.Abs Go.Proofs Go.Proofs.G7
set_option maxRecDepth 100000
theorem end4 {L : AtLoop} {c A : List (Int × Int)} {bk : List Tr} {B at' : Int} {cap : Nat} {k : List D → Prop} (hk : k [.val (.bool true)]) (hb : WV c bk) (he : wrnL bk c = A) (hlo : Lo B A c) : nLw4 C5 L c.length cap at' c.length bk.length c.length (vp c) (vp A) (vt bk) (vp A) k := by
  have hn := hb.c.n
  have hl : A.length = c.length := hlo.n
  have hbn := hb.n
  have e1 := vp_whole A
  have e2 := v2le A
  have e3 := conSC A A (by omega)
  have hw := conWo c bk (by omega) (by omega)
  have hcA := conREC A (by omega)
  have hcp := conCoC A (by omega)
  have hcc := conCoC c (by omega)
  have ha := conHA c at' (by omega)
  have ha2 := conHA A at' (by omega)
  rw [decide_eq_true rfl] at e3
  rw [woP, if_pos (woE_ok.2 hb), he] at hw
  rw [haP, if_pos (ccE_ok.2 hb.c)] at ha
  rw [hl] at e1 e2 e3 hcA hcp ha2
  rw [nLw4_text]
  simp only [bc_t (v2le c), bc_t (v3le bk), vp_whole, vt_whole]
  refine ⟨⟨hcc⟩, .inr ⟨_, _, _, ⟨hw⟩, bc_bne (fun h => absurd rfl h) (fun _ => ?_)⟩⟩
  simp only [bc_t e2, e1]
  refine .inl ⟨⟨e3⟩, .inl ⟨⟨e3⟩, _, ⟨hcA⟩, bc_bne (fun _ => hk) (fun h => ⟨⟨hcc⟩, ?_⟩)⟩⟩
  have hm := ccE_ok.1 h
  rw [haP, if_pos h] at ha2
  cases hg_lo hb.c hm hlo at' c.length 0 (by omega) with
  | no q1 q2 =>
    rw [List.drop_zero] at q1 q2
    rw [q1] at ha
    rw [q2] at ha2
    exact ⟨_, _, _, ⟨ha⟩, ⟨hcp⟩, _, _, _, ⟨ha2⟩, bc_bne (fun h => absurd rfl h) (fun _ => bc_bne (fun _ => hk) (fun h => absurd h (by decide)))⟩
  | yes p q p' q' q1 q2 b1 b2 a1 a2 le1 le2 =>
    rw [List.drop_zero] at q1 q2
    rw [q1] at ha
    rw [q2] at ha2
    have s1 := ht_sm b1
    have s2 := ht_sm b2
    have hle := cmpF_le (ht_le b1 a1 a2 le1 le2)
    exact ⟨_, _, _, ⟨ha⟩, ⟨hcp⟩, _, _, _, ⟨ha2⟩, bc_bne (fun h => absurd rfl h) (fun _ => bc_bne (fun h => absurd rfl h) (fun _ => .inl ⟨sayIS s1.1 s1.2, .inl ⟨sayIS s2.1 s2.2, _, ⟨conCmp s2.1 s2.2 s1.1 s1.2⟩, bc_yes hle hk⟩⟩))⟩
/-- no strips -/
theorem end3 {L : AtLoop} {c : List (Int × Int)} {at' : Int} {cap : Nat} {k : List D → Prop} (hk : k [.val (.bool true)]) (hv : CcV c) : nLw3 C5 L c.length cap at' c.length c.length (vp c) (vp c) (vp c) k := by
  have hn := hv.n
  have e3 := conSC c c (by omega)
  have hw := conWon hv
  have hcA := conREC c (by omega)
  have hcc := conCoC c (by omega)
  have ha := conHA c at' (by omega)
  rw [decide_eq_true rfl] at e3
  rw [haP, if_pos (ccE_ok.2 hv)] at ha
  rw [ccE_ok.2 hv] at hcA
  rw [nLw3_text]
  simp only [bc_t (v2le c), vp_whole]
  refine ⟨⟨hcc⟩, .inr ⟨_, _, _, ⟨hw⟩, bc_bne (fun h => absurd rfl h) (fun _ => ?_)⟩⟩
  simp only [bc_t (v2le c), vp_whole]
  refine .inl ⟨⟨e3⟩, .inl ⟨⟨e3⟩, _, ⟨hcA⟩, bc_bne (fun h => absurd rfl h) (fun _ => ⟨⟨hcc⟩, ?_⟩)⟩⟩
  cases hg_lo (B := -100000) hv hv ⟨rfl, fun i hi => ⟨rfl, Int.le_refl _, (pt_bd hv hi).2.1⟩⟩ at' c.length 0 (by omega) with
  | no q1 q2 =>
    rw [List.drop_zero] at q1
    rw [q1] at ha
    exact ⟨_, _, _, ⟨ha⟩, ⟨hcc⟩, _, _, _, ⟨ha⟩, bc_bne (fun h => absurd rfl h) (fun _ => bc_bne (fun _ => hk) (fun h => absurd h (by decide)))⟩
  | yes p q p' q' q1 q2 b1 b2 a1 a2 le1 le2 =>
    rw [List.drop_zero] at q1
    rw [q1] at ha
    have s1 := ht_sm b1
    have hle := cmpF_le (Int.le_refl ((htF at' p q).1 * (htF at' p q).2))
    exact ⟨_, _, _, ⟨ha⟩, ⟨hcc⟩, _, _, _, ⟨ha⟩, bc_bne (fun h => absurd rfl h) (fun _ => bc_bne (fun h => absurd rfl h) (fun _ => .inl ⟨sayIS s1.1 s1.2, .inl ⟨sayIS s1.1 s1.2, _, ⟨conCmp s1.1 s1.2 s1.1 s1.2⟩, bc_yes hle hk⟩⟩))⟩
theorem vt_app : ∀ l m : List Tr, vt (l ++ m) = vt l ++ vt m
  | [], m => rfl
  | p :: r, m => by simp only [List.cons_append, vt, vt_app r m]
theorem vt_take {l : List Tr} {i : Nat} (h : i < l.length) : vt (l.take (i + 1)) = vt (l.take i) ++ [vI (sp l i).1, vI (sp l i).2.1, vI (sp l i).2.2] := by
  rw [List.take_succ_eq_append_getElem h, vt_app, ← sp_at h]; rfl
theorem sp_rev {l : List Tr} {i : Nat} (h : i < l.length) : sp l.reverse i = sp l (l.length - 1 - i) := by
  rw [← sp_at (by simpa using h), ← sp_at (show l.length - 1 - i < l.length by omega), List.getElem_reverse]
theorem wv_one {N : List (Int × Int)} {s : Tr} (h : ccE N = 0) (hs : stE s = 0) : WV N [s] := ⟨ccE_ok.1 h, by simp, by simpa using hs⟩
abbrev lwS (c : List (Int × Int)) (l : List Tr) (at' : Int) (p q : Nat) : Nat → Slots × Blocks
  | 0 => zLw1 c.length p l.length q at' c.length c.length ((l.length : Int) - 1) (vp c) (vt l) (vp (wrnL l c)) (vp c)
  | i + 1 => zLw2 c.length p l.length q at' c.length (i + 1) c.length ((l.length : Int) - 1 - ((i + 1 : Nat) : Int)) (vp c) (vt l) (vp (wrnL l c)) (vt (l.reverse.take (i + 1))) (vp (wrnL (l.reverse.take (i + 1)) c))
theorem conLw (c : List (Int × Int)) (l : List Tr) (at' : Int) : C5 9 [.sl c.length 2 (vp c), .sl l.length 3 (vt l), dI at'] [.val (.bool true)] := by
  let inv : Nat × Nat × Nat → Prop := fun x => WV c l ∧ x.1 ≤ l.length
  let st : Nat × Nat × Nat → Slots × Blocks := fun x => lwS c l at' x.2.1 x.2.2 x.1
  refine con_of (L := fun _ s b => ∃ x, inv x ∧ st x = (s, b)) hokU mixed Try.func9 rfl (by show 2 ≤ 400; omega) rfl (ids := [0]) (by kernel_rfl) rfl (fun caps => ?_) (fun id hid => ?_)
  · show gLw _ _ c.length (caps 500) (vp c) l.length (caps 501) (vt l) at' _
    rw [gLw_text]
    refine .inl ⟨⟨conAw⟩, bc_dec (fun h12 => ?_) (fun _ => by trivial)⟩
    simp only [bc_t (v2le c), vp_whole]
    refine ⟨_, ⟨conREC c (by omega)⟩, bc_bne (fun _ => by trivial) (fun hv => bc_dec (fun _ => by trivial) (fun h20 => ?_))⟩
    simp only [bc_t (v3le l), vt_whole]
    have hw := conWo c l (by omega) (by omega)
    have hcc := conCoC c (by omega)
    by_cases he : woE c l = 0
    · rw [woP, if_pos he] at hw
      refine ⟨⟨hcc⟩, ⟨conCoS l (by omega)⟩, .inr ⟨_, _, _, ⟨hw⟩, bc_bne (fun h => absurd rfl h) (fun _ => ?_)⟩⟩
      refine ⟨⟨hcc⟩, (0, caps 500, caps 501), ⟨woE_ok.1 he, Nat.zero_le _⟩, ?_⟩
      rw [w64 (by omega) (by omega)]
    · rw [woP, if_neg he] at hw
      exact ⟨⟨hcc⟩, ⟨conCoS l (by omega)⟩, .inl ⟨_, ⟨hw⟩, bc_bne (fun _ => by trivial) (fun h => absurd h he)⟩⟩
  · obtain rfl := List.mem_singleton.1 hid
    refine ⟨Nat × Nat × Nat, st, inv, fun x => l.length - x.1, ⟨fun s b h => h, by kernel_rfl, ?_⟩⟩
    rintro ⟨i, p, q⟩ ⟨hv, hi⟩
    simp only at hi
    have hn := hv.c.n
    have hl20 := hv.n
    cases i with
    | zero =>
      show rLw1 _ _ c.length p l.length q at' c.length c.length ((l.length : Int) - 1) (vp c) (vt l) (vp (wrnL l c)) (vp c) _ _ _
      rw [rLw1_text]
      refine bc_dec (fun h => ?_) (fun h => ?_)
      · have h1 : l.length - 1 < l.length := by omega
        have ex : (l.length : Int) - 1 = ((l.length - 1 : Nat) : Int) := by omega
        have hs : stE (sp l (l.length - 1)) = 0 := hv.s _ (sp_mem h1)
        have h0 : 0 < l.length := by omega
        have er : sp l (l.length - 1) = sp l.reverse 0 := by rw [sp_rev h0]; rfl
        simp only [ex, bc_t (show (0 : Int) ≤ ((l.length - 1 : Nat) : Int) by omega), bc_t (show ((l.length - 1 : Nat) : Int) < (l.length : Int) by omega), Int.toNat_natCast, at3 (at_sp h1), bc_t (v2le c), vp_whole]
        refine ⟨_, ⟨conREC c (by omega)⟩, bc_bne (fun _ => by trivial) (fun hN => ?_)⟩
        have hw := conWo c [sp l (l.length - 1)] (by omega) (by simp)
        have hO := wv_one hN hs
        rw [woP, if_pos (woE_ok.2 hO)] at hw
        have e1 := vp_whole (wrnL [sp l (l.length - 1)] c)
        have e2 := v2le (wrnL [sp l (l.length - 1)] c)
        have hcp := conCoC (wrnL [sp l (l.length - 1)] c) (by simp; omega)
        rw [wrnL_length] at e1 e2 hcp
        refine .inr ⟨_, _, _, ⟨hw⟩, bc_bne (fun h => absurd rfl h) (fun _ => ?_)⟩
        simp only [bc_t e2, e1]
        refine ⟨⟨hcp⟩, (1, p, q), ⟨hv, by omega⟩, by show l.length - 1 < l.length - 0; omega, ?_⟩
        rw [w64 (by omega) (by omega), ← ex]
        have e4 : l.reverse.take 1 = [sp l (l.length - 1)] := by
          rw [List.take_succ_eq_append_getElem (by simpa using h0), sp_at (by simpa using h0), ← er]; rfl
        show zLw2 c.length p l.length q at' c.length 1 c.length ((l.length : Int) - 1 - 1) (vp c) (vt l) (vp (wrnL l c)) (vt (l.reverse.take 1)) (vp (wrnL (l.reverse.take 1) c)) = _
        rw [e4]
        rfl
      · show (if 0 = 0 then _ else _)
        rw [if_pos rfl]
        have e0 : l = [] := List.length_eq_zero_iff.1 (by omega)
        subst e0
        exact end3 (by trivial) hv.c
    | succ i =>
      have hi2 : i + 1 ≤ l.reverse.length := by simpa using hi
      let bk : List Tr := l.reverse.take (i + 1)
      have hbl : bk.length = i + 1 := by show (l.reverse.take (i + 1)).length = _; rw [List.length_take]; omega
      let N : List (Int × Int) := wrnL bk c
      have hNl : N.length = c.length := wrnL_length
      show rLw2 _ _ c.length p l.length q at' c.length (i + 1) c.length ((l.length : Int) - 1 - ((i + 1 : Nat) : Int)) (vp c) (vt l) (vp (wrnL l c)) (vt bk) (vp N) _ _ _
      rw [rLw2_text]
      refine bc_dec (fun h => ?_) (fun h => ?_)
      · have h1 : l.length - 1 - (i + 1) < l.length := by omega
        have ex : (l.length : Int) - 1 - ((i + 1 : Nat) : Int) = ((l.length - 1 - (i + 1) : Nat) : Int) := by omega
        have hs : stE (sp l (l.length - 1 - (i + 1))) = 0 := hv.s _ (sp_mem h1)
        have hir : i + 1 < l.reverse.length := by simp; omega
        have er : sp l (l.length - 1 - (i + 1)) = sp l.reverse (i + 1) := by rw [sp_rev (by omega)]
        have w1 := vt_whole bk
        have w2 := v3le bk
        have w3 : 0 + bk.length * 3 = (vt bk).length := by simp
        have e5 := vp_whole N
        have e6 := v2le N
        have hR := conREC N (by omega)
        have hw := conWo N [sp l (l.length - 1 - (i + 1))] (by omega) (by simp)
        rw [hbl] at w1 w2 w3
        rw [hNl] at e5 e6 hR hw
        simp only [ex, bc_t (show (0 : Int) ≤ ((l.length - 1 - (i + 1) : Nat) : Int) by omega), bc_t (show ((l.length - 1 - (i + 1) : Nat) : Int) < (l.length : Int) by omega), Int.toNat_natCast, at3 (at_sp h1), bc_t e6, e5, bc_t (show i + 1 < i + 1 + 1 by omega), bc_t (show (2 * (i + 1 + 1) + 768) * 24 ≤ 281474976710656 by omega), bc_t (show i + 1 + 1 ≤ 1099511627776 by omega), bc_t w2, bc_t w3, w1]
        refine ⟨_, ⟨hR⟩, bc_bne (fun _ => by trivial) (fun hN => ?_)⟩
        have hO := wv_one hN hs
        rw [woP, if_pos (woE_ok.2 hO), hNl] at hw
        let M : List (Int × Int) := wrnL [sp l (l.length - 1 - (i + 1))] N
        have hMl : M.length = c.length := wrnL_length.trans hNl
        have e1 := vp_whole M
        have e2 := v2le M
        have hcp := conCoC M (by omega)
        rw [hMl] at e1 e2 hcp
        refine .inr ⟨c.length, vp M, 0, ⟨hw⟩, bc_bne (fun h => absurd rfl h) (fun _ => ?_)⟩
        simp only [bc_t e2, e1]
        refine ⟨⟨hcp⟩, (i + 2, p, q), ⟨hv, by show i + 2 ≤ l.length; omega⟩, by show l.length - (i + 2) < l.length - (i + 1); omega, ?_⟩
        rw [w64 (by omega) (by omega), ← ex]
        have e4 : vt (l.reverse.take (i + 2)) = vt bk ++ [vI (sp l (l.length - 1 - (i + 1))).1, vI (sp l (l.length - 1 - (i + 1))).2.1, vI (sp l (l.length - 1 - (i + 1))).2.2] := by rw [vt_take hir, er]
        have e7 : wrnL (l.reverse.take (i + 2)) c = M := by rw [wrnL_take hir, ← er]; rfl
        have e8 : (l.length : Int) - 1 - ((i + 2 : Nat) : Int) = (l.length : Int) - 1 - ((i + 1 : Nat) : Int) - 1 := by push_cast; omega
        show zLw2 c.length p l.length q at' c.length (i + 2) c.length ((l.length : Int) - 1 - ((i + 2 : Nat) : Int)) (vp c) (vt l) (vp (wrnL l c)) (vt (l.reverse.take (i + 2))) (vp (wrnL (l.reverse.take (i + 2)) c)) = _
        rw [e4, e7, e8]
      · show (if 0 = 0 then _ else _)
        rw [if_pos rfl]
        have ei : bk = l.reverse := List.take_of_length_le (by simp; omega)
        have hb : WV c bk := ⟨hv.c, by omega, fun s hs => hv.s s (by rw [ei] at hs; simpa using hs)⟩
        have he : N = wrnL l c := by show wrnL bk c = _; rw [ei, wrnL_rev]
        have := end4 (L := fun _ s b => ∃ x, inv x ∧ st x = (s, b)) (cap := p) (at' := at') (k := fun o => o = [.val (.bool true)]) rfl hb he (lo_all hv)
        rw [hbl, ← he] at this
        rw [← he]
        exact this
end Go.Proofs.G5f

/- Chapter 7: FlatWorn with nil lists. -/
namespace Go.Proofs.G5f
open Go Go.Abs Go.Proofs Go.Proofs.G7
set_option maxRecDepth 100000
theorem conRECn : C5 57 [.nil] [dI 10] := by
  refine con_flat hokU mixed Try.func57 rfl (by show 0 ≤ 400; omega) rfl (by kernel_rfl) (fun caps => ?_)
  show gRECn _ _ _
  rw [gRECn_text]
  exact ⟨_, _, ⟨conRKCn⟩, rfl⟩
theorem conLwn (l : List Tr) (at' : Int) : C5 9 [.nil, .sl l.length 3 (vt l), dI at'] [.val (.bool true)] := by
  refine con_of (L := fun _ _ _ => False) hokU mixed Try.func9 rfl (by show 1 ≤ 400; omega) rfl (ids := [0]) (by kernel_rfl) rfl (fun caps => ?_) (fun id hid => ?_)
  · show gLwn _ _ l.length (caps 500) (vt l) at' _
    rw [gLwn_text]
    exact .inl ⟨⟨conAw⟩, _, ⟨conRECn⟩, bc_bne (fun _ => by trivial) (fun h => absurd h (by decide))⟩
  · obtain rfl := List.mem_singleton.1 hid
    exact ⟨Nat, fun _ => ([], []), fun _ => False, fun _ => 0, ⟨fun s b h => h.elim, by kernel_rfl, fun j hj => hj.elim⟩⟩
theorem conLwz (at' : Int) : C5 9 [.nil, .nil, dI at'] [.val (.bool true)] := by
  refine con_of (L := fun _ _ _ => False) hokU mixed Try.func9 rfl (by show 0 ≤ 400; omega) rfl (ids := [0]) (by kernel_rfl) rfl (fun caps => ?_) (fun id hid => ?_)
  · show gLwz _ _ at' _
    rw [gLwz_text]
    exact .inl ⟨⟨conAw⟩, _, ⟨conRECn⟩, bc_bne (fun _ => by trivial) (fun h => absurd h (by decide))⟩
  · obtain rfl := List.mem_singleton.1 hid
    exact ⟨Nat, fun _ => ([], []), fun _ => False, fun _ => 0, ⟨fun s b h => h.elim, by kernel_rfl, fun j hj => hj.elim⟩⟩
theorem conLwa (c : List (Int × Int)) (at' : Int) : C5 9 [.sl c.length 2 (vp c), .nil, dI at'] [.val (.bool true)] := by
  let inv : Nat → Prop := fun _ => CcV c
  let st : Nat → Slots × Blocks := fun p => zLwa1 c.length p at' c.length c.length (-1) (vp c) (vp c) (vp c)
  refine con_of (L := fun _ s b => ∃ x, inv x ∧ st x = (s, b)) hokU mixed Try.func9 rfl (by show 1 ≤ 400; omega) rfl (ids := [0]) (by kernel_rfl) rfl (fun caps => ?_) (fun id hid => ?_)
  · show gLwa _ _ c.length (caps 500) (vp c) at' _
    rw [gLwa_text]
    refine .inl ⟨⟨conAw⟩, bc_dec (fun h12 => ?_) (fun _ => by trivial)⟩
    simp only [bc_t (v2le c), vp_whole]
    refine ⟨_, ⟨conREC c (by omega)⟩, bc_bne (fun _ => by trivial) (fun hv => ?_)⟩
    have hw := conWo c [] (by omega) (by simp)
    have hcv := ccE_ok.1 hv
    have hcc := conCoC c (by omega)
    rw [woP, if_pos (woE_ok.2 ⟨hcv, by simp, by simp⟩)] at hw
    refine ⟨⟨hcc⟩, ⟨conCoSn⟩, .inr ⟨_, _, _, ⟨hw⟩, bc_bne (fun h => absurd rfl h) (fun _ => ?_)⟩⟩
    exact ⟨⟨hcc⟩, caps 500, hcv, rfl⟩
  · obtain rfl := List.mem_singleton.1 hid
    refine ⟨Nat, st, inv, fun _ => 0, ⟨fun s b h => h, by kernel_rfl, ?_⟩⟩
    intro p hv
    show rLwa1 _ _ c.length p at' c.length c.length (-1) (vp c) (vp c) (vp c) _ _ _
    rw [rLwa1_text]
    refine bc_no (by omega) ?_
    show (if 0 = 0 then _ else _)
    rw [if_pos rfl]
    exact end3 (by trivial) hv
end Go.Proofs.G5f

/- FlatWorn: whatever the input, it returns true, and the input reads as it did. No condition. -/
namespace Go.Proofs.Ytpjfmeijfkbfaaa.K
open Go Go.Abs Go.RowKit Go.ChangeShapes Go.WideShapes Go.ChangeAt Go.Proofs Go.Flat Go.Proofs.G5f
set_option maxRecDepth 100000
namespace FlatWorn
abbrev shs : List Sh := [.one 79, .one 80, .one 3]
theorem shapes : Try.f9.params.toList.mapM (argSh Try.prog) = some shs := by kernel_rfl
theorem all (ds : List D) (h : ShDs Try.prog shs ds) : Con Try.prog 9 ds [.val (.bool true)] := by
  cases h with | cons h1 t => cases t with | cons h2 t => cases t with | cons h3 t =>
  cases t
  obtain ⟨x1, rfl, _⟩ := leaf_int Try.underlying3 h3
  rcases leaf_prs Try.underlying79 (by kernel_rfl) h1 with rfl | ⟨c, rfl, _⟩ <;> rcases leaf_trs Try.underlying80 (by kernel_rfl) h2 with rfl | ⟨l, rfl⟩
  · exact conLwz x1
  · exact conLwn l x1
  · exact conLwa c x1
  · exact conLw c l x1

theorem lifted (os : Os) (started : os.Started) (H : Type) (enc : TypeId × Value → H) :
    ReturnsInHanded {} Try.checked os 9 .any (Rows.flatWornSpec.pre6 enc Try.prog Try.f9 Rows.flatWornRow.domain false) (Rows.flatWornSpec.post enc Try.prog Try.f9 false true false false) := by
  refine returnsInHanded_of_change (C := Try.checked) own started (by kernel_rfl) Try.func9
    (ChangeSpec.witness6 (enc := enc) (C := Try.checked) false ⟨#[], #[.slice none 0 0, .slice none 0 0, .int .i64 0], []⟩ 8 (by kernel_rfl) (by kernel_rfl) (by kernel_rfl) (by kernel_rfl)) ?_
  intro W base args ds gs before hval hW _ _
  exact law_shapes (tb := 4) (s := Rows.flatWornSpec) shapes all laidP mapsP slicesP (tsP (by kernel_rfl)) rfl Try.underlying4 rfl (fun ds h => by
    match ds, h with
    | [_, _, _], _ => exact ⟨rfl, rfl, rfl⟩) hval hW
theorem holds : Rows.FlatWornSaid :=
  OpenClaim.holds_of_wide 9 Try.f9 rfl rfl rfl rfl rfl rfl rfl ⟨rfl, rfl, rfl, rfl, rfl⟩ rfl rfl rfl rfl rfl (by kernel_rfl) Try.func9 (by kernel_rfl)
    (of_decide_eq_true (by kernel_rfl)) (by unfold Func.isWrapper; first | (rw [if_pos (by decide +kernel)]; kernel_rfl) | (rw [if_neg (by decide +kernel)]; exact ⟨rfl, rfl⟩))
    (fun os started H enc _ => lifted os started H enc)
#print axioms holds
end FlatWorn
end Go.Proofs.Ytpjfmeijfkbfaaa.K
