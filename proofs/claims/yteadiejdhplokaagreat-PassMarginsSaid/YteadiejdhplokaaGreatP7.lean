/- Texts of the proof, put together: GoO6, GoO11, GoO14, GoO18, GoO9, GoO21, GoO20, GoOA0. -/
import Derived.Test.YteadiejdhplokaaGreatP6
/- Chapter 3: the draughts of a schedule, and what is collected of them. -/
namespace Go.Proofs.G5o
open Go Go.Abs Go.Proofs Go.Str
set_option maxRecDepth 100000
theorem hokRE : HandlerOK Tryz.prog (R.hE C5) := handlerX_ok mixed (fun g h he => by cases he) (by decide) 6
theorem preROK : PreOK Tryz.prog (R.preP C5) := by
  intro g h he args ats H k hk
  unfold R.preP at he
  rcases ite_so he with ⟨_, rfl⟩ | he
  · exact saidH_ok (fun _ _ _ h => h) _ _ _ _ _ hk
  · cases he
theorem hokRP : HandlerOK Tryz.prog (R.hP C5) := handlerX_ok mixed preROK (by decide) 6
/-- the draughts of a schedule, as they are handed on -/
def drows (b : Int) (k : Nat) : List Int → List (List D)
  | [] => []
  | h :: l => [drD k b h] :: drows h (k + 1) l
theorem drows_drop {b : Int} {k : Nat} {th : List Int} (h : k < th.length) : drows b k (th.drop k) = [drD k b th[k]] :: drows th[k] (k + 1) (th.drop (k + 1)) := by
  rw [List.drop_eq_getElem_cons h]; rfl
theorem bfr_succ {b : Int} {th : List Int} {k : Nat} (h : k < th.length) : bfr b th (k + 1) = th[k] := by simp [bfr, List.getD, List.getElem?_eq_getElem h]
theorem runDo (r : Ru) (c0 c1 : Nat) (nm : List UInt8) (th : List Int) (hth : th.length < 1000000000) :
    CallS Tryz.prog 107 [.func (.yield 915) #[] #[], .pointer (some ⟨500, 0, none⟩), .pointer (some ⟨501, 0, none⟩)] [(915, .yld false (some (drows r.st 0 th))), (500, .cells [.int .i64 r.w, .int .i64 r.st, .int .i64 r.fi, .int .i64 r.hlo, .int .i64 r.hhi, .int .i64 r.co, .slice (some ⟨502, 0, none⟩) r.ss.length c0, .int .i64 r.slo, .int .i64 r.shi, .int .i64 r.flo, .int .i64 r.fhi] 89 false 1), (501, .cells [.string (bs nm), .slice (some ⟨503, 0, none⟩) th.length c1] 29 false 1), (502, .sym (vs5 r.ss) false 5), (503, .sym (vi th) false 1)] EndY := by
  let st : Nat → Slots × Blocks := fun i => R.zDo1 (bfr r.st th i) th.length c1 th.length i (drows (bfr r.st th i) i (th.drop i)) (vi th)
  refine callS_JR hokRE mixed [] (L := fun _ x bl => ∃ i, i ≤ th.length ∧ st i = (x, bl)) Tryz.func107 rfl (.inr rfl) (pts := [0]) (loops := [0]) (by kernel_rfl) (by kernel_rfl) ?_ (fun id q1 q2 => absurd q1 q2) (fun id hid hlt => ?_) (fun id hid hlt => absurd (by obtain rfl := List.mem_singleton.1 hid; decide) hlt)
  · show R.gDo C5 _ (drows r.st 0 th) r.w r.st r.fi r.hlo r.hhi r.co r.slo r.shi r.flo r.fhi r.ss.length c0 (vs5 r.ss) (bs nm) th.length c1 (vi th) _
    rw [R.gDo_text]
    exact ⟨0, Nat.zero_le _, rfl⟩
  · obtain rfl := List.mem_singleton.1 hid
    refine ⟨⟨Nat, st, fun i => i ≤ th.length, fun i => th.length - i, fun s bl h => h, [], [], by kernel_rfl, by kernel_rfl, by decide, ?_⟩⟩
    intro i hi
    refine ⟨fun _ _ _ => False, ?_, (fun id2 q1 _ => by cases q1), (fun id2 q1 => by cases q1), (fun id2 q1 => by cases q1)⟩
    show R.rDo1 C5 _ (bfr r.st th i) th.length c1 th.length i (drows (bfr r.st th i) i (th.drop i)) (vi th) _ _ _
    rw [R.rDo1_text]
    refine bc_dec (fun h => ?_) (fun h => ?_)
    · have hi2 : i < th.length := by omega
      simp only [bc_t h, bc_t (show (0 : Int) ≤ (i : Int) by omega), Int.toNat_natCast, at1 (vi_at th i hi2)]
      refine ⟨_, ⟨drows_drop hi2⟩, ⟨i + 1, hi2, by omega, ?_⟩, ⟨none, rfl, .inr rfl⟩⟩
      show R.zDo1 _ _ _ _ _ _ _ = _
      rw [bfr_succ hi2, w64 (by omega) (by omega)]; rfl
    · show (if 0 = 0 then _ else _)
      rw [if_pos rfl]
      show R.nDo2 C5 _ (drows (bfr r.st th i) i (th.drop i)) _
      rw [R.nDo2_text]
      have : i = th.length := by omega
      have e : drows (bfr r.st th i) i (th.drop i) = [] := by rw [this, List.drop_length, drows]
      rw [e]
      exact ⟨some [], rfl, .inl rfl⟩
end Go.Proofs.G5o

/- Chapter 3: whether a schedule holds, in data. -/
namespace Go.Proofs.G5o
open Go Go.Abs Go.Proofs Go.Str
set_option maxRecDepth 100000
/-- one draught's margins: none is surely not -/
def ansR (a : Int) : List (Int × Int) → Option Int
  | [] => some a
  | p :: r => if p.2 < 0 then none else ansR (if p.1 < 0 then 1 else a) r
def ansD (r : Ru) : Nat → Int → Int → List Int → Int
  | _, _, a, [] => a
  | k, b, a, h :: l => match ansR a (mar r k b h) with
    | none => 0
    | some a' => ansD r (k + 1) h a' l
theorem ansD_drop (r : Ru) {k : Nat} {a b : Int} {th : List Int} (hk : k < th.length) : ansD r k b a (th.drop k) = match ansR a (mar r k b th[k]) with | none => 0 | some a' => ansD r (k + 1) th[k] a' (th.drop (k + 1)) := by
  rw [List.drop_eq_getElem_cons hk]; rfl
structure VR (r : Ru) (th : List Int) : Prop where
  v : VS r th
  sts : ∀ s ∈ r.ss, stB s
theorem VR.dr {r : Ru} {th : List Int} (v : VR r th) {i : Nat} (hi : i < th.length) : DrOK r i (bfr r.st th i) th[i] := by
  have h := v.v.at hi
  have hl := v.v.len
  exact ⟨v.v.rng, v.sts, by omega, v.v.n6, by omega, by omega, by omega⟩
theorem conaF (r : Ru) (nm : List UInt8) (th : List Int) (v : VR r th) : C5 77 [r.d, scD nm th] [dI (ansD r 0 r.st 2 th)] := by
  have hl := v.v.len
  have h6 := v.v.n6
  have h0 := v.v.n0
  refine con_JR hokRP mixed [] (L := fun _ s b => ∃ c0 c1, R.zaF1 r.w r.st r.fi r.hlo r.hhi r.co r.ss.length c0 r.slo r.shi r.flo r.fhi 0 2 r.w r.st r.fi r.hlo r.hhi r.co r.ss.length c0 r.slo r.shi r.flo r.fhi (bs nm) th.length c1 (vs5 r.ss) (vi th) = (s, b)) Tryz.func77 rfl (by show 2 ≤ 400; omega) rfl (pts := [50003]) (loops := [50003]) (by kernel_rfl) (by kernel_rfl) (fun caps _ => ?_) (fun id q1 q2 => absurd q1 q2) (fun id hid hlt => absurd hlt (by obtain rfl := List.mem_singleton.1 hid; decide)) (fun id hid hlt => ?_)
  · show R.gaF C5 _ r.w r.st r.fi r.hlo r.hhi r.co r.ss.length (caps 500) (vs5 r.ss) r.slo r.shi r.flo r.fhi (bs nm) th.length (caps 501) (vi th) _
    rw [R.gaF_text]
    exact ⟨caps 500, caps 501, rfl⟩
  · obtain rfl := List.mem_singleton.1 hid
    refine ⟨⟨?_⟩⟩
    rintro s b ⟨c0, c1, e⟩
    cases e
    show R.haF1 r.w r.st r.fi r.hlo r.hhi r.co r.ss.length c0 r.slo r.shi r.flo r.fhi 0 2 r.w r.st r.fi r.hlo r.hhi r.co r.ss.length c0 r.slo r.shi r.flo r.fhi (bs nm) th.length c1 (vs5 r.ss) (vi th) _
    rw [R.haF1_text]
    let st : Int → Slots × Blocks := fun a => R.zaF2 r.w r.st r.fi r.hlo r.hhi r.co r.ss.length c0 r.slo r.shi r.flo r.fhi 0 a (vs5 r.ss)
    refine ⟨drows r.st 0 th, fun rest s b => ∃ i a, i ≤ th.length ∧ rest = drows (bfr r.st th i) i (th.drop i) ∧ ansD r 0 r.st 2 th = ansD r i (bfr r.st th i) a (th.drop i) ∧ st a = (s, b), runDo r c0 c1 nm th (by omega), ⟨0, 2, Nat.zero_le _, rfl, rfl, rfl⟩, ?_, ?_⟩
    · rintro row rest s b ⟨i, a, hi, e1, ha, e2⟩
      have hi2 : i < th.length := by
        refine Nat.lt_of_le_of_ne hi (fun h => ?_)
        rw [h, List.drop_length] at e1; cases e1
      rw [drows_drop hi2] at e1
      obtain ⟨rfl, rfl⟩ := List.cons.inj e1
      rw [ansD_drop r hi2] at ha
      cases e2
      have hd := v.dr hi2
      show R.waF2 C5 r.w r.st r.fi r.hlo r.hhi r.co r.ss.length c0 r.slo r.shi r.flo r.fhi 0 a (vs5 r.ss) (i : Int) (bfr r.st th i) th[i] _ _
      rw [R.waF2_text]
      intro caps
      rw [bc_t (v5le r.ss), v5_whole]
      have go : ∀ a', ansR a (mar r i (bfr r.st th i) th[i]) = some a' → ∃ j x, j ≤ th.length ∧ drows th[i] (i + 1) (th.drop (i + 1)) = drows (bfr r.st th j) j (th.drop j) ∧ ansD r 0 r.st 2 th = ansD r j (bfr r.st th j) x (th.drop j) ∧ st x = st a' := fun a' h => by
        rw [h] at ha
        exact ⟨i + 1, a', hi2, by rw [bfr_succ hi2], by rw [bfr_succ hi2]; exact ha, rfl⟩
      have no : ansR a (mar r i (bfr r.st th i) th[i]) = none → [dI 0] = [dI (ansD r 0 r.st 2 th)] := fun h => by
        rw [h] at ha; rw [ha]
      refine ⟨_, _, _, _, _, _, _, _, ⟨conma r i (bfr r.st th i) th[i] hd⟩, ?_⟩
      simp only [mar, ansR] at go no
      repeat' refine bc_dec (fun _ => ?_) (fun _ => ?_)
      all_goals first
        | (refine go _ ?_; simp [*]; done)
        | (show R.naF4 C5 _ r.w r.st r.fi r.hlo r.hhi r.co r.ss.length c0 r.slo r.shi r.flo r.fhi 0 _ (vs5 r.ss) _; rw [R.naF4_text]; refine no ?_; simp [*]; done)
    · rintro s b ⟨i, a, hi, e1, ha, e2⟩
      have hi2 : i = th.length := Decidable.byContradiction fun h => by
        rw [drows_drop (show i < th.length by omega)] at e1; cases e1
      cases e2
      rw [hi2, List.drop_length, ansD] at ha
      show R.naF3 C5 _ r.w r.st r.fi r.hlo r.hhi r.co r.ss.length c0 r.slo r.shi r.flo r.fhi 0 a (vs5 r.ss) _
      rw [R.naF3_text, ha]
end Go.Proofs.G5o

/- Chapter 3: what is rolled, in data. -/
namespace Go.Proofs.G5o
open Go Go.Abs Go.Proofs Go.Str
set_option maxRecDepth 100000
theorem conrf (r : Ru) (b h s f : Int) (hw : 1 ≤ r.w ∧ r.w ≤ 2500) (_hl : r.ss.length < 1000000000) (h1 : 1 ≤ h) (hb : h ≤ b) (b1 : b ≤ 1000) (hs : 0 ≤ s ∧ s ≤ 100) (hf : 0 ≤ f ∧ f ≤ 100) : C5 71 [r.d, dI b, dI h, dI s, dI f] [dI (frc r.w b h s f)] := by
  refine con_flat hokP mixed Tryz.func71 rfl (by show 1 ≤ 400; omega) rfl (by kernel_rfl) (fun caps => ?_)
  show grf _ _ r.w r.st r.fi r.hlo r.hhi r.co r.ss.length (caps 500) (vs5 r.ss) r.slo r.shi r.flo r.fhi b h s f _
  rw [grf_text]
  have e := frc_bd hw h1 hb b1 hs hf
  refine bc_beq (fun g => ?_) (fun g => ?_)
  · show [dI 0] = _; rw [frc, if_pos g]
  · rw [w64 (z := b - h) (by omega) (by omega), w64 (z := s * (b - h)) (by omega) (by omega), w64 (z := b + h) (by omega) (by omega), w64 (z := f * (b + h)) (by omega) (by omega), w64 (z := s * (b - h) + f * (b + h)) (by omega) (by omega), w64 (by omega) (by omega)]
    try simp only [Qv, true_and]
    rw [frc, if_neg g]
theorem conrt (r : Ru) (b h s f : Int) (hw : 1 ≤ r.w ∧ r.w ≤ 2500) (hl : r.ss.length < 1000000000) (h1 : 1 ≤ h) (hb : h ≤ b) (b1 : b ≤ 1000) (hs : 0 ≤ s ∧ s ≤ 100) (hf : 0 ≤ f ∧ f ≤ 100) : C5 72 [r.d, dI b, dI h, dI s, dI f] [dI (frc r.w b h s f * (b - h))] := by
  refine con_flat hokP mixed Tryz.func72 rfl (by show 1 ≤ 400; omega) rfl (by kernel_rfl) (fun caps => ?_)
  show grt _ _ r.w r.st r.fi r.hlo r.hhi r.co r.ss.length (caps 500) (vs5 r.ss) r.slo r.shi r.flo r.fhi b h s f _
  rw [grt_text, bc_t (v5le r.ss), v5_whole]
  have e := (frc_bd hw h1 hb b1 hs hf).2.2.2
  have e1 := mulB 750000000 1000 e (show 0 ≤ b - h ∧ b - h ≤ 1000 by omega)
  refine ⟨_, ⟨conrf r b h s f hw hl h1 hb b1 hs hf⟩, ?_⟩
  rw [w64 (z := b - h) (by omega) (by omega), w64 (by omega) (by omega)]
  try simp only [Qv, true_and]
theorem conrb (s : Fv) (b h f : Int) (hs : stB s) (h1 : 1 ≤ h) (hb : h ≤ b) (b1 : b ≤ 1000) (hf : 0 ≤ f ∧ f ≤ 100) : C5 110 [.agg [dI s.a, dI s.b, dI s.c, dI s.d, dI s.e], dI b, dI h, dI f] [dI (if b = h then 0 else f * s.a - 100 * (b - h))] := by
  refine con_flat hokP mixed Tryz.func110 rfl (by show 0 ≤ 400; omega) rfl (by kernel_rfl) (fun caps => ?_)
  show grb _ _ s.a s.b s.c s.d s.e b h f _
  rw [grb_text]
  have e1 := mulB 100 1000 hf (show 0 ≤ s.a ∧ s.a ≤ 1000 by have := hs.1; omega)
  refine bc_beq (fun g => ?_) (fun g => ?_)
  · show [dI 0] = _; rw [if_pos g]
  · rw [w64 (z := f * s.a) (by omega) (by omega), w64 (z := b - h) (by omega) (by omega), w64 (z := 100 * (b - h)) (by omega) (by omega), w64 (by omega) (by omega)]
    try simp only [Qv, true_and]
    rw [if_neg g]
theorem conrh (r : Ru) (h s start lost : Int) (_hl : r.ss.length < 1000000000) (h1 : -1000 ≤ r.st - h ∧ r.st - h ≤ 1000) (hs : 0 ≤ s ∧ s ≤ 100) (h2 : 0 ≤ start ∧ start ≤ 20000) (h3 : 0 ≤ lost ∧ lost ≤ 100000) : C5 74 [r.d, dI h, dI s, dI start, dI lost] [dI (100 * (start - lost) + (r.st - h) * s)] := by
  refine con_flat hokP mixed Tryz.func74 rfl (by show 1 ≤ 400; omega) rfl (by kernel_rfl) (fun caps => ?_)
  show grh _ _ r.w r.st r.fi r.hlo r.hhi r.co r.ss.length (caps 500) (vs5 r.ss) r.slo r.shi r.flo r.fhi h s start lost _
  rw [grh_text]
  have e1 := mulS 1000 100 h1 hs
  rw [Int.mul_comm s, w64 (z := start - lost) (by omega) (by omega), w64 (z := 100 * (start - lost)) (by omega) (by omega), w64 (z := r.st - h) (by omega) (by omega), w64 (z := (r.st - h) * s) (by omega) (by omega), w64 (by omega) (by omega)]
/-! ### valid rules, schedules, materials -/
theorem stE_ok {s : Fv} (h : stE s = 0) : stB s ∧ s.d ≤ s.e := by
  unfold stE at h
  split at h
  · split at h
    · exact ⟨by assumption, by assumption⟩
    · simp at h
  · simp at h
theorem stsE_ok : ∀ {l : List Fv} {i : Int}, (stsE i l).2 = 0 → ∀ s ∈ l, stB s ∧ s.d ≤ s.e
  | [], _, _ => fun s hs => by cases hs
  | s :: r, i, h => by
    rw [stsE] at h
    split at h
    · rename_i h0
      intro t ht
      rcases List.mem_cons.1 ht with rfl | ht
      · exact stE_ok h0
      · exact stsE_ok h t ht
    · rename_i h0; exact absurd h h0
theorem vr_of {r : Ru} {nm : List UInt8} {th : List Int} (h1 : (chk r).2 = 0) (h2 : (schE r nm th).2 = 0) : VR r th := by
  have v := vs_of h1 h2
  refine ⟨v, fun s hs => ?_⟩
  rw [chk_cnt v.rng v.ord] at h1
  have hc : cntE r.ss.length = 0 := by
    have := v.n0; have := v.n6
    rw [cntE, if_neg (by omega), if_neg (by omega)]
  rw [if_pos hc] at h1
  exact (stsE_ok h1 s hs).1
end Go.Proofs.G5o

/- Chapter 3: whether a schedule holds; temperatures of all materials. -/
namespace Go.Proofs.G5o
open Go Go.Abs Go.Proofs Go.Str
set_option maxRecDepth 100000
theorem conHFb (r : Ru) (nm : List UInt8) (th : List Int) (hlen : r.ss.length < 1000000000) (hth : th.length < 1000000000) (h : (schP r nm th).2 ≠ 0) : C5 30 [r.d, scD nm th] [dI 0, dI (schP r nm th).2] := by
  refine con_flat hokP mixed Tryz.func30 rfl (by show 2 ≤ 400; omega) rfl (by kernel_rfl) (fun caps => ?_)
  show gHF _ _ r.w r.st r.fi r.hlo r.hhi r.co r.ss.length (caps 500) (vs5 r.ss) r.slo r.shi r.flo r.fhi (bs nm) th.length (caps 501) (vi th) _
  rw [gHF_text, bc_t (v5le r.ss), bc_t (v1le th), v5_whole, v1_whole]
  refine ⟨_, _, ⟨conKS r nm th hlen hth⟩, ?_⟩
  rw [bc_n h, bc_n h]
theorem conHF (r : Ru) (nm : List UInt8) (th : List Int) (v : VR r th) (h : (schP r nm th).2 = 0) : C5 30 [r.d, scD nm th] [dI (ansD r 0 r.st 2 th), dI 0] := by
  have hl := v.v.len
  have h6 := v.v.n6
  refine con_flat hokP mixed Tryz.func30 rfl (by show 2 ≤ 400; omega) rfl (by kernel_rfl) (fun caps => ?_)
  show gHF _ _ r.w r.st r.fi r.hlo r.hhi r.co r.ss.length (caps 500) (vs5 r.ss) r.slo r.shi r.flo r.fhi (bs nm) th.length (caps 501) (vi th) _
  rw [gHF_text, bc_t (v5le r.ss), bc_t (v1le th), v5_whole, v1_whole]
  refine ⟨_, _, ⟨conKS r nm th (by omega) (by omega)⟩, bc_bne (fun hc => absurd h hc) (fun _ => ?_)⟩
  try simp only [bc_t (v5le r.ss), bc_t (v1le th)]
  exact ⟨_, ⟨conaF r nm th v⟩, rfl⟩
/-- spans as cells -/
def vq : List ((Int × Int) × (Int × Int)) → List Value
  | [] => []
  | p :: r => .int .i64 p.1.1 :: .int .i64 p.1.2 :: .int .i64 p.2.1 :: .int .i64 p.2.2 :: vq r
@[simp] theorem vq_length : ∀ l : List ((Int × Int) × (Int × Int)), (vq l).length = l.length * 4
  | [] => rfl
  | p :: r => by simp only [vq, List.length_cons, vq_length r]; omega
/-- the spans of the temperatures after each stand -/
def spans (r : Ru) (th : List Int) : List ((Int × Int) × (Int × Int)) := (List.range th.length).map fun i => (low (hL r i (th.getD i 0)) 100, low (hH r i (th.getD i 0)) 100)
end Go.Proofs.G5o

/- Chapter 3: valid rules and schedules. -/
namespace Go.Proofs.G5o
open Go Go.Abs Go.Proofs Go.Str
set_option maxRecDepth 100000
theorem schP_bad {r : Ru} {nm : List UInt8} {th : List Int} (h : (chk r).2 ≠ 0) : schP r nm th = (0, (chk r).2) := by rw [schP, if_neg h]
theorem schP_good {r : Ru} {nm : List UInt8} {th : List Int} (h : (chk r).2 = 0) : schP r nm th = schE r nm th := by rw [schP, if_pos h]
theorem chk_pos {r : Ru} (h1 : (chk r).2 = 0) : 0 < r.ss.length := by
  have hr : rngB r := Decidable.byContradiction fun h => by rw [chk_rng h] at h1; simp at h1
  have ho : ordB r := Decidable.byContradiction fun h => by rw [chk_ord hr h] at h1; simp at h1
  rw [chk_cnt hr ho] at h1
  have hc : cntE r.ss.length = 0 := Decidable.byContradiction fun h => by rw [if_neg h] at h1; exact h h1
  refine Nat.pos_of_ne_zero fun h => ?_
  rw [cntE, if_pos h] at hc; simp at hc
theorem schE_nil {r : Ru} (nm : List UInt8) (h0 : 0 < r.ss.length) : (schE r nm []).2 ≠ 0 := by
  rw [schE]
  split
  · rw [if_neg (by simp; omega)]; decide
  · decide
end Go.Proofs.G5o

/- Chapter 3: the reference's loads and margins, in data. -/
namespace Go.Proofs.G5o
open Go Go.Abs Go.Proofs Go.Str
set_option maxRecDepth 100000
/-- a pair for each stand, from the thicknesses before and after it -/
def tabl (f : Nat → Int → Int → Int × Int) (b : Int) (th : List Int) : List (Int × Int) := (List.range th.length).map fun i => f i (bfr b th i) (th.getD i 0)
theorem tabl_len (f : Nat → Int → Int → Int × Int) (b : Int) (th : List Int) : (tabl f b th).length = th.length := by simp [tabl]
theorem tabl_at {f : Nat → Int → Int → Int × Int} {b : Int} {th : List Int} {i : Nat} (hi : i < th.length) : (tabl f b th)[i]'(by rw [tabl_len]; exact hi) = f i (bfr b th i) th[i] := by
  simp only [tabl, List.getElem_map, List.getElem_range, getD_at hi]
def mP (r : Ru) (lim : Int) : Nat → Int → Int → Int × Int := fun k b h => (mar r k b h).getD lim.toNat (0, 0)
theorem v5_d {l : List Fv} {k : Nat} (h : k < l.length) : At (vs5 l) (0 + k * 5 + 3) 1 [.int .i64 l[k].d] := by
  have e := vs5_all l k h
  refine ⟨by rw [vs5_length]; omega, ?_⟩
  rw [Nat.zero_add, ← List.drop_drop, vs5_drop, List.drop_eq_getElem_cons h, vs5_cons]
  simp [Fv.row]
theorem v5_e1 {l : List Fv} {k : Nat} (h : k < l.length) : At (vs5 l) (0 + k * 5 + 4) 1 [.int .i64 l[k].e] := by
  refine ⟨by rw [vs5_length]; omega, ?_⟩
  rw [Nat.zero_add, ← List.drop_drop, vs5_drop, List.drop_eq_getElem_cons h, vs5_cons]
  simp [Fv.row]
theorem conls (r : Ru) (k : Nat) (hk : k < r.ss.length) (h6 : r.ss.length ≤ 6) (hs : ∀ s ∈ r.ss, stB s) : C5 73 [r.d, dI k] [.agg [dI (sumD (r.ss.take (k + 1))), dI (sumE (r.ss.take (k + 1)))]] := by
  let inv : Nat × Nat × Int × Int → Prop := fun x => x.1 ≤ k + 1
  let st : Nat × Nat × Int × Int → Slots × Blocks := fun x => zls1 (k : Int) (x.1 : Int) r.w r.st r.fi r.hlo r.hhi r.co r.ss.length x.2.1 r.slo r.shi r.flo r.fhi x.2.2.1 x.2.2.2 (sumD (r.ss.take x.1)) (sumE (r.ss.take x.1)) (vs5 r.ss)
  refine con_of (L := fun _ s b => ∃ x, inv x ∧ st x = (s, b)) hokP mixed Tryz.func73 rfl (by show 1 ≤ 400; omega) rfl (ids := [0]) (by kernel_rfl) rfl (fun caps => ?_) (fun id hid => ?_)
  · show gls _ _ r.w r.st r.fi r.hlo r.hhi r.co r.ss.length (caps 500) (vs5 r.ss) r.slo r.shi r.flo r.fhi (k : Int) _
    rw [gls_text]
    exact ⟨(0, caps 500, 0, 0), Nat.zero_le _, rfl⟩
  · obtain rfl := List.mem_singleton.1 hid
    refine ⟨Nat × Nat × Int × Int, st, inv, fun x => k + 1 - x.1, ⟨fun s b h => h, by kernel_rfl, ?_⟩⟩
    rintro ⟨i, c1, y1, y2⟩ hi
    have hi : i ≤ k + 1 := hi
    show rls1 _ _ (k : Int) (i : Int) r.w r.st r.fi r.hlo r.hhi r.co r.ss.length c1 r.slo r.shi r.flo r.fhi y1 y2 (sumD (r.ss.take i)) (sumE (r.ss.take i)) (vs5 r.ss) _ _ _
    rw [rls1_text]
    refine bc_dec (fun h => ?_) (fun h => ?_)
    · have hi2 : i < r.ss.length := by omega
      have a1 : At (vs5 r.ss) (Go.Addr.off { block := 500, off := 0 + i * 5 } + 3) 1 _ := v5_d hi2
      have a2 : At (vs5 r.ss) (Go.Addr.off (Go.Addr.add { block := 500, off := 0 + i * 5 } 3) + 1) 1 _ := v5_e1 hi2
      have b1 := sum_bd hs (i + 1) (by omega)
      rw [sumD_snoc hi2, sumE_snoc hi2] at b1
      have b0 := sum_bd hs i (by omega)
      simp only [bc_t (show (0 : Int) ≤ (i : Int) by omega), bc_t (show (i : Int) < (r.ss.length : Int) by omega), Int.toNat_natCast, at1 a1, at1 a2, Qv, eq_self, true_and, and_true]
      refine ⟨rfl, (i + 1, c1, y1, y2), by show i + 1 ≤ k + 1; omega, by show k + 1 - (i + 1) < k + 1 - i; omega, ?_⟩
      show zls1 _ _ _ _ _ _ _ _ _ _ _ _ _ _ _ _ _ _ _ = _
      rw [sumD_snoc hi2, sumE_snoc hi2, w64 (z := sumD (r.ss.take i) + r.ss[i].d) (by omega) (by omega), w64 (z := sumE (r.ss.take i) + r.ss[i].e) (by omega) (by omega), w64 (by omega) (by omega)]
      rfl
    · show (if 0 = 0 then _ else _)
      rw [if_pos rfl]
      have hi2 : i = k + 1 := by omega
      show nls2 _ _ y1 y2 (sumD (r.ss.take i)) (sumE (r.ss.take i)) _
      rw [nls2_text, hi2]
theorem conmg (r : Ru) (k : Nat) (b h lim : Int) (v : DrOK r k b h) (hl : 0 ≤ lim ∧ lim < 4) : C5 82 [r.d, dI k, dI b, dI h, dI lim] [.agg [dI (mP r lim k b h).1, dI (mP r lim k b h).2]] := by
  have hn := v.n
  refine con_flat hokP mixed Tryz.func82 rfl (by show 1 ≤ 400; omega) rfl (by kernel_rfl) (fun caps => ?_)
  show gmg _ _ r.w r.st r.fi r.hlo r.hhi r.co r.ss.length (caps 500) (vs5 r.ss) r.slo r.shi r.flo r.fhi (k : Int) b h lim _
  rw [gmg_text]
  have hk := v.k
  have sb := v.sts _ (List.getElem_mem hk)
  have f1 := v.fl
  have f2 := v.fh
  have sl := v.sl
  have bd := v.ht
  have hb := v.hb
  have b1 := v.b1
  have h1 := v.h1
  have t1 := mulB 750000000 1000 f1 (show 0 ≤ b - h ∧ b - h ≤ 1000 by omega)
  have t2 := mulB 750000000 1000 f2 (show 0 ≤ b - h ∧ b - h ≤ 1000 by omega)
  have es := stA_at hk
  have sd := sum_bd v.sts (k + 1) (by omega)
  have rg := v.rng
  unfold rngB at rg
  unfold stB at sb
  simp only [bc_t (show (0 : Int) ≤ (k : Int) by omega), bc_t (show (k : Int) < (r.ss.length : Int) by omega), Int.toNat_natCast, at5 (vs5_all r.ss k hk), bc_t (v5le r.ss), v5_whole, Qv, eq_self, true_and, and_true]
  refine bc_beq (fun e => ?_) (fun e => bc_beq (fun e2 => ?_) (fun e2 => bc_beq (fun e3 => ?_) (fun e3 => ?_)))
  · subst e
    refine ⟨_, ⟨conrf r b h r.shi r.fhi v.rng.1 (by omega) h1 hb b1 sl.2.1 sl.2.2.2⟩, _, ⟨conrf r b h r.slo r.flo v.rng.1 (by omega) h1 hb b1 sl.1 sl.2.2.1⟩, ?_⟩
    rw [w64 (z := r.ss[k].b - fh r b h) (by omega) (by omega), w64 (z := r.ss[k].b - fl r b h) (by omega) (by omega), w64 (by omega) (by omega), w64 (by omega) (by omega)]
    simp only [mP, mar, es]; rfl
  · subst e2
    refine ⟨_, ⟨conrt r b h r.shi r.fhi v.rng.1 (by omega) h1 hb b1 sl.2.1 sl.2.2.2⟩, _, ⟨conrt r b h r.slo r.flo v.rng.1 (by omega) h1 hb b1 sl.1 sl.2.2.1⟩, ?_⟩
    rw [w64 (z := r.ss[k].c - fh r b h * (b - h)) (by omega) (by omega), w64 (z := r.ss[k].c - fl r b h * (b - h)) (by omega) (by omega), w64 (by omega) (by omega), w64 (by omega) (by omega)]
    simp only [mP, mar, es]; rfl
  · subst e3
    refine ⟨_, ⟨conrb r.ss[k] b h r.flo (v.sts _ (List.getElem_mem hk)) h1 hb b1 sl.2.2.1⟩, _, ⟨conrb r.ss[k] b h r.fhi (v.sts _ (List.getElem_mem hk)) h1 hb b1 sl.2.2.2⟩, ?_⟩
    simp only [mP, mar, bit, es]; rfl
  · have e4 : lim = 3 := by omega
    subst e4
    refine ⟨_, _, ⟨conls r k hk hn v.sts⟩, _, ⟨conrh r h r.slo r.hlo _ (by omega) (by omega) sl.1 (by omega) (by omega)⟩, _, ⟨conrh r h r.shi r.hhi _ (by omega) (by omega) sl.2.1 (by omega) (by omega)⟩, ?_⟩
    have x1 : 100 * (r.hlo - sumE (r.ss.take (k + 1))) + (r.st - h) * r.slo = hL r k h := rfl
    have x2 : 100 * (r.hhi - sumD (r.ss.take (k + 1))) + (r.st - h) * r.shi = hH r k h := rfl
    rw [x1, x2, w64 (z := 100 * r.co) (by omega) (by omega), w64 (by omega) (by omega), w64 (by omega) (by omega)]
    simp only [mP, mar]; rfl
theorem conMg (r : Ru) (nm : List UInt8) (th : List Int) (lim : Int) (hlim : 0 ≤ lim ∧ lim < 4) (v : VR r th) : C5 35 [r.d, scD nm th, dI lim] [.sl th.length 2 (vp (tabl (mP r lim) r.st th))] := by
  have hl := v.v.len
  have h6 := v.v.n6
  have h0 := v.v.n0
  let inv : Nat × Nat × Nat → Prop := fun x => x.1 ≤ th.length
  let st : Nat × Nat × Nat → Slots × Blocks := fun x => match x.1 with
    | 0 => zMg1 lim 0 r.w r.st r.fi r.hlo r.hhi r.co r.ss.length x.2.1 r.slo r.shi r.flo r.fhi (bs nm) th.length x.2.2 (vs5 r.ss) (vi th)
    | i + 1 => zMg2 lim (i + 1) ((i + 1 : Nat) : Int) r.w r.st r.fi r.hlo r.hhi r.co r.ss.length x.2.1 r.slo r.shi r.flo r.fhi (bs nm) th.length x.2.2 (vp ((tabl (mP r lim) r.st th).take (i + 1))) (vs5 r.ss) (vi th)
  refine con_of (L := fun _ s b => ∃ x, inv x ∧ st x = (s, b)) hokP mixed Tryz.func35 rfl (by show 2 ≤ 400; omega) rfl (ids := [0]) (by kernel_rfl) rfl (fun caps => ?_) (fun id hid => ?_)
  · show gMg _ _ r.w r.st r.fi r.hlo r.hhi r.co r.ss.length (caps 500) (vs5 r.ss) r.slo r.shi r.flo r.fhi (bs nm) th.length (caps 501) (vi th) lim _
    rw [gMg_text]
    exact ⟨(0, caps 500, caps 501), Nat.zero_le _, rfl⟩
  · obtain rfl := List.mem_singleton.1 hid
    refine ⟨Nat × Nat × Nat, st, inv, fun x => th.length - x.1, ⟨fun s b h => h, by kernel_rfl, ?_⟩⟩
    rintro ⟨i, c1, c2⟩ hi
    have hi : i ≤ th.length := hi
    cases i with
    | zero =>
      have h : 0 < th.length := by omega
      have hd := v.dr h
      show rMg1 _ _ lim ((0 : Nat) : Int) r.w r.st r.fi r.hlo r.hhi r.co r.ss.length c1 r.slo r.shi r.flo r.fhi (bs nm) th.length c2 (vs5 r.ss) (vi th) _ _ _
      rw [rMg1_text]
      simp only [bc_t (show ((0 : Nat) : Int) < (r.ss.length : Int) by omega), bc_t (v5le r.ss), bc_t (v1le th), v5_whole, v1_whole, bc_t (show (0 : Int) ≤ ((0 : Nat) : Int) by omega), bc_t (show ((0 : Nat) : Int) < (th.length : Int) by omega), Int.toNat_natCast, at1 (vi_at th 0 h), Qv, eq_self, true_and, and_true]
      refine ⟨_, ⟨conbf r nm th 0 h (by omega)⟩, _, _, ⟨conmg r 0 (bfr r.st th 0) th[0] lim hd hlim⟩, ?_⟩
      refine ⟨(1, c1, c2), h, by show th.length - 1 < th.length - 0; omega, ?_⟩
      have e := vp_snoc (l := tabl (mP r lim) r.st th) (i := 0) (by rw [tabl_len]; exact h) (tabl_at h)
      show zMg2 _ _ _ _ _ _ _ _ _ _ _ _ _ _ _ _ _ _ _ _ _ = _
      rw [w64 (by omega) (by omega), ← e]; rfl
    | succ i =>
      show rMg2 _ _ lim (i + 1) ((i + 1 : Nat) : Int) r.w r.st r.fi r.hlo r.hhi r.co r.ss.length c1 r.slo r.shi r.flo r.fhi (bs nm) th.length c2 (vp ((tabl (mP r lim) r.st th).take (i + 1))) (vs5 r.ss) (vi th) _ _ _
      rw [rMg2_text]
      have el : (vp ((tabl (mP r lim) r.st th).take (i + 1))).length = (i + 1) * 2 := by
        rw [vp_length, List.length_take, tabl_len]; omega
      refine bc_dec (fun hlt => ?_) (fun hlt => ?_)
      · have h : i + 1 < th.length := by omega
        have hd := v.dr h
        simp only [bc_t (v5le r.ss), bc_t (v1le th), v5_whole, v1_whole, bc_t (show (0 : Int) ≤ ((i + 1 : Nat) : Int) by omega), bc_t (show ((i + 1 : Nat) : Int) < (th.length : Int) by omega), Int.toNat_natCast, at1 (vi_at th (i + 1) h), Qv, eq_self, true_and, and_true]
        refine ⟨_, ⟨conbf r nm th (i + 1) h (by omega)⟩, _, _, ⟨conmg r (i + 1) (bfr r.st th (i + 1)) th[(i + 1)] lim hd hlim⟩, ?_⟩
        have e := vp_snoc (l := tabl (mP r lim) r.st th) (i := i + 1) (by rw [tabl_len]; exact h) (tabl_at h)
        rw [bc_t (show i + 1 < i + 1 + 1 by omega), bc_t (show (2 * (i + 1 + 1) + 768) * 16 ≤ 281474976710656 by omega), bc_t (show i + 1 + 1 ≤ 1099511627776 by omega), bc_t (show 0 + (i + 1) * 2 ≤ (vp ((tabl (mP r lim) r.st th).take (i + 1))).length by omega), bc_t (show 0 + (i + 1) * 2 = (vp ((tabl (mP r lim) r.st th).take (i + 1))).length by omega)]
        refine ⟨(i + 2, c1, c2), h, by show th.length - (i + 2) < th.length - (i + 1); omega, ?_⟩
        show zMg2 _ _ _ _ _ _ _ _ _ _ _ _ _ _ _ _ _ _ _ _ _ = _
        rw [← e, w64 (by omega) (by omega)]; rfl
      · show (if 0 = 0 then _ else _)
        rw [if_pos rfl]
        show nMg4 _ _ (i + 1) (vp ((tabl (mP r lim) r.st th).take (i + 1))) _
        have hl2 : i + 1 = th.length := by omega
        rw [nMg4_text]
        simp only [Qv, true_and]
        refine ⟨el, ?_⟩
        rw [List.take_of_length_le (by rw [tabl_len]; omega), hl2]
end Go.Proofs.G5o

/- Chapter 3: forces, torques and margins of all stands, in data. -/
namespace Go.Proofs.G5o
open Go Go.Abs Go.Proofs Go.Str
set_option maxRecDepth 100000
abbrev mV (r : Ru) (c0 : Nat) : Value := .agg #[.int .i64 r.w, .int .i64 r.st, .int .i64 r.fi, .int .i64 r.hlo, .int .i64 r.hhi, .int .i64 r.co, .slice (some ⟨500, 0, none⟩) r.ss.length c0, .int .i64 r.slo, .int .i64 r.shi, .int .i64 r.flo, .int .i64 r.fhi]
abbrev sV (nm : List UInt8) (th : List Int) (c1 : Nat) : Value := .agg #[.string (bs nm), .slice (some ⟨501, 0, none⟩) th.length c1]
abbrev mO (r : Ru) (c0 : Nat) : AObj := .cells [.int .i64 r.w, .int .i64 r.st, .int .i64 r.fi, .int .i64 r.hlo, .int .i64 r.hhi, .int .i64 r.co, .slice (some ⟨500, 0, none⟩) r.ss.length c0, .int .i64 r.slo, .int .i64 r.shi, .int .i64 r.flo, .int .i64 r.fhi] 89 false 11
theorem runEM0 (r : Ru) (c0 c1 : Nat) (nm : List UInt8) (th : List Int) (w : VR r th) :
    freshS Tryz.prog 64 2 [mV r c0, sV nm th c1, .func (.func 75) #[] #[.pointer (some ⟨502, 0, none⟩), .pointer (some ⟨503, 0, none⟩)]] [(500, .sym (vs5 r.ss) false 5), (501, .sym (vi th) false 1), (502, mO r c0), (503, .cells [.int .i64 0] 3 false 1)] th.length (vp (tabl (mP r 0) r.st th)) := by
  have v := w.v
  have hl := v.len
  have h6 := v.n6
  have h0 := v.n0
  let st : Nat → Slots × Blocks := fun i => match i with
    | 0 => R.zeM02 r.w r.st r.fi r.hlo r.hhi r.co r.ss.length c0 r.slo r.shi r.flo r.fhi (vs5 r.ss)
    | i + 1 => R.zeM04 (i + 1) r.w r.st r.fi r.hlo r.hhi r.co r.ss.length c0 r.slo r.shi r.flo r.fhi (vp ((tabl (mP r 0) r.st th).take (i + 1))) (vs5 r.ss)
  refine callS_JR hokRP mixed [] (L := fun _ s b => R.zeM01 r.w r.st r.fi r.hlo r.hhi r.co r.ss.length c0 r.slo r.shi r.flo r.fhi (bs nm) th.length c1 r.w r.st r.fi r.hlo r.hhi r.co r.ss.length c0 r.slo r.shi r.flo r.fhi (vs5 r.ss) (vi th) = (s, b)) Tryz.func64 rfl (.inl rfl) (pts := [50003]) (loops := [50003]) (by kernel_rfl) (by kernel_rfl) ?_ (fun id q1 q2 => absurd q1 q2) (fun id hid hlt => absurd hlt (by obtain rfl := List.mem_singleton.1 hid; decide)) (fun id hid hlt => ?_)
  · show R.geM0 C5 _ r.w r.st r.fi r.hlo r.hhi r.co r.slo r.shi r.flo r.fhi r.ss.length c0 (vs5 r.ss) (bs nm) th.length c1 (vi th) _
    rw [R.geM0_text]
  · obtain rfl := List.mem_singleton.1 hid
    refine ⟨⟨?_⟩⟩
    rintro s b e
    cases e
    show R.heM01 r.w r.st r.fi r.hlo r.hhi r.co r.ss.length c0 r.slo r.shi r.flo r.fhi (bs nm) th.length c1 r.w r.st r.fi r.hlo r.hhi r.co r.ss.length c0 r.slo r.shi r.flo r.fhi (vs5 r.ss) (vi th) _
    rw [R.heM01_text]
    refine ⟨drows r.st 0 th, fun rest s b => ∃ i, i ≤ th.length ∧ rest = drows (bfr r.st th i) i (th.drop i) ∧ st i = (s, b), runDo r c0 c1 nm th (by omega), ⟨0, Nat.zero_le _, rfl, rfl⟩, ?_, ?_⟩
    · rintro row rest s b ⟨i, hi, e1, e2⟩
      have hi2 : i < th.length := by
        refine Nat.lt_of_le_of_ne hi (fun h => ?_)
        rw [h, List.drop_length] at e1; cases e1
      rw [drows_drop hi2] at e1
      obtain ⟨rfl, rfl⟩ := List.cons.inj e1
      have hd := w.dr hi2
      have e := vp_snoc (l := tabl (mP r 0) r.st th) (i := i) (by rw [tabl_len]; exact hi2) (tabl_at hi2)
      cases i with
      | zero =>
        cases e2
        show R.weM02 C5 r.w r.st r.fi r.hlo r.hhi r.co r.ss.length c0 r.slo r.shi r.flo r.fhi (vs5 r.ss) ((0 : Nat) : Int) (bfr r.st th 0) th[0] _ _
        rw [R.weM02_text]
        intro caps
        simp only [bc_t (v5le r.ss), v5_whole, Qv, eq_self, true_and, and_true]
        refine ⟨_, _, _, _, _, _, _, _, ⟨conma r 0 (bfr r.st th 0) th[0] hd⟩, ?_⟩
        try dsimp only
        refine ⟨1, hi2, by rw [bfr_succ hi2], ?_⟩
        show R.zeM04 _ _ _ _ _ _ _ _ _ _ _ _ _ _ _ = _
        rw [← e]; rfl
      | succ i =>
        cases e2
        show R.weM04 C5 (i + 1) r.w r.st r.fi r.hlo r.hhi r.co r.ss.length c0 r.slo r.shi r.flo r.fhi (vp ((tabl (mP r 0) r.st th).take (i + 1))) (vs5 r.ss) ((i + 1 : Nat) : Int) (bfr r.st th (i + 1)) th[i + 1] _ _
        rw [R.weM04_text]
        intro caps
        have el : (vp ((tabl (mP r 0) r.st th).take (i + 1))).length = (i + 1) * 2 := by
          rw [vp_length, List.length_take, tabl_len]; omega
        simp only [bc_t (v5le r.ss), v5_whole, Qv, eq_self, true_and, and_true]
        refine ⟨_, _, _, _, _, _, _, _, ⟨conma r (i + 1) (bfr r.st th (i + 1)) th[i + 1] hd⟩, ?_⟩
        try dsimp only
        rw [bc_t (show i + 1 < i + 1 + 1 by omega), bc_t (show (2 * (i + 1 + 1) + 768) * 16 ≤ 281474976710656 by omega), bc_t (show i + 1 + 1 ≤ 1099511627776 by omega), bc_t (show 0 + (i + 1) * 2 ≤ (vp ((tabl (mP r 0) r.st th).take (i + 1))).length by omega), bc_t (show 0 + (i + 1) * 2 = (vp ((tabl (mP r 0) r.st th).take (i + 1))).length by omega)]
        refine ⟨i + 2, hi2, by rw [bfr_succ hi2], ?_⟩
        show R.zeM04 _ _ _ _ _ _ _ _ _ _ _ _ _ _ _ = _
        rw [← e]
    · rintro s b ⟨i, hi, e1, e2⟩
      have hi2 : i = th.length := Decidable.byContradiction fun h => by
        rw [drows_drop (show i < th.length by omega)] at e1; cases e1
      obtain ⟨j, rfl⟩ : ∃ j, i = j + 1 := ⟨i - 1, by omega⟩
      cases e2
      show R.neM05 C5 _ (j + 1) r.w r.st r.fi r.hlo r.hhi r.co r.ss.length c0 r.slo r.shi r.flo r.fhi (vp ((tabl (mP r 0) r.st th).take (j + 1))) (vs5 r.ss) _
      rw [R.neM05_text, List.take_of_length_le (by rw [tabl_len]; omega), hi2]
      exact ⟨rfl, rfl⟩
theorem runEM1 (r : Ru) (c0 c1 : Nat) (nm : List UInt8) (th : List Int) (w : VR r th) :
    freshS Tryz.prog 64 2 [mV r c0, sV nm th c1, .func (.func 75) #[] #[.pointer (some ⟨502, 0, none⟩), .pointer (some ⟨503, 0, none⟩)]] [(500, .sym (vs5 r.ss) false 5), (501, .sym (vi th) false 1), (502, mO r c0), (503, .cells [.int .i64 1] 3 false 1)] th.length (vp (tabl (mP r 1) r.st th)) := by
  have v := w.v
  have hl := v.len
  have h6 := v.n6
  have h0 := v.n0
  let st : Nat → Slots × Blocks := fun i => match i with
    | 0 => R.zeM12 r.w r.st r.fi r.hlo r.hhi r.co r.ss.length c0 r.slo r.shi r.flo r.fhi (vs5 r.ss)
    | i + 1 => R.zeM14 (i + 1) r.w r.st r.fi r.hlo r.hhi r.co r.ss.length c0 r.slo r.shi r.flo r.fhi (vp ((tabl (mP r 1) r.st th).take (i + 1))) (vs5 r.ss)
  refine callS_JR hokRP mixed [] (L := fun _ s b => R.zeM11 r.w r.st r.fi r.hlo r.hhi r.co r.ss.length c0 r.slo r.shi r.flo r.fhi (bs nm) th.length c1 r.w r.st r.fi r.hlo r.hhi r.co r.ss.length c0 r.slo r.shi r.flo r.fhi (vs5 r.ss) (vi th) = (s, b)) Tryz.func64 rfl (.inl rfl) (pts := [50003]) (loops := [50003]) (by kernel_rfl) (by kernel_rfl) ?_ (fun id q1 q2 => absurd q1 q2) (fun id hid hlt => absurd hlt (by obtain rfl := List.mem_singleton.1 hid; decide)) (fun id hid hlt => ?_)
  · show R.geM1 C5 _ r.w r.st r.fi r.hlo r.hhi r.co r.slo r.shi r.flo r.fhi r.ss.length c0 (vs5 r.ss) (bs nm) th.length c1 (vi th) _
    rw [R.geM1_text]
  · obtain rfl := List.mem_singleton.1 hid
    refine ⟨⟨?_⟩⟩
    rintro s b e
    cases e
    show R.heM11 r.w r.st r.fi r.hlo r.hhi r.co r.ss.length c0 r.slo r.shi r.flo r.fhi (bs nm) th.length c1 r.w r.st r.fi r.hlo r.hhi r.co r.ss.length c0 r.slo r.shi r.flo r.fhi (vs5 r.ss) (vi th) _
    rw [R.heM11_text]
    refine ⟨drows r.st 0 th, fun rest s b => ∃ i, i ≤ th.length ∧ rest = drows (bfr r.st th i) i (th.drop i) ∧ st i = (s, b), runDo r c0 c1 nm th (by omega), ⟨0, Nat.zero_le _, rfl, rfl⟩, ?_, ?_⟩
    · rintro row rest s b ⟨i, hi, e1, e2⟩
      have hi2 : i < th.length := by
        refine Nat.lt_of_le_of_ne hi (fun h => ?_)
        rw [h, List.drop_length] at e1; cases e1
      rw [drows_drop hi2] at e1
      obtain ⟨rfl, rfl⟩ := List.cons.inj e1
      have hd := w.dr hi2
      have e := vp_snoc (l := tabl (mP r 1) r.st th) (i := i) (by rw [tabl_len]; exact hi2) (tabl_at hi2)
      cases i with
      | zero =>
        cases e2
        show R.weM12 C5 r.w r.st r.fi r.hlo r.hhi r.co r.ss.length c0 r.slo r.shi r.flo r.fhi (vs5 r.ss) ((0 : Nat) : Int) (bfr r.st th 0) th[0] _ _
        rw [R.weM12_text]
        intro caps
        simp only [bc_t (v5le r.ss), v5_whole, Qv, eq_self, true_and, and_true]
        refine ⟨_, _, _, _, _, _, _, _, ⟨conma r 0 (bfr r.st th 0) th[0] hd⟩, ?_⟩
        try dsimp only
        refine ⟨1, hi2, by rw [bfr_succ hi2], ?_⟩
        show R.zeM14 _ _ _ _ _ _ _ _ _ _ _ _ _ _ _ = _
        rw [← e]; rfl
      | succ i =>
        cases e2
        show R.weM14 C5 (i + 1) r.w r.st r.fi r.hlo r.hhi r.co r.ss.length c0 r.slo r.shi r.flo r.fhi (vp ((tabl (mP r 1) r.st th).take (i + 1))) (vs5 r.ss) ((i + 1 : Nat) : Int) (bfr r.st th (i + 1)) th[i + 1] _ _
        rw [R.weM14_text]
        intro caps
        have el : (vp ((tabl (mP r 1) r.st th).take (i + 1))).length = (i + 1) * 2 := by
          rw [vp_length, List.length_take, tabl_len]; omega
        simp only [bc_t (v5le r.ss), v5_whole, Qv, eq_self, true_and, and_true]
        refine ⟨_, _, _, _, _, _, _, _, ⟨conma r (i + 1) (bfr r.st th (i + 1)) th[i + 1] hd⟩, ?_⟩
        try dsimp only
        rw [bc_t (show i + 1 < i + 1 + 1 by omega), bc_t (show (2 * (i + 1 + 1) + 768) * 16 ≤ 281474976710656 by omega), bc_t (show i + 1 + 1 ≤ 1099511627776 by omega), bc_t (show 0 + (i + 1) * 2 ≤ (vp ((tabl (mP r 1) r.st th).take (i + 1))).length by omega), bc_t (show 0 + (i + 1) * 2 = (vp ((tabl (mP r 1) r.st th).take (i + 1))).length by omega)]
        refine ⟨i + 2, hi2, by rw [bfr_succ hi2], ?_⟩
        show R.zeM14 _ _ _ _ _ _ _ _ _ _ _ _ _ _ _ = _
        rw [← e]
    · rintro s b ⟨i, hi, e1, e2⟩
      have hi2 : i = th.length := Decidable.byContradiction fun h => by
        rw [drows_drop (show i < th.length by omega)] at e1; cases e1
      obtain ⟨j, rfl⟩ : ∃ j, i = j + 1 := ⟨i - 1, by omega⟩
      cases e2
      show R.neM15 C5 _ (j + 1) r.w r.st r.fi r.hlo r.hhi r.co r.ss.length c0 r.slo r.shi r.flo r.fhi (vp ((tabl (mP r 1) r.st th).take (j + 1))) (vs5 r.ss) _
      rw [R.neM15_text, List.take_of_length_le (by rw [tabl_len]; omega), hi2]
      exact ⟨rfl, rfl⟩
theorem runEM2 (r : Ru) (c0 c1 : Nat) (nm : List UInt8) (th : List Int) (w : VR r th) :
    freshS Tryz.prog 64 2 [mV r c0, sV nm th c1, .func (.func 75) #[] #[.pointer (some ⟨502, 0, none⟩), .pointer (some ⟨503, 0, none⟩)]] [(500, .sym (vs5 r.ss) false 5), (501, .sym (vi th) false 1), (502, mO r c0), (503, .cells [.int .i64 2] 3 false 1)] th.length (vp (tabl (mP r 2) r.st th)) := by
  have v := w.v
  have hl := v.len
  have h6 := v.n6
  have h0 := v.n0
  let st : Nat → Slots × Blocks := fun i => match i with
    | 0 => R.zeM22 r.w r.st r.fi r.hlo r.hhi r.co r.ss.length c0 r.slo r.shi r.flo r.fhi (vs5 r.ss)
    | i + 1 => R.zeM24 (i + 1) r.w r.st r.fi r.hlo r.hhi r.co r.ss.length c0 r.slo r.shi r.flo r.fhi (vp ((tabl (mP r 2) r.st th).take (i + 1))) (vs5 r.ss)
  refine callS_JR hokRP mixed [] (L := fun _ s b => R.zeM21 r.w r.st r.fi r.hlo r.hhi r.co r.ss.length c0 r.slo r.shi r.flo r.fhi (bs nm) th.length c1 r.w r.st r.fi r.hlo r.hhi r.co r.ss.length c0 r.slo r.shi r.flo r.fhi (vs5 r.ss) (vi th) = (s, b)) Tryz.func64 rfl (.inl rfl) (pts := [50003]) (loops := [50003]) (by kernel_rfl) (by kernel_rfl) ?_ (fun id q1 q2 => absurd q1 q2) (fun id hid hlt => absurd hlt (by obtain rfl := List.mem_singleton.1 hid; decide)) (fun id hid hlt => ?_)
  · show R.geM2 C5 _ r.w r.st r.fi r.hlo r.hhi r.co r.slo r.shi r.flo r.fhi r.ss.length c0 (vs5 r.ss) (bs nm) th.length c1 (vi th) _
    rw [R.geM2_text]
  · obtain rfl := List.mem_singleton.1 hid
    refine ⟨⟨?_⟩⟩
    rintro s b e
    cases e
    show R.heM21 r.w r.st r.fi r.hlo r.hhi r.co r.ss.length c0 r.slo r.shi r.flo r.fhi (bs nm) th.length c1 r.w r.st r.fi r.hlo r.hhi r.co r.ss.length c0 r.slo r.shi r.flo r.fhi (vs5 r.ss) (vi th) _
    rw [R.heM21_text]
    refine ⟨drows r.st 0 th, fun rest s b => ∃ i, i ≤ th.length ∧ rest = drows (bfr r.st th i) i (th.drop i) ∧ st i = (s, b), runDo r c0 c1 nm th (by omega), ⟨0, Nat.zero_le _, rfl, rfl⟩, ?_, ?_⟩
    · rintro row rest s b ⟨i, hi, e1, e2⟩
      have hi2 : i < th.length := by
        refine Nat.lt_of_le_of_ne hi (fun h => ?_)
        rw [h, List.drop_length] at e1; cases e1
      rw [drows_drop hi2] at e1
      obtain ⟨rfl, rfl⟩ := List.cons.inj e1
      have hd := w.dr hi2
      have e := vp_snoc (l := tabl (mP r 2) r.st th) (i := i) (by rw [tabl_len]; exact hi2) (tabl_at hi2)
      cases i with
      | zero =>
        cases e2
        show R.weM22 C5 r.w r.st r.fi r.hlo r.hhi r.co r.ss.length c0 r.slo r.shi r.flo r.fhi (vs5 r.ss) ((0 : Nat) : Int) (bfr r.st th 0) th[0] _ _
        rw [R.weM22_text]
        intro caps
        simp only [bc_t (v5le r.ss), v5_whole, Qv, eq_self, true_and, and_true]
        refine ⟨_, _, _, _, _, _, _, _, ⟨conma r 0 (bfr r.st th 0) th[0] hd⟩, ?_⟩
        try dsimp only
        refine ⟨1, hi2, by rw [bfr_succ hi2], ?_⟩
        show R.zeM24 _ _ _ _ _ _ _ _ _ _ _ _ _ _ _ = _
        rw [← e]; rfl
      | succ i =>
        cases e2
        show R.weM24 C5 (i + 1) r.w r.st r.fi r.hlo r.hhi r.co r.ss.length c0 r.slo r.shi r.flo r.fhi (vp ((tabl (mP r 2) r.st th).take (i + 1))) (vs5 r.ss) ((i + 1 : Nat) : Int) (bfr r.st th (i + 1)) th[i + 1] _ _
        rw [R.weM24_text]
        intro caps
        have el : (vp ((tabl (mP r 2) r.st th).take (i + 1))).length = (i + 1) * 2 := by
          rw [vp_length, List.length_take, tabl_len]; omega
        simp only [bc_t (v5le r.ss), v5_whole, Qv, eq_self, true_and, and_true]
        refine ⟨_, _, _, _, _, _, _, _, ⟨conma r (i + 1) (bfr r.st th (i + 1)) th[i + 1] hd⟩, ?_⟩
        try dsimp only
        rw [bc_t (show i + 1 < i + 1 + 1 by omega), bc_t (show (2 * (i + 1 + 1) + 768) * 16 ≤ 281474976710656 by omega), bc_t (show i + 1 + 1 ≤ 1099511627776 by omega), bc_t (show 0 + (i + 1) * 2 ≤ (vp ((tabl (mP r 2) r.st th).take (i + 1))).length by omega), bc_t (show 0 + (i + 1) * 2 = (vp ((tabl (mP r 2) r.st th).take (i + 1))).length by omega)]
        refine ⟨i + 2, hi2, by rw [bfr_succ hi2], ?_⟩
        show R.zeM24 _ _ _ _ _ _ _ _ _ _ _ _ _ _ _ = _
        rw [← e]
    · rintro s b ⟨i, hi, e1, e2⟩
      have hi2 : i = th.length := Decidable.byContradiction fun h => by
        rw [drows_drop (show i < th.length by omega)] at e1; cases e1
      obtain ⟨j, rfl⟩ : ∃ j, i = j + 1 := ⟨i - 1, by omega⟩
      cases e2
      show R.neM25 C5 _ (j + 1) r.w r.st r.fi r.hlo r.hhi r.co r.ss.length c0 r.slo r.shi r.flo r.fhi (vp ((tabl (mP r 2) r.st th).take (j + 1))) (vs5 r.ss) _
      rw [R.neM25_text, List.take_of_length_le (by rw [tabl_len]; omega), hi2]
      exact ⟨rfl, rfl⟩
theorem runEM3 (r : Ru) (c0 c1 : Nat) (nm : List UInt8) (th : List Int) (w : VR r th) :
    freshS Tryz.prog 64 2 [mV r c0, sV nm th c1, .func (.func 75) #[] #[.pointer (some ⟨502, 0, none⟩), .pointer (some ⟨503, 0, none⟩)]] [(500, .sym (vs5 r.ss) false 5), (501, .sym (vi th) false 1), (502, mO r c0), (503, .cells [.int .i64 3] 3 false 1)] th.length (vp (tabl (mP r 3) r.st th)) := by
  have v := w.v
  have hl := v.len
  have h6 := v.n6
  have h0 := v.n0
  let st : Nat → Slots × Blocks := fun i => match i with
    | 0 => R.zeM32 r.w r.st r.fi r.hlo r.hhi r.co r.ss.length c0 r.slo r.shi r.flo r.fhi (vs5 r.ss)
    | i + 1 => R.zeM34 (i + 1) r.w r.st r.fi r.hlo r.hhi r.co r.ss.length c0 r.slo r.shi r.flo r.fhi (vp ((tabl (mP r 3) r.st th).take (i + 1))) (vs5 r.ss)
  refine callS_JR hokRP mixed [] (L := fun _ s b => R.zeM31 r.w r.st r.fi r.hlo r.hhi r.co r.ss.length c0 r.slo r.shi r.flo r.fhi (bs nm) th.length c1 r.w r.st r.fi r.hlo r.hhi r.co r.ss.length c0 r.slo r.shi r.flo r.fhi (vs5 r.ss) (vi th) = (s, b)) Tryz.func64 rfl (.inl rfl) (pts := [50003]) (loops := [50003]) (by kernel_rfl) (by kernel_rfl) ?_ (fun id q1 q2 => absurd q1 q2) (fun id hid hlt => absurd hlt (by obtain rfl := List.mem_singleton.1 hid; decide)) (fun id hid hlt => ?_)
  · show R.geM3 C5 _ r.w r.st r.fi r.hlo r.hhi r.co r.slo r.shi r.flo r.fhi r.ss.length c0 (vs5 r.ss) (bs nm) th.length c1 (vi th) _
    rw [R.geM3_text]
  · obtain rfl := List.mem_singleton.1 hid
    refine ⟨⟨?_⟩⟩
    rintro s b e
    cases e
    show R.heM31 r.w r.st r.fi r.hlo r.hhi r.co r.ss.length c0 r.slo r.shi r.flo r.fhi (bs nm) th.length c1 r.w r.st r.fi r.hlo r.hhi r.co r.ss.length c0 r.slo r.shi r.flo r.fhi (vs5 r.ss) (vi th) _
    rw [R.heM31_text]
    refine ⟨drows r.st 0 th, fun rest s b => ∃ i, i ≤ th.length ∧ rest = drows (bfr r.st th i) i (th.drop i) ∧ st i = (s, b), runDo r c0 c1 nm th (by omega), ⟨0, Nat.zero_le _, rfl, rfl⟩, ?_, ?_⟩
    · rintro row rest s b ⟨i, hi, e1, e2⟩
      have hi2 : i < th.length := by
        refine Nat.lt_of_le_of_ne hi (fun h => ?_)
        rw [h, List.drop_length] at e1; cases e1
      rw [drows_drop hi2] at e1
      obtain ⟨rfl, rfl⟩ := List.cons.inj e1
      have hd := w.dr hi2
      have e := vp_snoc (l := tabl (mP r 3) r.st th) (i := i) (by rw [tabl_len]; exact hi2) (tabl_at hi2)
      cases i with
      | zero =>
        cases e2
        show R.weM32 C5 r.w r.st r.fi r.hlo r.hhi r.co r.ss.length c0 r.slo r.shi r.flo r.fhi (vs5 r.ss) ((0 : Nat) : Int) (bfr r.st th 0) th[0] _ _
        rw [R.weM32_text]
        intro caps
        simp only [bc_t (v5le r.ss), v5_whole, Qv, eq_self, true_and, and_true]
        refine ⟨_, _, _, _, _, _, _, _, ⟨conma r 0 (bfr r.st th 0) th[0] hd⟩, ?_⟩
        try dsimp only
        refine ⟨1, hi2, by rw [bfr_succ hi2], ?_⟩
        show R.zeM34 _ _ _ _ _ _ _ _ _ _ _ _ _ _ _ = _
        rw [← e]; rfl
      | succ i =>
        cases e2
        show R.weM34 C5 (i + 1) r.w r.st r.fi r.hlo r.hhi r.co r.ss.length c0 r.slo r.shi r.flo r.fhi (vp ((tabl (mP r 3) r.st th).take (i + 1))) (vs5 r.ss) ((i + 1 : Nat) : Int) (bfr r.st th (i + 1)) th[i + 1] _ _
        rw [R.weM34_text]
        intro caps
        have el : (vp ((tabl (mP r 3) r.st th).take (i + 1))).length = (i + 1) * 2 := by
          rw [vp_length, List.length_take, tabl_len]; omega
        simp only [bc_t (v5le r.ss), v5_whole, Qv, eq_self, true_and, and_true]
        refine ⟨_, _, _, _, _, _, _, _, ⟨conma r (i + 1) (bfr r.st th (i + 1)) th[i + 1] hd⟩, ?_⟩
        try dsimp only
        rw [bc_t (show i + 1 < i + 1 + 1 by omega), bc_t (show (2 * (i + 1 + 1) + 768) * 16 ≤ 281474976710656 by omega), bc_t (show i + 1 + 1 ≤ 1099511627776 by omega), bc_t (show 0 + (i + 1) * 2 ≤ (vp ((tabl (mP r 3) r.st th).take (i + 1))).length by omega), bc_t (show 0 + (i + 1) * 2 = (vp ((tabl (mP r 3) r.st th).take (i + 1))).length by omega)]
        refine ⟨i + 2, hi2, by rw [bfr_succ hi2], ?_⟩
        show R.zeM34 _ _ _ _ _ _ _ _ _ _ _ _ _ _ _ = _
        rw [← e]
    · rintro s b ⟨i, hi, e1, e2⟩
      have hi2 : i = th.length := Decidable.byContradiction fun h => by
        rw [drows_drop (show i < th.length by omega)] at e1; cases e1
      obtain ⟨j, rfl⟩ : ∃ j, i = j + 1 := ⟨i - 1, by omega⟩
      cases e2
      show R.neM35 C5 _ (j + 1) r.w r.st r.fi r.hlo r.hhi r.co r.ss.length c0 r.slo r.shi r.flo r.fhi (vp ((tabl (mP r 3) r.st th).take (j + 1))) (vs5 r.ss) _
      rw [R.neM35_text, List.take_of_length_le (by rw [tabl_len]; omega), hi2]
      exact ⟨rfl, rfl⟩
end Go.Proofs.G5o

/- awake of chapter 3, for every tape: by what is known of some functions. -/
namespace Go.Proofs.G5o
open Go Go.Abs Go.Proofs Go.Str
set_option maxRecDepth 100000
def unFv : List Value → Option (List Fv)
  | [] => some []
  | .int .i64 a :: .int .i64 b :: .int .i64 c :: .int .i64 d :: .int .i64 e :: r => (unFv r).map (⟨a, b, c, d, e⟩ :: ·)
  | _ => none
theorem unFv_ok : ∀ {l : List Value} {ss : List Fv}, unFv l = some ss → l = vs5 ss := by
  intro l
  induction l using unFv.induct with
  | case1 => intro ss h; rw [unFv] at h; obtain rfl := Option.some.inj h; rfl
  | case2 a b c d e r ih =>
    intro ss h
    rw [unFv] at h
    obtain ⟨t, ht, rfl⟩ := Option.map_eq_some_iff.1 h
    rw [ih ht]; rfl
  | case3 l h1 h2 => intro ss h; rw [unFv] at h <;> first | (cases h; done) | assumption
def parR : D → Option Ru
  | .agg [.val (.int .i64 w), .val (.int .i64 st), .val (.int .i64 fi), .val (.int .i64 hlo), .val (.int .i64 hhi), .val (.int .i64 co), .sl n 5 l, .val (.int .i64 slo), .val (.int .i64 shi), .val (.int .i64 flo), .val (.int .i64 fhi)] =>
    match unFv l with
    | some ss => if ss.length = n then some ⟨w, st, fi, hlo, hhi, co, ss, slo, shi, flo, fhi⟩ else none
    | none => none
  | _ => none
theorem parR_ok {d : D} {r : Ru} (h : parR d = some r) : d = r.d := by
  unfold parR at h
  split at h
  · split at h
    · rename_i e
      split at h
      · obtain rfl := Option.some.inj h
        rename_i hn; subst hn
        rw [unFv_ok e]
      · cases h
    · cases h
  · cases h
def drB (r : Ru) (k : Int) (b h : Int) : Bool := decide (rngB r) && r.ss.all (fun s => decide (stB s)) && decide (0 ≤ k) && decide (k.toNat < r.ss.length) && decide (r.ss.length ≤ 6) && decide (1 ≤ h) && decide (h ≤ b) && decide (b ≤ 1000)
theorem drB_ok {r : Ru} {k b h : Int} (e : drB r k b h = true) : DrOK r k.toNat b h ∧ k = (k.toNat : Int) := by
  simp only [drB, Bool.and_eq_true, decide_eq_true_eq, List.all_eq_true] at e
  obtain ⟨⟨⟨⟨⟨⟨⟨h1, h2⟩, h3⟩, h4⟩, h5⟩, h6⟩, h7⟩, h8⟩ := e
  exact ⟨⟨h1, h2, h4, h5, h6, h7, h8⟩, by omega⟩
def marT (d : D) (k b h : Int) : Option (List D) :=
  match parR d with
  | some r => if drB r k b h = true then some [marD (mar r k.toNat b h)] else none
  | none => none
def torT (d : D) (k b h : Int) : Option (List D) :=
  match parR d with
  | some r => if drB r k b h = true then some [.agg [dI (fl r b h * (b - h)), dI (fh r b h * (b - h))]] else none
  | none => none
def keyD : List D → Int
  | [_, .agg [.val (.int _ k), .val (.int _ b), .val (.int _ h)], _] => k * 1000000 + b * 1000 + h
  | _ => -1
def lookK : List (List D × List D) → Int → List D → Option (List D)
  | [], _, _ => none
  | p :: r, q, ds => if keyD p.1 = q then (if dsEq p.1 ds then some p.2 else lookK r q ds) else lookK r q ds
theorem lookK_ok : ∀ {t : List (List D × List D)} {q : Int} {ds rs : List D}, lookK t q ds = some rs → (ds, rs) ∈ t
  | [], _, _, _, h => by cases h
  | p :: r, q, ds, rs, h => by
    unfold lookK at h
    split at h
    · split at h
      · rename_i e
        obtain rfl := Option.some.inj h
        rw [← dsEq_ok e]; exact List.mem_cons_self
      · exact List.mem_cons_of_mem _ (lookK_ok h)
    · exact List.mem_cons_of_mem _ (lookK_ok h)
def tabP : Tab := fun f =>
  if f = 76 then some fun ds => match ds with
    | [d, .agg [.val (.int .i64 k), .val (.int .i64 b), .val (.int .i64 h)]] => marT d k b h
    | _ => none
  else if f = 66 then some fun ds => match ds with
    | [d, .agg [.val (.int .i64 k), .val (.int .i64 b), .val (.int .i64 h)]] => torT d k b h
    | _ => none
  else if f = 114 then some fun ds => match ds with
    | [d] => (match parR d with | some r => if r.ss.length ≤ 6 then some [dI (chk r).1, dI (chk r).2] else none | none => none)
    | _ => none
  else if f = 52 then some fun ds => match ds with
    | [.val (.int .i64 n), .val (.int .i64 d)] => if -4611686018427387904 ≤ n ∧ n ≤ 4611686018427387904 ∧ 0 < d ∧ d ≤ 4611686018427387904 then some [.agg [dI (low n d).1, dI (low n d).2]] else none
    | _ => none
  else none
theorem tabP_ok : TabOK Tryz.prog tabP := by
  intro f t ht ds rs h
  unfold tabP at ht
  split at ht
  · rename_i e; subst e; obtain rfl := Option.some.inj ht
    simp only at h
    split at h
    · rename_i d k b hh
      unfold marT at h
      split at h
      · rename_i r hr
        split at h
        · rename_i hd
          obtain rfl := Option.some.inj h
          obtain ⟨hv, hk⟩ := drB_ok hd
          rw [parR_ok hr]
          have := conma r k.toNat b hh hv
          unfold drD at this
          rw [← hk] at this
          exact this
        · cases h
      · cases h
    · cases h
  · split at ht
    · rename_i e; subst e; obtain rfl := Option.some.inj ht
      simp only at h
      split at h
      · rename_i d k b hh
        unfold torT at h
        split at h
        · rename_i r hr
          split at h
          · rename_i hd
            obtain rfl := Option.some.inj h
            obtain ⟨hv, hk⟩ := drB_ok hd
            rw [parR_ok hr]
            have := conto r k.toNat b hh hv
            unfold drD at this
            rw [← hk] at this
            exact this
          · cases h
        · cases h
      · cases h
    · split at ht
      · rename_i e; subst e; obtain rfl := Option.some.inj ht
        simp only at h
        split at h
        · split at h
          · rename_i r hr
            split at h
            · obtain rfl := Option.some.inj h
              rw [parR_ok hr]
              exact conKR r (by omega)
            · cases h
          · cases h
        · cases h
      · split at ht
        · rename_i e; subst e; obtain rfl := Option.some.inj ht
          simp only at h
          split at h
          · split at h
            · rename_i hb
              obtain rfl := Option.some.inj h
              exact conlT _ _ ⟨hb.1, hb.2.1⟩ hb.2.2
            · cases h
          · cases h
        · cases ht
theorem look_all {tab : Tab} (ht : TabOK Tryz.prog tab) {f : FuncId} {lk : List (List D × List D)} (h : ∀ caps, (lk.all fun p => runOK Tryz.prog tab 1000 f p.1 p.2 caps) = true) (hc : (lk.all fun p => decide (countV p.1 ≤ 400)) = true) {ds rs : List D} (hm : (ds, rs) ∈ lk) : C5 f ds rs :=
  con_run ht mixed (by simpa using List.all_eq_true.1 hc _ hm) (fun caps => List.all_eq_true.1 (h caps) _ hm)
abbrev rulD : D := .agg [dI 10, dI 100, dI 60, dI 10000, dI 10000, dI 9000, .sl 2 5 [vI 300, vI 20000, vI 400000, vI 0, vI 100, vI 300, vI 20000, vI 400000, vI 0, vI 100], dI 2, dI 3, dI 7, dI 8]
abbrev oneD : D := .agg [dI 10, dI 100, dI 60, dI 10000, dI 10000, dI 9000, .sl 1 5 [vI 300, vI 20000, vI 400000, vI 0, vI 100], dI 2, dI 3, dI 7, dI 8]
abbrev bestD : D := .agg [.val (.string ⟨#[98, 101, 115, 116]⟩), .sl 2 1 [vI 80, vI 60]]
end Go.Proofs.G5o
