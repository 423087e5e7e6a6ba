/- Texts of the proof, put together: GpP14, GpP15, GpP16, GpPA0, GpPA1, GpPA2, GpPA3, GpPA, AbsPasD, AbsShort2, GpPLT, GpP8, GpP9. -/
import Derived.Test.YteadiejdhplokaaP6
import Derived.Test.YteadiejdhplokaaP3
import Derived.Test.YteadiejdhplokaaP4
import Derived.Test.YteadiejdhplokaaGpPT
/- Chapter 3: what is rolled, in data. -/
namespace Go.Proofs.G5p
open Go Go.Abs Go.Proofs Go.Str
set_option maxRecDepth 100000
theorem conrf (r : Ru) (b h s f : Int) (hw : 1 ≤ r.w ∧ r.w ≤ 2500) (_hl : r.ss.length < 1000000000) (h1 : 1 ≤ h) (hb : h ≤ b) (b1 : b ≤ 1000) (hs : 0 ≤ s ∧ s ≤ 100) (hf : 0 ≤ f ∧ f ≤ 100) : C5 66 [r.d, dI b, dI h, dI s, dI f] [dI (frc r.w b h s f)] := by
  refine con_flat hokP mixed Try.func66 rfl (by show 1 ≤ 400; omega) rfl (by kernel_rfl) (fun caps => ?_)
  show grf _ _ r.w r.st r.fi r.hlo r.hhi r.co r.ss.length (caps 500) (vs5 r.ss) r.slo r.shi r.flo r.fhi b h s f _
  rw [grf_text]
  have e := frc_bd hw h1 hb b1 hs hf
  refine bc_beq (fun g => ?_) (fun g => ?_)
  · show [dI 0] = _; rw [frc, if_pos g]
  · rw [w64 (z := b - h) (by omega) (by omega), w64 (z := s * (b - h)) (by omega) (by omega), w64 (z := b + h) (by omega) (by omega), w64 (z := f * (b + h)) (by omega) (by omega), w64 (z := s * (b - h) + f * (b + h)) (by omega) (by omega), w64 (by omega) (by omega)]
    try simp only [Qv, true_and]
    rw [frc, if_neg g]
theorem conrt (r : Ru) (b h s f : Int) (hw : 1 ≤ r.w ∧ r.w ≤ 2500) (hl : r.ss.length < 1000000000) (h1 : 1 ≤ h) (hb : h ≤ b) (b1 : b ≤ 1000) (hs : 0 ≤ s ∧ s ≤ 100) (hf : 0 ≤ f ∧ f ≤ 100) : C5 67 [r.d, dI b, dI h, dI s, dI f] [dI (frc r.w b h s f * (b - h))] := by
  refine con_flat hokP mixed Try.func67 rfl (by show 1 ≤ 400; omega) rfl (by kernel_rfl) (fun caps => ?_)
  show grt _ _ r.w r.st r.fi r.hlo r.hhi r.co r.ss.length (caps 500) (vs5 r.ss) r.slo r.shi r.flo r.fhi b h s f _
  rw [grt_text, bc_t (v5le r.ss), v5_whole]
  have e := (frc_bd hw h1 hb b1 hs hf).2.2.2
  have e1 := mulB 750000000 1000 e (show 0 ≤ b - h ∧ b - h ≤ 1000 by omega)
  refine ⟨_, ⟨conrf r b h s f hw hl h1 hb b1 hs hf⟩, ?_⟩
  rw [w64 (z := b - h) (by omega) (by omega), w64 (by omega) (by omega)]
  try simp only [Qv, true_and]
theorem conrb (s : Fv) (b h f : Int) (hs : stB s) (h1 : 1 ≤ h) (hb : h ≤ b) (b1 : b ≤ 1000) (hf : 0 ≤ f ∧ f ≤ 100) : C5 68 [.agg [dI s.a, dI s.b, dI s.c, dI s.d, dI s.e], dI b, dI h, dI f] [dI (if b = h then 0 else f * s.a - 100 * (b - h))] := by
  refine con_flat hokP mixed Try.func68 rfl (by show 0 ≤ 400; omega) rfl (by kernel_rfl) (fun caps => ?_)
  show grb _ _ s.a s.b s.c s.d s.e b h f _
  rw [grb_text]
  have e1 := mulB 100 1000 hf (show 0 ≤ s.a ∧ s.a ≤ 1000 by have := hs.1; omega)
  refine bc_beq (fun g => ?_) (fun g => ?_)
  · show [dI 0] = _; rw [if_pos g]
  · rw [w64 (z := f * s.a) (by omega) (by omega), w64 (z := b - h) (by omega) (by omega), w64 (z := 100 * (b - h)) (by omega) (by omega), w64 (by omega) (by omega)]
    try simp only [Qv, true_and]
    rw [if_neg g]
theorem conrh (r : Ru) (h s start lost : Int) (_hl : r.ss.length < 1000000000) (h1 : -1000 ≤ r.st - h ∧ r.st - h ≤ 1000) (hs : 0 ≤ s ∧ s ≤ 100) (h2 : 0 ≤ start ∧ start ≤ 20000) (h3 : 0 ≤ lost ∧ lost ≤ 100000) : C5 65 [r.d, dI h, dI s, dI start, dI lost] [dI (100 * (start - lost) + (r.st - h) * s)] := by
  refine con_flat hokP mixed Try.func65 rfl (by show 1 ≤ 400; omega) rfl (by kernel_rfl) (fun caps => ?_)
  show grh _ _ r.w r.st r.fi r.hlo r.hhi r.co r.ss.length (caps 500) (vs5 r.ss) r.slo r.shi r.flo r.fhi h s start lost _
  rw [grh_text]
  have e1 := mulS 1000 100 h1 hs
  rw [Int.mul_comm s, w64 (z := start - lost) (by omega) (by omega), w64 (z := 100 * (start - lost)) (by omega) (by omega), w64 (z := r.st - h) (by omega) (by omega), w64 (z := (r.st - h) * s) (by omega) (by omega), w64 (by omega) (by omega)]
/-! ### valid rules, schedules, materials -/
theorem stE_ok {s : Fv} (h : stE s = 0) : stB s ∧ s.d ≤ s.e := by
  unfold stE at h
  split at h
  · split at h
    · exact ⟨by assumption, by assumption⟩
    · simp at h
  · simp at h
theorem stsE_ok : ∀ {l : List Fv} {i : Int}, (stsE i l).2 = 0 → ∀ s ∈ l, stB s ∧ s.d ≤ s.e
  | [], _, _ => fun s hs => by cases hs
  | s :: r, i, h => by
    rw [stsE] at h
    split at h
    · rename_i h0
      intro t ht
      rcases List.mem_cons.1 ht with rfl | ht
      · exact stE_ok h0
      · exact stsE_ok h t ht
    · rename_i h0; exact absurd h h0
theorem vr_of {r : Ru} {nm : List UInt8} {th : List Int} (h1 : (chk r).2 = 0) (h2 : (schE r nm th).2 = 0) : VR r th := by
  have v := vs_of h1 h2
  refine ⟨v, fun s hs => ?_⟩
  rw [chk_cnt v.rng v.ord] at h1
  have hc : cntE r.ss.length = 0 := by
    have := v.n0; have := v.n6
    rw [cntE, if_neg (by omega), if_neg (by omega)]
  rw [if_pos hc] at h1
  exact (stsE_ok h1 s hs).1
theorem rolL_stB : ∀ {ss : List Fv} {ls : List Int} {i : Int}, ls.length = ss.length → (∀ s ∈ ss, stB s) → (lsE i ss ls).2 = 0 → ∀ s ∈ rolL ss ls, stB s
  | [], [], _, _, _, _, _, h => by cases h
  | s :: ss, l :: ls, i, hl, hs, h, t, ht => by
    rw [lsE] at h
    split at h
    · rename_i hb
      rcases List.mem_cons.1 ht with rfl | ht
      · have := hs s List.mem_cons_self
        obtain ⟨a, b, c, d⟩ := this
        exact ⟨a, b, ⟨by show 0 ≤ l; omega, by show l ≤ 1000; omega⟩, ⟨by show 0 ≤ l; omega, by show l ≤ 1000; omega⟩⟩
      · exact rolL_stB (by simpa using hl) (fun s h => hs s (List.mem_cons_of_mem _ h)) h t ht
    · simp at h
theorem matE_ok {r : Ru} {ms mf mh : Int} {ls : List Int} (h : (matE r ms mf mh ls).2 = 0) : matB r ms mf mh ∧ ls.length = r.ss.length ∧ (lsE 0 r.ss ls).2 = 0 := by
  rw [matE] at h
  split at h
  · split at h
    · exact ⟨by assumption, by assumption, h⟩
    · simp at h
  · simp at h
theorem vr_mat {r : Ru} {th : List Int} {ms mf mh : Int} {ls : List Int} (v : VR r th) (h : (matE r ms mf mh ls).2 = 0) : VR (rolR r ms mf mh ls) th := by
  obtain ⟨hm, hl, hs⟩ := matE_ok h
  have hr := v.v.rng
  have ho := v.v.ord
  refine ⟨⟨?_, ?_, ?_, ?_, ?_, v.v.desc⟩, rolL_stB hl v.sts hs⟩
  · unfold rngB at hr ⊢; unfold ordB at ho; unfold matB at hm
    simp only [rolR]; omega
  · unfold ordB at ho ⊢
    simp only [rolR]; omega
  · show 0 < (rolL r.ss ls).length; rw [rolL_len]; exact v.v.n0
  · show (rolL r.ss ls).length ≤ 6; rw [rolL_len]; exact v.v.n6
  · show th.length = (rolL r.ss ls).length; rw [rolL_len]; exact v.v.len
def rolErr (r : Ru) (nm : List UInt8) (th : List Int) (ms mf mh : Int) (ls : List Int) : Int := fst0 [(schP r nm th).2, (matP r ms mf mh ls).2]
theorem conRob (r : Ru) (nm : List UInt8) (th : List Int) (ms mf mh : Int) (ls : List Int) (hlen : r.ss.length < 1000000000) (hth : th.length < 1000000000) (hls : ls.length < 1000000000) (h : rolErr r nm th ms mf mh ls ≠ 0) : C5 22 [r.d, scD nm th, maD ms mf mh ls] [.nil, dB false, dI (rolErr r nm th ms mf mh ls)] := by
  refine con_flat hokP mixed Try.func22 rfl (by show 3 ≤ 400; omega) rfl (by kernel_rfl) (fun caps => ?_)
  show gRo _ _ r.w r.st r.fi r.hlo r.hhi r.co r.ss.length (caps 500) (vs5 r.ss) r.slo r.shi r.flo r.fhi (bs nm) th.length (caps 501) (vi th) ms mf mh ls.length (caps 502) (vi ls) _
  rw [gRo_text]
  simp only [bc_t (v5le r.ss), bc_t (v1le th), bc_t (v1le ls), v5_whole, v1_whole, Qv, eq_self, true_and]
  refine ⟨_, _, ⟨conKS r nm th hlen hth⟩, bc_bne (fun hc => ?_) (fun hc => ?_)⟩
  · refine ⟨_, _, ⟨conKM r ms mf mh ls hlen hls⟩, _, ⟨conFE [_, _] (by simp)⟩, ?_⟩
    refine bc_bne (fun _ => rfl) (fun hz => absurd hz h)
  · refine ⟨_, _, ⟨conKM r ms mf mh ls hlen hls⟩, _, ⟨conFE [0, _] (by simp)⟩, ?_⟩
    unfold rolErr at h ⊢
    rw [hc] at h ⊢
    refine bc_bne (fun _ => rfl) (fun hz => absurd hz h)
theorem schP_bad' {r : Ru} {nm : List UInt8} {th : List Int} (h : (chk r).2 ≠ 0) : schP r nm th = (0, (chk r).2) := by rw [schP, if_neg h]
theorem conRo (r : Ru) (nm : List UInt8) (th : List Int) (ms mf mh : Int) (ls : List Int) (h1 : (schP r nm th).2 = 0) (h2 : (matP r ms mf mh ls).2 = 0) : C5 22 [r.d, scD nm th, maD ms mf mh ls] [.sl th.length 2 (vp (hts (rolR r ms mf mh ls) th)), dB (ansD (rolR r ms mf mh ls) 0 r.st 2 th == 2), dI 0] := by
  have hc : (chk r).2 = 0 := Decidable.byContradiction fun h => by rw [schP_bad' h] at h1; exact h h1
  have hs : (schE r nm th).2 = 0 := by rw [schP, if_pos hc] at h1; exact h1
  have hm : (matE r ms mf mh ls).2 = 0 := by rw [matP, if_pos hc] at h2; exact h2
  have v := vr_of hc hs
  have w := vr_mat v hm
  have hl := v.v.len
  have h6 := v.v.n6
  have h0 := v.v.n0
  have hls := (matE_ok hm).2.1
  refine con_flat hokP mixed Try.func22 rfl (by show 3 ≤ 400; omega) rfl (by kernel_rfl) (fun caps => ?_)
  show gRo _ _ r.w r.st r.fi r.hlo r.hhi r.co r.ss.length (caps 500) (vs5 r.ss) r.slo r.shi r.flo r.fhi (bs nm) th.length (caps 501) (vi th) ms mf mh ls.length (caps 502) (vi ls) _
  rw [gRo_text]
  simp only [bc_t (v5le r.ss), bc_t (v1le th), bc_t (v1le ls), v5_whole, v1_whole, Qv, eq_self, true_and]
  refine ⟨_, _, ⟨conKS r nm th (by omega) (by omega)⟩, bc_bne (fun hz => absurd h1 hz) (fun _ => ?_)⟩
  refine ⟨_, _, ⟨conKM r ms mf mh ls (by omega) (by omega)⟩, _, ⟨conFE [0, _] (by simp)⟩, ?_⟩
  have e : fst0 [0, (matP r ms mf mh ls).2] = 0 := by rw [fst0_z, h2]; rfl
  refine bc_bne (fun hz => absurd e hz) (fun _ => ?_)
  refine ⟨_, _, _, _, _, _, .inr ⟨_, _, _, _, _, _, ⟨conro r ms mf mh ls h0 (by omega) hls⟩, th.length, vp (hts (rolR r ms mf mh ls) th), ⟨runET (rolR r ms mf mh ls) _ _ nm th w⟩, ?_⟩⟩
  rw [bc_t (v5le (rolR r ms mf mh ls).ss), v5_whole]
  refine ⟨_, ⟨conaF (rolR r ms mf mh ls) nm th w⟩, ?_⟩
  have el : (vp (hts (rolR r ms mf mh ls) th)).length = th.length * 2 := by rw [vp_length, hts_len]
  refine bc_beq (fun h => ⟨el, ?_⟩) (fun h => ⟨el, ?_⟩)
  · have hb : (ansD (rolR r ms mf mh ls) 0 r.st 2 th == 2) = true := by rw [beq_iff_eq]; exact h
    rw [hb]
  · have hb : (ansD (rolR r ms mf mh ls) 0 r.st 2 th == 2) = false := by rw [beq_eq_false_iff_ne]; exact h
    rw [hb]
end Go.Proofs.G5p

/- Chapter 3: what the reference rolls, in data. -/
namespace Go.Proofs.G5p
open Go Go.Abs Go.Proofs Go.Str
set_option maxRecDepth 100000
theorem rolL_at : ∀ {ss : List Fv} {ls : List Int} {i : Nat} (h1 : i < ss.length) (h2 : i < ls.length), (rolL ss ls)[i]'(by rw [rolL_len]; exact h1) = ⟨ss[i].a, ss[i].b, ss[i].c, ls[i], ls[i]⟩
  | s :: ss, l :: ls, 0, _, _ => rfl
  | s :: ss, l :: ls, i + 1, h1, h2 => by
    have := rolL_at (ss := ss) (ls := ls) (i := i) (by simpa using h1) (by simpa using h2)
    simpa [rolL] using this
/-- does a draught keep all limits, for one material -/
def kpD (r : Ru) (k : Nat) (b h : Int) : Bool := decide (frc r.w b h r.slo r.flo ≤ (stA r k).b) && decide (frc r.w b h r.slo r.flo * (b - h) ≤ (stA r k).c) && decide (bit r k b h r.flo ≥ 0) && decide (hL r k h ≥ 100 * r.co)
def kpL (r : Ru) : Nat → Int → List Int → Bool
  | _, _, [] => true
  | k, b, h :: l => kpD r k b h && kpL r (k + 1) h l
theorem kpL_drop (r : Ru) {k : Nat} {b : Int} {th : List Int} (hk : k < th.length) : kpL r k b (th.drop k) = (kpD r k b th[k] && kpL r (k + 1) th[k] (th.drop (k + 1))) := by
  rw [List.drop_eq_getElem_cons hk]; rfl
/-- for one material alone: surely, or surely not -/
theorem ansR_one {r : Ru} {k : Nat} {b h : Int} (e1 : r.shi = r.slo) (e2 : r.fhi = r.flo) (e3 : hH r k h = hL r k h) : ansR 2 (mar r k b h) = if kpD r k b h = true then some 2 else none := by
  simp only [mar, ansR, kpD, fl, fh, e1, e2, e3, Bool.and_eq_true, decide_eq_true_eq]
  generalize frc r.w b h r.slo r.flo = F
  generalize F * (b - h) = T
  generalize bit r k b h r.flo = B
  generalize hL r k h = H
  by_cases h1 : F ≤ (stA r k).b
  · rw [if_neg (show ¬ 100 * ((stA r k).b - F) < 0 by omega), if_neg (show ¬ 100 * ((stA r k).b - F) < 0 by omega)]
    by_cases h2 : T ≤ (stA r k).c
    · rw [if_neg (show ¬ 100 * ((stA r k).c - T) < 0 by omega), if_neg (show ¬ 100 * ((stA r k).c - T) < 0 by omega)]
      by_cases h3 : B ≥ 0
      · rw [if_neg (show ¬ B < 0 by omega), if_neg (show ¬ B < 0 by omega)]
        by_cases h4 : H ≥ 100 * r.co
        · rw [if_neg (show ¬ H - 100 * r.co < 0 by omega), if_neg (show ¬ H - 100 * r.co < 0 by omega), if_pos ⟨⟨⟨h1, h2⟩, h3⟩, h4⟩]
        · rw [if_pos (show H - 100 * r.co < 0 by omega), if_neg (fun h => h4 h.2)]
      · rw [if_pos (show B < 0 by omega), if_neg (fun h => h3 h.1.2)]
    · rw [if_pos (show 100 * ((stA r k).c - T) < 0 by omega), if_neg (fun h => h2 h.1.1.2)]
  · rw [if_pos (show 100 * ((stA r k).b - F) < 0 by omega), if_neg (fun h => h1 h.1.1.1)]
theorem sum_eq : ∀ {ss : List Fv} {ls : List Int} (i : Nat), ls.length = ss.length → sumD ((rolL ss ls).take i) = sumE ((rolL ss ls).take i)
  | _, _, 0, _ => rfl
  | [], [], i + 1, _ => rfl
  | s :: ss, l :: ls, i + 1, h => by
    simp only [rolL, List.take_succ_cons, sumD, sumE, sum_eq (ss := ss) (ls := ls) i (by simpa using h)]
theorem ansD_one {r : Ru} {ms mf mh : Int} {ls : List Int} (hl : ls.length = r.ss.length) : ∀ (l : List Int) (k : Nat) (b : Int), ansD (rolR r ms mf mh ls) k b 2 l = if kpL (rolR r ms mf mh ls) k b l = true then 2 else 0
  | [], k, b => rfl
  | h :: l, k, b => by
    have e3 : hH (rolR r ms mf mh ls) k h = hL (rolR r ms mf mh ls) k h := by
      unfold hH hL
      simp only [rolR]
      rw [sum_eq _ hl]
    rw [ansD, ansR_one rfl rfl e3, kpL]
    by_cases c : kpD (rolR r ms mf mh ls) k b h = true
    · rw [if_pos c, c, Bool.true_and]; exact ansD_one hl l (k + 1) h
    · rw [if_neg c, show kpD (rolR r ms mf mh ls) k b h = false by simpa using c]; rfl
theorem ans_kp {r : Ru} {ms mf mh : Int} {ls th : List Int} (hl : ls.length = r.ss.length) : (ansD (rolR r ms mf mh ls) 0 r.st 2 th == 2) = kpL (rolR r ms mf mh ls) 0 r.st th := by
  rw [ansD_one hl]
  cases kpL (rolR r ms mf mh ls) 0 r.st th <;> rfl
end Go.Proofs.G5p

/- Chapter 3: what the reference rolls, in data: the walk. -/
namespace Go.Proofs.G5p
open Go Go.Abs Go.Proofs Go.Str
set_option maxRecDepth 100000
theorem conRm (r : Ru) (nm : List UInt8) (th : List Int) (ms mf mh : Int) (ls : List Int) (v : VR r th) (hm : (matE r ms mf mh ls).2 = 0) : C5 26 [r.d, scD nm th, maD ms mf mh ls] [.sl th.length 2 (vp (hts (rolR r ms mf mh ls) th)), dB (kpL (rolR r ms mf mh ls) 0 r.st th)] := by
  have w := vr_mat v hm
  have hl := v.v.len
  have h6 := v.v.n6
  have h0 := v.v.n0
  have hls := (matE_ok hm).2.1
  have hw := v.v.rng.1
  have wr := w.v.rng
  have hms : 0 ≤ ms ∧ ms ≤ 100 := by unfold rngB at wr; simp only [rolR] at wr; omega
  have hmf : 0 ≤ mf ∧ mf ≤ 100 := by unfold rngB at wr; simp only [rolR] at wr; omega
  have hmh : 0 ≤ mh ∧ mh ≤ 20000 := by unfold rngB at wr; simp only [rolR] at wr; omega
  have hst := v.v.rng.2.1.1
  let inv : Nat × Bool × Nat × Nat × Nat → Prop := fun x => x.1 ≤ th.length ∧ kpL (rolR r ms mf mh ls) 0 r.st th = (x.2.1 && kpL (rolR r ms mf mh ls) x.1 (bfr r.st th x.1) (th.drop x.1))
  let st : Nat × Bool × Nat × Nat × Nat → Slots × Blocks := fun x => match x.1 with
    | 0 => zRm1 x.2.1 0 0 r.w r.st r.fi r.hlo r.hhi r.co r.ss.length x.2.2.1 r.slo r.shi r.flo r.fhi (bs nm) th.length x.2.2.2.1 ms mf mh ls.length x.2.2.2.2 (vs5 r.ss) (vi th) (vi ls)
    | i + 1 => zRm2 (i + 1) x.2.1 (sumE ((rolL r.ss ls).take (i + 1))) ((i + 1 : Nat) : Int) r.w r.st r.fi r.hlo r.hhi r.co r.ss.length x.2.2.1 r.slo r.shi r.flo r.fhi (bs nm) th.length x.2.2.2.1 ms mf mh ls.length x.2.2.2.2 (vp ((hts (rolR r ms mf mh ls) th).take (i + 1))) (vs5 r.ss) (vi th) (vi ls)
  have key : ∀ (i : Nat) (h : i < th.length) (b : Bool), kpL (rolR r ms mf mh ls) 0 r.st th = (b && kpL (rolR r ms mf mh ls) i (bfr r.st th i) (th.drop i)) → kpL (rolR r ms mf mh ls) 0 r.st th = ((b && kpD (rolR r ms mf mh ls) i (bfr r.st th i) th[i]) && kpL (rolR r ms mf mh ls) (i + 1) (bfr r.st th (i + 1)) (th.drop (i + 1))) := fun i h b e => by
    rw [e, kpL_drop _ h, bfr_succ h, Bool.and_assoc]
  refine con_of (L := fun _ s b => ∃ x, inv x ∧ st x = (s, b)) hokP mixed Try.func26 rfl (by show 3 ≤ 400; omega) rfl (ids := [0]) (by kernel_rfl) rfl (fun caps => ?_) (fun id hid => ?_)
  · show gRm _ _ r.w r.st r.fi r.hlo r.hhi r.co r.ss.length (caps 500) (vs5 r.ss) r.slo r.shi r.flo r.fhi (bs nm) th.length (caps 501) (vi th) ms mf mh ls.length (caps 502) (vi ls) _
    rw [gRm_text]
    exact ⟨(0, true, caps 500, caps 501, caps 502), ⟨Nat.zero_le _, by rw [Bool.true_and]; rfl⟩, rfl⟩
  · obtain rfl := List.mem_singleton.1 hid
    refine ⟨Nat × Bool × Nat × Nat × Nat, st, inv, fun x => th.length - x.1, ⟨fun s b h => h, by kernel_rfl, ?_⟩⟩
    rintro ⟨i, b, c1, c2, c3⟩ ⟨hi, hk⟩
    simp only at hi hk
    cases i with
    | zero =>
      have h : 0 < th.length := by omega
      have h2 : 0 < ls.length := by omega
      have h3 : 0 < r.ss.length := by omega
      have wd := w.dr h
      have hh := wd.ht
      have hb := v.v.at h
      have hsb := v.sts _ (List.getElem_mem h3)
      have hsum := (sum_bd w.sts (0 + 1) (by show _ ≤ (rolL r.ss ls).length; rw [rolL_len]; omega)).2
      have hsum0 := (sum_bd w.sts 0 (by show _ ≤ (rolL r.ss ls).length; rw [rolL_len]; omega)).2
      have hS : (0 : Int) + ls[0] = sumE ((rolL r.ss ls).take (0 + 1)) := by
        rw [sumE_snoc (i := 0) (by rw [rolL_len]; exact h3), rolL_at h3 h2]; rfl
      have eS : sumE ((rolR r ms mf mh ls).ss.take (0 + 1)) = sumE ((rolL r.ss ls).take (0 + 1)) := rfl
      rw [eS] at hsum
      have wl : IntKind.wrap .i64 ((0 : Int) + ls[0]) = sumE ((rolL r.ss ls).take (0 + 1)) := by rw [hS, w64 (by omega) (by omega)]
      have wc : IntKind.wrap .i64 ((100 : Int) * r.co) = (100 : Int) * r.co := w64 (by have := v.v.rng.2.2.1.2.2; omega) (by have := v.v.rng.2.2.1.2.2; omega)
      have eH : (100 : Int) * (mh - sumE ((rolL r.ss ls).take (0 + 1))) + (r.st - th[0]) * ms = hL (rolR r ms mf mh ls) 0 th[0] := rfl
      have sA : stA (rolR r ms mf mh ls) 0 = ⟨r.ss[0].a, r.ss[0].b, r.ss[0].c, ls[0], ls[0]⟩ := by
        rw [stA_at (show 0 < (rolL r.ss ls).length by rw [rolL_len]; exact h3)]; exact rolL_at h3 h2
      have kD : kpD (rolR r ms mf mh ls) 0 (bfr r.st th 0) th[0] = (decide (frc r.w (bfr r.st th 0) th[0] ms mf ≤ r.ss[0].b) && decide (frc r.w (bfr r.st th 0) th[0] ms mf * (bfr r.st th 0 - th[0]) ≤ r.ss[0].c) && decide ((if bfr r.st th 0 = th[0] then (0 : Int) else mf * r.ss[0].a - (100 : Int) * (bfr r.st th 0 - th[0])) ≥ 0) && decide (hL (rolR r ms mf mh ls) 0 th[0] ≥ (100 : Int) * r.co)) := by
        unfold kpD bit; rw [sA]; rfl
      have fin : ∀ b', (b && kpD (rolR r ms mf mh ls) 0 (bfr r.st th 0) th[0]) = b' → inv (1, b', c1, c2, c3) := fun b' e => ⟨h, by rw [← e]; exact key 0 h b hk⟩
      have ev := vp_snoc (l := hts (rolR r ms mf mh ls) th) (i := 0) (a := (low (hL (rolR r ms mf mh ls) (0) th[0]) 100).1) (b := (low (hL (rolR r ms mf mh ls) (0) th[0]) 100).2) (by rw [hts_len]; exact h) (hts_at h)
      have lt : th.length - 1 < th.length - 0 := by omega
      show rRm1 _ _ b 0 ((0 : Nat) : Int) r.w r.st r.fi r.hlo r.hhi r.co r.ss.length c1 r.slo r.shi r.flo r.fhi (bs nm) th.length c2 ms mf mh ls.length c3 (vs5 r.ss) (vi th) (vi ls) _ _ _
      rw [rRm1_text]
      simp only [bc_t (show ((0 : Nat) : Int) < (r.ss.length : Int) by omega), bc_t (show (0 : Int) ≤ ((0 : Nat) : Int) by omega), bc_t (show ((0 : Nat) : Int) < (th.length : Int) by omega), bc_t (show ((0 : Nat) : Int) < (ls.length : Int) by omega), Int.toNat_natCast, at1 (vi_at th 0 h), at1 (vi_at ls 0 h2), at5 (vs5_all r.ss 0 h3), Qv, eq_self, true_and, and_true, bc_t (v5le r.ss), bc_t (v1le th), v5_whole, v1_whole, wl, wc]
      refine ⟨_, ⟨conbf r nm th 0 h (by omega)⟩, _, ⟨conrh r th[0] ms mh _ (by omega) (by omega) hms hmh (by omega)⟩, ?_⟩
      rw [eH]
      refine ⟨_, _, ⟨conLe _ _ (by omega) (by omega) (by omega)⟩, ?_⟩
      have stE : ∀ b', st (1, b', c1, c2, c3) = zRm2 (0 + 1) b' (sumE ((rolL r.ss ls).take (0 + 1))) (IntKind.wrap .i64 (((0 : Nat) : Int) + 1)) r.w r.st r.fi r.hlo r.hhi r.co r.ss.length c1 r.slo r.shi r.flo r.fhi (bs nm) th.length c2 ms mf mh ls.length c3 (List.take (0 * 2) (List.drop 0 (vp ((hts (rolR r ms mf mh ls) th).take 0))) ++ [.int .i64 (low (hL (rolR r ms mf mh ls) 0 th[0]) 100).1, .int .i64 (low (hL (rolR r ms mf mh ls) 0 th[0]) 100).2]) (vs5 r.ss) (vi th) (vi ls) := fun b' => by
        rw [ev, w64 (by omega) (by omega)]; rfl
      cases b with
      | false =>
        simp only [bcF, true_and]
        exact ⟨(1, false, c1, c2, c3), fin false (rfl), lt, stE false⟩
      | true =>
        simp only [bcT, true_and]
        refine ⟨_, ⟨conrf r _ _ ms mf hw (by omega) hb.1.1 hb.2.1 hb.2.2.2 hms hmf⟩, ?_⟩
        by_cases f1 : frc r.w (bfr r.st th 0) th[0] ms mf ≤ r.ss[0].b
        · simp only [bc_t f1, true_and]
          refine ⟨_, ⟨conrt r _ _ ms mf hw (by omega) hb.1.1 hb.2.1 hb.2.2.2 hms hmf⟩, ?_⟩
          by_cases f2 : frc r.w (bfr r.st th 0) th[0] ms mf * (bfr r.st th 0 - th[0]) ≤ r.ss[0].c
          · simp only [bc_t f2, true_and]
            refine ⟨_, ⟨conrb r.ss[0] _ _ mf hsb hb.1.1 hb.2.1 hb.2.2.2 hmf⟩, ?_⟩
            by_cases f3 : (if bfr r.st th 0 = th[0] then (0 : Int) else mf * r.ss[0].a - (100 : Int) * (bfr r.st th 0 - th[0])) ≥ 0
            · simp only [bc_t f3, true_and]
              by_cases f4 : hL (rolR r ms mf mh ls) 0 th[0] ≥ (100 : Int) * r.co
              · simp only [bc_t f4, true_and]
                exact ⟨(1, true, c1, c2, c3), fin true (by rw [kD, decide_eq_true f1, decide_eq_true f2, decide_eq_true f3, decide_eq_true f4]; rfl), lt, stE true⟩
              · simp only [bc_f f4, true_and]
                exact ⟨(1, false, c1, c2, c3), fin false (by rw [kD, decide_eq_false f4]; simp), lt, stE false⟩
            · simp only [bc_f f3, true_and]
              exact ⟨(1, false, c1, c2, c3), fin false (by rw [kD, decide_eq_false f3]; simp), lt, stE false⟩
          · simp only [bc_f f2, true_and]
            exact ⟨(1, false, c1, c2, c3), fin false (by rw [kD, decide_eq_false f2]; simp), lt, stE false⟩
        · simp only [bc_f f1, true_and]
          exact ⟨(1, false, c1, c2, c3), fin false (by rw [kD, decide_eq_false f1]; simp), lt, stE false⟩
    | succ i =>
      by_cases hlt : i + 1 < th.length
      · have h : i + 1 < th.length := by omega
        have h2 : i + 1 < ls.length := by omega
        have h3 : i + 1 < r.ss.length := by omega
        have wd := w.dr h
        have hh := wd.ht
        have hb := v.v.at h
        have hsb := v.sts _ (List.getElem_mem h3)
        have hsum := (sum_bd w.sts (i + 1 + 1) (by show _ ≤ (rolL r.ss ls).length; rw [rolL_len]; omega)).2
        have hsum0 := (sum_bd w.sts (i + 1) (by show _ ≤ (rolL r.ss ls).length; rw [rolL_len]; omega)).2
        have hS : (sumE ((rolL r.ss ls).take (i + 1))) + ls[i + 1] = sumE ((rolL r.ss ls).take (i + 1 + 1)) := by
          rw [sumE_snoc (i := i + 1) (by rw [rolL_len]; exact h3), rolL_at h3 h2]
        have eS : sumE ((rolR r ms mf mh ls).ss.take (i + 1 + 1)) = sumE ((rolL r.ss ls).take (i + 1 + 1)) := rfl
        rw [eS] at hsum
        have wl : IntKind.wrap .i64 ((sumE ((rolL r.ss ls).take (i + 1))) + ls[i + 1]) = sumE ((rolL r.ss ls).take (i + 1 + 1)) := by rw [hS, w64 (by omega) (by omega)]
        have wc : IntKind.wrap .i64 ((100 : Int) * r.co) = (100 : Int) * r.co := w64 (by have := v.v.rng.2.2.1.2.2; omega) (by have := v.v.rng.2.2.1.2.2; omega)
        have eH : (100 : Int) * (mh - sumE ((rolL r.ss ls).take (i + 1 + 1))) + (r.st - th[i + 1]) * ms = hL (rolR r ms mf mh ls) (i + 1) th[i + 1] := rfl
        have sA : stA (rolR r ms mf mh ls) (i + 1) = ⟨r.ss[i + 1].a, r.ss[i + 1].b, r.ss[i + 1].c, ls[i + 1], ls[i + 1]⟩ := by
          rw [stA_at (show i + 1 < (rolL r.ss ls).length by rw [rolL_len]; exact h3)]; exact rolL_at h3 h2
        have kD : kpD (rolR r ms mf mh ls) (i + 1) (bfr r.st th (i + 1)) th[i + 1] = (decide (frc r.w (bfr r.st th (i + 1)) th[i + 1] ms mf ≤ r.ss[i + 1].b) && decide (frc r.w (bfr r.st th (i + 1)) th[i + 1] ms mf * (bfr r.st th (i + 1) - th[i + 1]) ≤ r.ss[i + 1].c) && decide ((if bfr r.st th (i + 1) = th[i + 1] then (0 : Int) else mf * r.ss[i + 1].a - (100 : Int) * (bfr r.st th (i + 1) - th[i + 1])) ≥ 0) && decide (hL (rolR r ms mf mh ls) (i + 1) th[i + 1] ≥ (100 : Int) * r.co)) := by
          unfold kpD bit; rw [sA]; rfl
        have fin : ∀ b', (b && kpD (rolR r ms mf mh ls) (i + 1) (bfr r.st th (i + 1)) th[i + 1]) = b' → inv ((i + 2), b', c1, c2, c3) := fun b' e => ⟨h, by rw [← e]; exact key (i + 1) h b hk⟩
        have ev := vp_snoc (l := hts (rolR r ms mf mh ls) th) (i := i + 1) (a := (low (hL (rolR r ms mf mh ls) (i + 1) th[i + 1]) 100).1) (b := (low (hL (rolR r ms mf mh ls) (i + 1) th[i + 1]) 100).2) (by rw [hts_len]; exact h) (hts_at h)
        have lt : th.length - (i + 2) < th.length - (i + 1) := by omega
        show rRm2 _ _ (i + 1) b (sumE ((rolL r.ss ls).take (i + 1))) ((i + 1 : Nat) : Int) r.w r.st r.fi r.hlo r.hhi r.co r.ss.length c1 r.slo r.shi r.flo r.fhi (bs nm) th.length c2 ms mf mh ls.length c3 (vp ((hts (rolR r ms mf mh ls) th).take (i + 1))) (vs5 r.ss) (vi th) (vi ls) _ _ _
        rw [rRm2_text]
        have el : (vp ((hts (rolR r ms mf mh ls) th).take (i + 1))).length = (i + 1) * 2 := by rw [vp_length, List.length_take, hts_len]; omega
        simp only [bc_t (show ((i + 1 : Nat) : Int) < (r.ss.length : Int) by omega), bc_t (show (0 : Int) ≤ ((i + 1 : Nat) : Int) by omega), bc_t (show ((i + 1 : Nat) : Int) < (th.length : Int) by omega), bc_t (show ((i + 1 : Nat) : Int) < (ls.length : Int) by omega), Int.toNat_natCast, at1 (vi_at th (i + 1) h), at1 (vi_at ls (i + 1) h2), at5 (vs5_all r.ss (i + 1) h3), Qv, eq_self, true_and, and_true, bc_t (v5le r.ss), bc_t (v1le th), v5_whole, v1_whole, wl, wc, bc_t (show i + 1 < i + 1 + 1 by omega), bc_t (show (2 * (i + 1 + 1) + 768) * 16 ≤ 281474976710656 by omega), bc_t (show i + 1 + 1 ≤ 1099511627776 by omega), bc_t (show 0 + (i + 1) * 2 ≤ (vp ((hts (rolR r ms mf mh ls) th).take (i + 1))).length by omega), bc_t (show 0 + (i + 1) * 2 = (vp ((hts (rolR r ms mf mh ls) th).take (i + 1))).length by omega)]
        refine ⟨_, ⟨conbf r nm th (i + 1) h (by omega)⟩, _, ⟨conrh r th[i + 1] ms mh _ (by omega) (by omega) hms hmh (by omega)⟩, ?_⟩
        rw [eH]
        refine ⟨_, _, ⟨conLe _ _ (by omega) (by omega) (by omega)⟩, ?_⟩
        have stE : ∀ b', st ((i + 2), b', c1, c2, c3) = zRm2 (i + 1 + 1) b' (sumE ((rolL r.ss ls).take (i + 1 + 1))) (IntKind.wrap .i64 (((i + 1 : Nat) : Int) + 1)) r.w r.st r.fi r.hlo r.hhi r.co r.ss.length c1 r.slo r.shi r.flo r.fhi (bs nm) th.length c2 ms mf mh ls.length c3 (List.take ((i + 1) * 2) (List.drop 0 (vp ((hts (rolR r ms mf mh ls) th).take (i + 1)))) ++ [.int .i64 (low (hL (rolR r ms mf mh ls) (i + 1) th[i + 1]) 100).1, .int .i64 (low (hL (rolR r ms mf mh ls) (i + 1) th[i + 1]) 100).2]) (vs5 r.ss) (vi th) (vi ls) := fun b' => by
          rw [ev, w64 (by omega) (by omega)]; rfl
        cases b with
        | false =>
          simp only [bcF, true_and]
          exact ⟨((i + 2), false, c1, c2, c3), fin false (rfl), lt, stE false⟩
        | true =>
          simp only [bcT, true_and]
          refine ⟨_, ⟨conrf r _ _ ms mf hw (by omega) hb.1.1 hb.2.1 hb.2.2.2 hms hmf⟩, ?_⟩
          by_cases f1 : frc r.w (bfr r.st th (i + 1)) th[i + 1] ms mf ≤ r.ss[i + 1].b
          · simp only [bc_t f1, true_and]
            refine ⟨_, ⟨conrt r _ _ ms mf hw (by omega) hb.1.1 hb.2.1 hb.2.2.2 hms hmf⟩, ?_⟩
            by_cases f2 : frc r.w (bfr r.st th (i + 1)) th[i + 1] ms mf * (bfr r.st th (i + 1) - th[i + 1]) ≤ r.ss[i + 1].c
            · simp only [bc_t f2, true_and]
              refine ⟨_, ⟨conrb r.ss[i + 1] _ _ mf hsb hb.1.1 hb.2.1 hb.2.2.2 hmf⟩, ?_⟩
              by_cases f3 : (if bfr r.st th (i + 1) = th[i + 1] then (0 : Int) else mf * r.ss[i + 1].a - (100 : Int) * (bfr r.st th (i + 1) - th[i + 1])) ≥ 0
              · simp only [bc_t f3, true_and]
                by_cases f4 : hL (rolR r ms mf mh ls) (i + 1) th[i + 1] ≥ (100 : Int) * r.co
                · simp only [bc_t f4, true_and]
                  exact ⟨((i + 2), true, c1, c2, c3), fin true (by rw [kD, decide_eq_true f1, decide_eq_true f2, decide_eq_true f3, decide_eq_true f4]; rfl), lt, stE true⟩
                · simp only [bc_f f4, true_and]
                  exact ⟨((i + 2), false, c1, c2, c3), fin false (by rw [kD, decide_eq_false f4]; simp), lt, stE false⟩
              · simp only [bc_f f3, true_and]
                exact ⟨((i + 2), false, c1, c2, c3), fin false (by rw [kD, decide_eq_false f3]; simp), lt, stE false⟩
            · simp only [bc_f f2, true_and]
              exact ⟨((i + 2), false, c1, c2, c3), fin false (by rw [kD, decide_eq_false f2]; simp), lt, stE false⟩
          · simp only [bc_f f1, true_and]
            exact ⟨((i + 2), false, c1, c2, c3), fin false (by rw [kD, decide_eq_false f1]; simp), lt, stE false⟩
      · have hl2 : i + 1 = th.length := by omega
        show rRm2 _ _ (i + 1) b (sumE ((rolL r.ss ls).take (i + 1))) ((i + 1 : Nat) : Int) r.w r.st r.fi r.hlo r.hhi r.co r.ss.length c1 r.slo r.shi r.flo r.fhi (bs nm) th.length c2 ms mf mh ls.length c3 (vp ((hts (rolR r ms mf mh ls) th).take (i + 1))) (vs5 r.ss) (vi th) (vi ls) _ _ _
        rw [rRm2_text, bc_f (show ¬ ((i + 1 : Nat) : Int) < (r.ss.length : Int) by omega)]
        show (if 0 = 0 then _ else _)
        rw [if_pos rfl]
        show nRm4 _ _ (i + 1) b (vp ((hts (rolR r ms mf mh ls) th).take (i + 1))) _
        rw [nRm4_text]
        have el : (vp ((hts (rolR r ms mf mh ls) th).take (i + 1))).length = (i + 1) * 2 := by rw [vp_length, List.length_take, hts_len]; omega
        have hk2 : kpL (rolR r ms mf mh ls) 0 r.st th = b := by rw [hk, hl2, List.drop_length, kpL, Bool.and_true]
        simp only [Qv, true_and, hk2]
        rw [List.take_of_length_le (by rw [hts_len]; omega)] at el ⊢
        cases b with
        | false => simp only [bcF]; exact ⟨el, by rw [hl2]⟩
        | true => simp only [bcT]; exact ⟨el, by rw [hl2]⟩
end Go.Proofs.G5p

/- awake of chapter 3, for every tape: by what is known of some functions. -/
namespace Go.Proofs.G5p
open Go Go.Abs Go.Proofs Go.Str
set_option maxRecDepth 100000
def unFv : List Value → Option (List Fv)
  | [] => some []
  | .int .i64 a :: .int .i64 b :: .int .i64 c :: .int .i64 d :: .int .i64 e :: r => (unFv r).map (⟨a, b, c, d, e⟩ :: ·)
  | _ => none
theorem unFv_ok : ∀ {l : List Value} {ss : List Fv}, unFv l = some ss → l = vs5 ss := by
  intro l
  induction l using unFv.induct with
  | case1 => intro ss h; rw [unFv] at h; obtain rfl := Option.some.inj h; rfl
  | case2 a b c d e r ih =>
    intro ss h
    rw [unFv] at h
    obtain ⟨t, ht, rfl⟩ := Option.map_eq_some_iff.1 h
    rw [ih ht]; rfl
  | case3 l h1 h2 => intro ss h; rw [unFv] at h <;> first | (cases h; done) | assumption
def parR : D → Option Ru
  | .agg [.val (.int .i64 w), .val (.int .i64 st), .val (.int .i64 fi), .val (.int .i64 hlo), .val (.int .i64 hhi), .val (.int .i64 co), .sl n 5 l, .val (.int .i64 slo), .val (.int .i64 shi), .val (.int .i64 flo), .val (.int .i64 fhi)] =>
    match unFv l with
    | some ss => if ss.length = n then some ⟨w, st, fi, hlo, hhi, co, ss, slo, shi, flo, fhi⟩ else none
    | none => none
  | _ => none
theorem parR_ok {d : D} {r : Ru} (h : parR d = some r) : d = r.d := by
  unfold parR at h
  split at h
  · split at h
    · rename_i e
      split at h
      · obtain rfl := Option.some.inj h
        rename_i hn; subst hn
        rw [unFv_ok e]
      · cases h
    · cases h
  · cases h
def drB (r : Ru) (k : Int) (b h : Int) : Bool := decide (rngB r) && r.ss.all (fun s => decide (stB s)) && decide (0 ≤ k) && decide (k.toNat < r.ss.length) && decide (r.ss.length ≤ 6) && decide (1 ≤ h) && decide (h ≤ b) && decide (b ≤ 1000)
theorem drB_ok {r : Ru} {k b h : Int} (e : drB r k b h = true) : DrOK r k.toNat b h ∧ k = (k.toNat : Int) := by
  simp only [drB, Bool.and_eq_true, decide_eq_true_eq, List.all_eq_true] at e
  obtain ⟨⟨⟨⟨⟨⟨⟨h1, h2⟩, h3⟩, h4⟩, h5⟩, h6⟩, h7⟩, h8⟩ := e
  exact ⟨⟨h1, h2, h4, h5, h6, h7, h8⟩, by omega⟩
def marT (d : D) (k b h : Int) : Option (List D) :=
  match parR d with
  | some r => if drB r k b h = true then some [marD (mar r k.toNat b h)] else none
  | none => none
def torT (d : D) (k b h : Int) : Option (List D) :=
  match parR d with
  | some r => if drB r k b h = true then some [.agg [dI (fl r b h * (b - h)), dI (fh r b h * (b - h))]] else none
  | none => none
def keyD : List D → Int
  | [_, .agg [.val (.int _ k), .val (.int _ b), .val (.int _ h)], _] => k * 1000000 + b * 1000 + h
  | _ => -1
def lookK : List (List D × List D) → Int → List D → Option (List D)
  | [], _, _ => none
  | p :: r, q, ds => if keyD p.1 = q then (if dsEq p.1 ds then some p.2 else lookK r q ds) else lookK r q ds
theorem lookK_ok : ∀ {t : List (List D × List D)} {q : Int} {ds rs : List D}, lookK t q ds = some rs → (ds, rs) ∈ t
  | [], _, _, _, h => by cases h
  | p :: r, q, ds, rs, h => by
    unfold lookK at h
    split at h
    · split at h
      · rename_i e
        obtain rfl := Option.some.inj h
        rw [← dsEq_ok e]; exact List.mem_cons_self
      · exact List.mem_cons_of_mem _ (lookK_ok h)
    · exact List.mem_cons_of_mem _ (lookK_ok h)
def tabP : Tab := fun f =>
  if f = 86 then some fun ds => match ds with
    | [d, .agg [.val (.int .i64 k), .val (.int .i64 b), .val (.int .i64 h)]] => marT d k b h
    | _ => none
  else if f = 89 then some fun ds => match ds with
    | [d, .agg [.val (.int .i64 k), .val (.int .i64 b), .val (.int .i64 h)]] => torT d k b h
    | _ => none
  else if f = 8 then some fun ds => match ds with
    | [d] => (match parR d with | some r => if r.ss.length ≤ 6 then some [dI (chk r).1, dI (chk r).2] else none | none => none)
    | _ => none
  else if f = 53 then some fun ds => match ds with
    | [.val (.int .i64 n), .val (.int .i64 d)] => if -4611686018427387904 ≤ n ∧ n ≤ 4611686018427387904 ∧ 0 < d ∧ d ≤ 4611686018427387904 then some [.agg [dI (low n d).1, dI (low n d).2]] else none
    | _ => none
  else none
theorem tabP_ok : TabOK Try.prog tabP := by
  intro f t ht ds rs h
  unfold tabP at ht
  split at ht
  · rename_i e; subst e; obtain rfl := Option.some.inj ht
    simp only at h
    split at h
    · rename_i d k b hh
      unfold marT at h
      split at h
      · rename_i r hr
        split at h
        · rename_i hd
          obtain rfl := Option.some.inj h
          obtain ⟨hv, hk⟩ := drB_ok hd
          rw [parR_ok hr]
          have := conma r k.toNat b hh hv
          unfold drD at this
          rw [← hk] at this
          exact this
        · cases h
      · cases h
    · cases h
  · split at ht
    · rename_i e; subst e; obtain rfl := Option.some.inj ht
      simp only at h
      split at h
      · rename_i d k b hh
        unfold torT at h
        split at h
        · rename_i r hr
          split at h
          · rename_i hd
            obtain rfl := Option.some.inj h
            obtain ⟨hv, hk⟩ := drB_ok hd
            rw [parR_ok hr]
            have := conto r k.toNat b hh hv
            unfold drD at this
            rw [← hk] at this
            exact this
          · cases h
        · cases h
      · cases h
    · split at ht
      · rename_i e; subst e; obtain rfl := Option.some.inj ht
        simp only at h
        split at h
        · split at h
          · rename_i r hr
            split at h
            · obtain rfl := Option.some.inj h
              rw [parR_ok hr]
              exact conKR r (by omega)
            · cases h
          · cases h
        · cases h
      · split at ht
        · rename_i e; subst e; obtain rfl := Option.some.inj ht
          simp only at h
          split at h
          · split at h
            · rename_i hb
              obtain rfl := Option.some.inj h
              exact conlT _ _ ⟨hb.1, hb.2.1⟩ hb.2.2
            · cases h
          · cases h
        · cases ht
theorem look_all {tab : Tab} (ht : TabOK Try.prog tab) {f : FuncId} {lk : List (List D × List D)} (h : ∀ caps, (lk.all fun p => runOK Try.prog tab 1000 f p.1 p.2 caps) = true) (hc : (lk.all fun p => decide (countV p.1 ≤ 400)) = true) {ds rs : List D} (hm : (ds, rs) ∈ lk) : C5 f ds rs :=
  con_run ht mixed (by simpa using List.all_eq_true.1 hc _ hm) (fun caps => List.all_eq_true.1 (h caps) _ hm)
abbrev rulD : D := .agg [dI 10, dI 100, dI 60, dI 10000, dI 10000, dI 9000, .sl 2 5 [vI 300, vI 20000, vI 400000, vI 0, vI 100, vI 300, vI 20000, vI 400000, vI 0, vI 100], dI 2, dI 3, dI 7, dI 8]
abbrev oneD : D := .agg [dI 10, dI 100, dI 60, dI 10000, dI 10000, dI 9000, .sl 1 5 [vI 300, vI 20000, vI 400000, vI 0, vI 100], dI 2, dI 3, dI 7, dI 8]
abbrev bestD : D := .agg [.val (.string ⟨#[98, 101, 115, 116]⟩), .sl 2 1 [vI 80, vI 60]]
end Go.Proofs.G5p

/- awake of chapter 3: which draughts keep which limits. -/
namespace Go.Proofs.G5p
open Go Go.Abs Go.Proofs Go.Str
set_option maxRecDepth 100000
def lk1 : List (List D × List D) := [([rulD, drD 0 100 100, .sl 4 1 [vI 0, vI 1, vI 2, vI 3]], [dB true]),
  ([rulD, drD 0 100 90, .sl 4 1 [vI 0, vI 1, vI 2, vI 3]], [dB true]),
  ([rulD, drD 0 100 80, .sl 4 1 [vI 0, vI 1, vI 2, vI 3]], [dB true]),
  ([rulD, drD 0 100 70, .sl 4 1 [vI 0, vI 1, vI 2, vI 3]], [dB false]),
  ([rulD, drD 0 100 60, .sl 4 1 [vI 0, vI 1, vI 2, vI 3]], [dB false]),
  ([rulD, drD 0 90 90, .sl 4 1 [vI 0, vI 1, vI 2, vI 3]], [dB true]),
  ([rulD, drD 0 90 80, .sl 4 1 [vI 0, vI 1, vI 2, vI 3]], [dB true]),
  ([rulD, drD 0 90 70, .sl 4 1 [vI 0, vI 1, vI 2, vI 3]], [dB true]),
  ([rulD, drD 0 90 60, .sl 4 1 [vI 0, vI 1, vI 2, vI 3]], [dB false]),
  ([rulD, drD 0 80 80, .sl 4 1 [vI 0, vI 1, vI 2, vI 3]], [dB true]),
  ([rulD, drD 0 80 70, .sl 4 1 [vI 0, vI 1, vI 2, vI 3]], [dB true]),
  ([rulD, drD 0 80 60, .sl 4 1 [vI 0, vI 1, vI 2, vI 3]], [dB true]),
  ([rulD, drD 0 70 70, .sl 4 1 [vI 0, vI 1, vI 2, vI 3]], [dB true]),
  ([rulD, drD 0 70 60, .sl 4 1 [vI 0, vI 1, vI 2, vI 3]], [dB true]),
  ([rulD, drD 0 60 60, .sl 4 1 [vI 0, vI 1, vI 2, vI 3]], [dB true]),
  ([rulD, drD 1 100 100, .sl 4 1 [vI 0, vI 1, vI 2, vI 3]], [dB true]),
  ([rulD, drD 1 100 90, .sl 4 1 [vI 0, vI 1, vI 2, vI 3]], [dB true]),
  ([rulD, drD 1 100 80, .sl 4 1 [vI 0, vI 1, vI 2, vI 3]], [dB true]),
  ([rulD, drD 1 100 70, .sl 4 1 [vI 0, vI 1, vI 2, vI 3]], [dB false]),
  ([rulD, drD 1 100 60, .sl 4 1 [vI 0, vI 1, vI 2, vI 3]], [dB false]),
  ([rulD, drD 1 90 90, .sl 4 1 [vI 0, vI 1, vI 2, vI 3]], [dB true]),
  ([rulD, drD 1 90 80, .sl 4 1 [vI 0, vI 1, vI 2, vI 3]], [dB true]),
  ([rulD, drD 1 90 70, .sl 4 1 [vI 0, vI 1, vI 2, vI 3]], [dB true]),
  ([rulD, drD 1 90 60, .sl 4 1 [vI 0, vI 1, vI 2, vI 3]], [dB false]),
  ([rulD, drD 1 80 80, .sl 4 1 [vI 0, vI 1, vI 2, vI 3]], [dB true]),
  ([rulD, drD 1 80 70, .sl 4 1 [vI 0, vI 1, vI 2, vI 3]], [dB true]),
  ([rulD, drD 1 80 60, .sl 4 1 [vI 0, vI 1, vI 2, vI 3]], [dB true]),
  ([rulD, drD 1 70 70, .sl 4 1 [vI 0, vI 1, vI 2, vI 3]], [dB true]),
  ([rulD, drD 1 70 60, .sl 4 1 [vI 0, vI 1, vI 2, vI 3]], [dB true]),
  ([rulD, drD 1 60 60, .sl 4 1 [vI 0, vI 1, vI 2, vI 3]], [dB true])]
theorem run1 : ∀ caps, (lk1.all fun p => runOK Try.prog tabP 1000 102 p.1 p.2 caps) = true := by intro caps; kernel_rfl
end Go.Proofs.G5p

/- awake of chapter 3: which draughts keep which limits. -/
namespace Go.Proofs.G5p
open Go Go.Abs Go.Proofs Go.Str
set_option maxRecDepth 100000
def lk2 : List (List D × List D) := [([oneD, drD 0 100 100, .sl 4 1 [vI 0, vI 1, vI 2, vI 3]], [dB true]),
  ([oneD, drD 0 100 90, .sl 4 1 [vI 0, vI 1, vI 2, vI 3]], [dB true]),
  ([oneD, drD 0 100 80, .sl 4 1 [vI 0, vI 1, vI 2, vI 3]], [dB true]),
  ([oneD, drD 0 100 70, .sl 4 1 [vI 0, vI 1, vI 2, vI 3]], [dB false]),
  ([oneD, drD 0 100 60, .sl 4 1 [vI 0, vI 1, vI 2, vI 3]], [dB false]),
  ([oneD, drD 0 90 90, .sl 4 1 [vI 0, vI 1, vI 2, vI 3]], [dB true]),
  ([oneD, drD 0 90 80, .sl 4 1 [vI 0, vI 1, vI 2, vI 3]], [dB true]),
  ([oneD, drD 0 90 70, .sl 4 1 [vI 0, vI 1, vI 2, vI 3]], [dB true]),
  ([oneD, drD 0 90 60, .sl 4 1 [vI 0, vI 1, vI 2, vI 3]], [dB false]),
  ([oneD, drD 0 80 80, .sl 4 1 [vI 0, vI 1, vI 2, vI 3]], [dB true]),
  ([oneD, drD 0 80 70, .sl 4 1 [vI 0, vI 1, vI 2, vI 3]], [dB true]),
  ([oneD, drD 0 80 60, .sl 4 1 [vI 0, vI 1, vI 2, vI 3]], [dB true]),
  ([oneD, drD 0 70 70, .sl 4 1 [vI 0, vI 1, vI 2, vI 3]], [dB true]),
  ([oneD, drD 0 70 60, .sl 4 1 [vI 0, vI 1, vI 2, vI 3]], [dB true]),
  ([oneD, drD 0 60 60, .sl 4 1 [vI 0, vI 1, vI 2, vI 3]], [dB true]),
  ([oneD, drD 0 100 100, .nil], [dB true]),
  ([oneD, drD 0 100 90, .nil], [dB true]),
  ([oneD, drD 0 100 80, .nil], [dB true]),
  ([oneD, drD 0 100 70, .nil], [dB true]),
  ([oneD, drD 0 100 60, .nil], [dB true]),
  ([oneD, drD 0 90 90, .nil], [dB true]),
  ([oneD, drD 0 90 80, .nil], [dB true]),
  ([oneD, drD 0 90 70, .nil], [dB true]),
  ([oneD, drD 0 90 60, .nil], [dB true]),
  ([oneD, drD 0 80 80, .nil], [dB true]),
  ([oneD, drD 0 80 70, .nil], [dB true]),
  ([oneD, drD 0 80 60, .nil], [dB true]),
  ([oneD, drD 0 70 70, .nil], [dB true]),
  ([oneD, drD 0 70 60, .nil], [dB true]),
  ([oneD, drD 0 60 60, .nil], [dB true]),
  ([oneD, drD 0 100 100, .sl 1 1 [vI 0]], [dB true]),
  ([oneD, drD 0 100 90, .sl 1 1 [vI 0]], [dB true]),
  ([oneD, drD 0 100 80, .sl 1 1 [vI 0]], [dB true]),
  ([oneD, drD 0 100 70, .sl 1 1 [vI 0]], [dB true]),
  ([oneD, drD 0 100 60, .sl 1 1 [vI 0]], [dB true]),
  ([oneD, drD 0 90 90, .sl 1 1 [vI 0]], [dB true]),
  ([oneD, drD 0 90 80, .sl 1 1 [vI 0]], [dB true]),
  ([oneD, drD 0 90 70, .sl 1 1 [vI 0]], [dB true]),
  ([oneD, drD 0 90 60, .sl 1 1 [vI 0]], [dB true]),
  ([oneD, drD 0 80 80, .sl 1 1 [vI 0]], [dB true]),
  ([oneD, drD 0 80 70, .sl 1 1 [vI 0]], [dB true]),
  ([oneD, drD 0 80 60, .sl 1 1 [vI 0]], [dB true]),
  ([oneD, drD 0 70 70, .sl 1 1 [vI 0]], [dB true]),
  ([oneD, drD 0 70 60, .sl 1 1 [vI 0]], [dB true]),
  ([oneD, drD 0 60 60, .sl 1 1 [vI 0]], [dB true]),
  ([oneD, drD 0 100 100, .sl 1 1 [vI 1]], [dB true]),
  ([oneD, drD 0 100 90, .sl 1 1 [vI 1]], [dB true]),
  ([oneD, drD 0 100 80, .sl 1 1 [vI 1]], [dB true]),
  ([oneD, drD 0 100 70, .sl 1 1 [vI 1]], [dB false]),
  ([oneD, drD 0 100 60, .sl 1 1 [vI 1]], [dB false]),
  ([oneD, drD 0 90 90, .sl 1 1 [vI 1]], [dB true]),
  ([oneD, drD 0 90 80, .sl 1 1 [vI 1]], [dB true]),
  ([oneD, drD 0 90 70, .sl 1 1 [vI 1]], [dB true]),
  ([oneD, drD 0 90 60, .sl 1 1 [vI 1]], [dB true]),
  ([oneD, drD 0 80 80, .sl 1 1 [vI 1]], [dB true]),
  ([oneD, drD 0 80 70, .sl 1 1 [vI 1]], [dB true]),
  ([oneD, drD 0 80 60, .sl 1 1 [vI 1]], [dB true]),
  ([oneD, drD 0 70 70, .sl 1 1 [vI 1]], [dB true]),
  ([oneD, drD 0 70 60, .sl 1 1 [vI 1]], [dB true]),
  ([oneD, drD 0 60 60, .sl 1 1 [vI 1]], [dB true])]
theorem run2 : ∀ caps, (lk2.all fun p => runOK Try.prog tabP 1000 102 p.1 p.2 caps) = true := by intro caps; kernel_rfl
end Go.Proofs.G5p

/- awake of chapter 3: what is known of some calls. -/
namespace Go.Proofs.G5p
open Go Go.Abs Go.Proofs Go.Str
set_option maxRecDepth 100000
def lkH : List (List D × List D) := [([rulD, bestD], [dI 2, dI 0])]
def lkR : List (List D × List D) := [([rulD, bestD, .agg [dI 2, dI 8, dI 10000, .sl 2 1 [vI 50, vI 50]]], [.sl 2 2 [vI 49752, vI 5, vI 49504, vI 5], .val (.bool true), dI 0])]
def lkT : List (List D × List D) := [([rulD, bestD, dI 300], [.sl 2 2 [vI 375, vI 1, vI 500, vI 1], dI 0])]
def lkQ : List (List D × List D) := [([rulD, dI 10], [.sl 5 1 [vI 100, vI 90, vI 80, vI 70, vI 60]]), ([oneD, dI 10], [.sl 5 1 [vI 100, vI 90, vI 80, vI 70, vI 60]])]
theorem runH : ∀ caps, (lkH.all fun p => runOK Try.prog tabP 1000 29 p.1 p.2 caps) = true := by intro caps; kernel_rfl
theorem runR : ∀ caps, (lkR.all fun p => runOK Try.prog tabP 1000 22 p.1 p.2 caps) = true := by intro caps; kernel_rfl
theorem runT : ∀ caps, (lkT.all fun p => runOK Try.prog tabP 1000 13 p.1 p.2 caps) = true := by intro caps; kernel_rfl
theorem runQ : ∀ caps, (lkQ.all fun p => runOK Try.prog tabP 1000 92 p.1 p.2 caps) = true := by intro caps; kernel_rfl
end Go.Proofs.G5p

/- awake of chapter 3, for every tape: by tables. -/
namespace Go.Proofs.G5p
open Go Go.Abs Go.Proofs Go.Str
set_option maxRecDepth 100000
theorem runP : ∀ caps, ((lk1 ++ lk2).all fun p => runOK Try.prog tabP 1000 102 p.1 p.2 caps) = true := fun caps => by rw [List.all_append, run1, run2]; rfl
def tabA : Tab := fun f => if f == 102 then some (fun ds => lookK (lk1 ++ lk2) (keyD ds) ds) else if f == 29 then some (tabLook lkH) else if f == 22 then some (tabLook lkR) else if f == 13 then some (tabLook lkT) else if f == 92 then some (tabLook lkQ) else tabP f
theorem tabA_ok : TabOK Try.prog tabA := by
  intro f t ht ds rs h
  unfold tabA at ht
  split at ht
  · rename_i e; obtain rfl := Option.some.inj ht; rw [beq_iff_eq] at e; subst e; exact look_all tabP_ok runP (by kernel_rfl) (lookK_ok h)
  · split at ht
    · rename_i e; obtain rfl := Option.some.inj ht; rw [beq_iff_eq] at e; subst e; exact look_all tabP_ok runH (by kernel_rfl) (tabLook_ok h)
    · split at ht
      · rename_i e; obtain rfl := Option.some.inj ht; rw [beq_iff_eq] at e; subst e; exact look_all tabP_ok runR (by kernel_rfl) (tabLook_ok h)
      · split at ht
        · rename_i e; obtain rfl := Option.some.inj ht; rw [beq_iff_eq] at e; subst e; exact look_all tabP_ok runT (by kernel_rfl) (tabLook_ok h)
        · split at ht
          · rename_i e; obtain rfl := Option.some.inj ht; rw [beq_iff_eq] at e; subst e; exact look_all tabP_ok runQ (by kernel_rfl) (tabLook_ok h)
          · exact tabP_ok f t ht ds rs h
theorem runA : ∀ caps, runOK Try.prog tabA 1000 6 [] [.val (.bool true)] caps = true := by intro caps; kernel_rfl
theorem conA : C5 6 [] [.val (.bool true)] := con_run tabA_ok mixed (by show 0 ≤ 400; omega) runA
end Go.Proofs.G5p

/- Chapter 3: copies, by the shape of what is copied. -/
namespace Go.Abs
def copyPR : List D → Option (List D)
  | [.agg [a, b, c, d, e, f, .nil, g, h, i, j]] => some [.agg [a, b, c, d, e, f, .sl 0 5 [], g, h, i, j]]
  | [.agg [a, b, c, d, e, f, .sl n es cs, g, h, i, j]] => some [.agg [a, b, c, d, e, f, .sl n es cs, g, h, i, j]]
  | _ => none
def copyPS : List D → Option (List D)
  | [.agg [a, .nil]] => some [.agg [a, .sl 0 1 []]]
  | [.agg [a, .sl n es cs]] => some [.agg [a, .sl n es cs]]
  | _ => none
def copyPM : List D → Option (List D)
  | [.agg [a, b, c, .nil]] => some [.agg [a, b, c, .sl 0 1 []]]
  | [.agg [a, b, c, .sl n es cs]] => some [.agg [a, b, c, .sl n es cs]]
  | _ => none
end Go.Abs

/- Short names for what stands often in printed texts of laws. -/
namespace Go.Abs
abbrev Tk (n k : Nat) (l : List Value) : List Value := List.take (n * k) (List.drop 0 l)
abbrev Dw (n k : Nat) (l : List Value) : D := .sl n k (Tk n k l)
abbrev dL (n k : Nat) (l : List Value) : Bool := decide (0 + n * k ≤ List.length l)
abbrev kT : List D := [.val (.bool true)]
abbrev kF : List D := [.val (.bool false)]
abbrev Qf : Prop := Value.bool false = Value.bool false
abbrev Qb : Prop := Value.bool true = Value.bool true
end Go.Abs

/- What is left to show of each function, written out; the kernel reckons it. -/
namespace Go.Proofs.G5p
open Go Go.Abs Go.Proofs
set_option maxRecDepth 100000
set_option linter.unusedVariables false
def preQ (C : Ct) : FuncId → Option Handler := fun g => if g == 9 then some (fixH C copyPR) else if g == 11 then some (fixH C copyPS) else if g == 21 then some (fixH C copyPM) else if [6, 42, 43, 44, 45, 46, 48, 60, 8, 81, 82, 47, 10, 20, 53, 105, 98, 89, 99, 63, 86, 97, 61, 64, 12, 13, 30, 29, 22, 14, 23, 15, 25, 27, 59, 17, 19, 66, 67, 68, 65, 26, 24, 28, 16, 18, 58, 41, 71, 87, 31, 32, 33].contains g then some (saidH Try.prog C) else none
abbrev hQ (C : Ct) : Handler := handlerX Try.prog (preQ C) 12 6
def gcR (C : Ct) (L : AtLoop) (x0 : Int) (x1 : Int) (x2 : Int) (x3 : Int) (x4 : Int) (x5 : Int) (n6 : Nat) (c6 : Nat) (l6 : List Value) (x7 : Int) (x8 : Int) (x9 : Int) (x10 : Int) (k : List D → Prop) : Prop := wpFn Try.prog (hE C) L 0 9 #[.agg #[.int .i64 x0, .int .i64 x1, .int .i64 x2, .int .i64 x3, .int .i64 x4, .int .i64 x5, .slice (some ⟨500, 0, none⟩) n6 c6, .int .i64 x7, .int .i64 x8, .int .i64 x9, .int .i64 x10]] (heapOf [(500, .sym l6 false 5)]) (dataK k)
theorem gcR_text (C : Ct) (L : AtLoop) (x0 : Int) (x1 : Int) (x2 : Int) (x3 : Int) (x4 : Int) (x5 : Int) (n6 : Nat) (c6 : Nat) (l6 : List Go.Value) (x7 : Int) (x8 : Int) (x9 : Int) (x10 : Int) (k : List D → Prop) : gcR C L x0 x1 x2 x3 x4 x5 n6 c6 l6 x7 x8 x9 x10 k =
 (bcase (dL n6 5 l6)
 (bcase (n6 == 0)
 (((0 = 0) ∧
 (0 = 0)) ∧
 (k [(D.agg [(dI x0), (dI x1), (dI x2), (dI x3), (dI x4), (dI x5), (D.sl 0 5 []), (dI x7), (dI x8), (dI x9), (dI x10)])]))
 (bcase (decide (0 < 0 + n6))
 (bcase (decide ((2 * (0 + n6) + 768) * 40 ≤ 281474976710656))
 (bcase (decide (0 + n6 ≤ 1099511627776))
 (((Qv (0 + n6)) ∧
 ((List.length (List.take 0 (List.drop 0 []) ++ List.take (n6 * 5) (List.drop 0 l6))) = ((0 + n6) * 5))) ∧
 (k [(D.agg [(dI x0), (dI x1), (dI x2), (dI x3), (dI x4), (dI x5), (D.sl (0 + n6) 5 ([] ++ (Tk n6 5 l6))), (dI x7), (dI x8), (dI x9), (dI x10)])]))
 False)
 False)
 False))
 False) := by kernel_rfl
def gcRn (C : Ct) (L : AtLoop) (x0 : Int) (x1 : Int) (x2 : Int) (x3 : Int) (x4 : Int) (x5 : Int) (x7 : Int) (x8 : Int) (x9 : Int) (x10 : Int) (k : List D → Prop) : Prop := wpFn Try.prog (hE C) L 0 9 #[.agg #[.int .i64 x0, .int .i64 x1, .int .i64 x2, .int .i64 x3, .int .i64 x4, .int .i64 x5, .slice none 0 0, .int .i64 x7, .int .i64 x8, .int .i64 x9, .int .i64 x10]] (heapOf []) (dataK k)
theorem gcRn_text (C : Ct) (L : AtLoop) (x0 : Int) (x1 : Int) (x2 : Int) (x3 : Int) (x4 : Int) (x5 : Int) (x7 : Int) (x8 : Int) (x9 : Int) (x10 : Int) (k : List D → Prop) : gcRn C L x0 x1 x2 x3 x4 x5 x7 x8 x9 x10 k =
 (((0 = 0) ∧
 (0 = 0)) ∧
 (k [(D.agg [(dI x0), (dI x1), (dI x2), (dI x3), (dI x4), (dI x5), (D.sl 0 5 []), (dI x7), (dI x8), (dI x9), (dI x10)])])) := by kernel_rfl
def gcS (C : Ct) (L : AtLoop) (s0 : ByteArray) (n1 : Nat) (c1 : Nat) (l1 : List Value) (k : List D → Prop) : Prop := wpFn Try.prog (hE C) L 0 11 #[.agg #[.string s0, .slice (some ⟨500, 0, none⟩) n1 c1]] (heapOf [(500, .sym l1 false 1)]) (dataK k)
theorem gcS_text (C : Ct) (L : AtLoop) (s0 : ByteArray) (n1 : Nat) (c1 : Nat) (l1 : List Go.Value) (k : List D → Prop) : gcS C L s0 n1 c1 l1 k =
 (((Qv (Sl 500 (n1) (c1))) ∧
 ((Qv (Pt 1000 1)) ∧
 ((Qv (Value.string (s0))) ∧
 ((Qv (Pt 1000 0)) ∧
 True)))) ∧
 (bcase (dL n1 1 l1)
 (bcase (n1 == 0)
 (((Qv (Value.agg [(Value.string (s0)), (Sl 1003 0 0)].toArray)) ∧
 ((Qv (Pt 1000 1)) ∧
 ((Qv (Value.string (s0))) ∧
 ((Qv (Pt 1000 0)) ∧
 True)))) ∧
 (True ∧
 (((0 = 0) ∧
 (0 = 0)) ∧
 (k [(D.agg [(D.val (Value.string (s0))), (D.sl 0 1 [])])]))))
 (bcase (decide (0 < 0 + n1))
 (bcase (decide ((2 * (0 + n1) + 768) * 8 ≤ 281474976710656))
 (bcase (decide (0 + n1 ≤ 1099511627776))
 (((Qv (Value.agg [(Value.string (s0)), (Sl 1003 (0 + n1) (0 + n1))].toArray)) ∧
 ((Qv (Pt 1000 1)) ∧
 ((Qv (Value.string (s0))) ∧
 ((Qv (Pt 1000 0)) ∧
 True)))) ∧
 (True ∧
 (((Qv (0 + n1)) ∧
 ((List.length (List.take 0 (List.drop 0 []) ++ List.take (n1 * 1) (List.drop 0 l1))) = ((0 + n1) * 1))) ∧
 (k [(D.agg [(D.val (Value.string (s0))), (D.sl (0 + n1) 1 ([] ++ (Tk n1 1 l1)))])]))))
 False)
 False)
 False))
 False)) := by kernel_rfl
def gcSn (C : Ct) (L : AtLoop) (s0 : ByteArray) (k : List D → Prop) : Prop := wpFn Try.prog (hE C) L 0 11 #[.agg #[.string s0, .slice none 0 0]] (heapOf []) (dataK k)
theorem gcSn_text (C : Ct) (L : AtLoop) (s0 : ByteArray) (k : List D → Prop) : gcSn C L s0 k =
 (((Qv (Value.slice none 0 0)) ∧
 ((Qv (Pt 1000 1)) ∧
 ((Qv (Value.string (s0))) ∧
 ((Qv (Pt 1000 0)) ∧
 True)))) ∧
 (((Qv (Value.agg [(Value.string (s0)), (Sl 1003 0 0)].toArray)) ∧
 ((Qv (Pt 1000 1)) ∧
 ((Qv (Value.string (s0))) ∧
 ((Qv (Pt 1000 0)) ∧
 True)))) ∧
 (True ∧
 (((0 = 0) ∧
 (0 = 0)) ∧
 (k [(D.agg [(D.val (Value.string (s0))), (D.sl 0 1 [])])]))))) := by kernel_rfl
end Go.Proofs.G5p

/- PassSchedules in data. -/
namespace Go.Proofs.G5p
open Go Go.Abs Go.Proofs Go.Str
set_option maxRecDepth 100000
theorem preQOK : PreOK Try.prog (preQ C5) := by
  intro g h he args ats H k hk
  unfold preQ at he
  rcases ite_so he with ⟨_, rfl⟩ | he
  · exact fixH_ok (fun _ _ _ h => h) _ _ _ _ _ hk
  rcases ite_so he with ⟨_, rfl⟩ | he
  · exact fixH_ok (fun _ _ _ h => h) _ _ _ _ _ hk
  rcases ite_so he with ⟨_, rfl⟩ | he
  · exact fixH_ok (fun _ _ _ h => h) _ _ _ _ _ hk
  rcases ite_so he with ⟨_, rfl⟩ | he
  · exact saidH_ok (fun _ _ _ h => h) _ _ _ _ _ hk
  · cases he
theorem hokQ : HandlerOK Try.prog (hQ C5) := handlerX_ok mixed preQOK (by decide) 6
theorem v5_e {l : List Fv} (h : l.length = 0) : vs5 l = [] := by rw [List.eq_nil_of_length_eq_zero h]; rfl
theorem v1_e {l : List Int} (h : l.length = 0) : vi l = [] := by rw [List.eq_nil_of_length_eq_zero h]; rfl
theorem concR (r : Ru) (h8 : r.ss.length ≤ 8) : C5 9 [r.d] [r.d] := by
  refine con_flat hokE mixed Try.func9 rfl (by show 1 ≤ 400; omega) rfl (by kernel_rfl) (fun caps => ?_)
  show gcR _ _ r.w r.st r.fi r.hlo r.hhi r.co r.ss.length (caps 500) (vs5 r.ss) r.slo r.shi r.flo r.fhi _
  rw [gcR_text]
  simp only [dL, Tk, v5_whole, bc_t (v5le r.ss), Qv, eq_self, true_and]
  refine bc_beq (fun h => ?_) (fun h => ?_)
  · show [D.agg _] = [D.agg _]
    simp only [v5_e h, h]
  · rw [bc_t (by omega), bc_t (by omega), bc_t (by omega)]
    simp
theorem concRn (r : Ru) (h : r.ss = []) : C5 9 [r.dn] [r.d] := by
  refine con_flat hokE mixed Try.func9 rfl (by show 0 ≤ 400; omega) rfl (by kernel_rfl) (fun caps => ?_)
  show gcRn _ _ r.w r.st r.fi r.hlo r.hhi r.co r.slo r.shi r.flo r.fhi _
  rw [gcRn_text]
  simp only [eq_self, true_and]
  simp only [Ru.d, h]
  rfl
theorem concS (nm : List UInt8) (th : List Int) (h8 : th.length ≤ 8) : C5 11 [scD nm th] [scD nm th] := by
  refine con_flat hokE mixed Try.func11 rfl (by show 1 ≤ 400; omega) rfl (by kernel_rfl) (fun caps => ?_)
  show gcS _ _ (bs nm) th.length (caps 500) (vi th) _
  rw [gcS_text]
  simp only [dL, Tk, v1_whole, bc_t (v1le th), Qv, eq_self, true_and]
  refine bc_beq (fun h => ?_) (fun h => ?_)
  · show [D.agg _] = [D.agg _]
    simp only [v1_e h, h]
  · rw [bc_t (by omega), bc_t (by omega), bc_t (by omega)]
    simp
theorem concSn (nm : List UInt8) : C5 11 [scN nm] [scD nm []] := by
  refine con_flat hokE mixed Try.func11 rfl (by show 0 ≤ 400; omega) rfl (by kernel_rfl) (fun caps => ?_)
  show gcSn _ _ (bs nm) _
  rw [gcSn_text]
  simp only [Qv, eq_self, true_and]
  rfl
end Go.Proofs.G5p

/- PassSchedules in data: the law. -/
namespace Go.Proofs.G5p
open Go Go.Abs Go.Proofs Go.Str
set_option maxRecDepth 100000
theorem schP_bad {r : Ru} {nm : List UInt8} {th : List Int} (h : (chk r).2 ≠ 0) : schP r nm th = (0, (chk r).2) := by rw [schP, if_neg h]
theorem schP_good {r : Ru} {nm : List UInt8} {th : List Int} (h : (chk r).2 = 0) : schP r nm th = schE r nm th := by rw [schP, if_pos h]
theorem chk_pos {r : Ru} (h1 : (chk r).2 = 0) : 0 < r.ss.length := by
  have hr : rngB r := Decidable.byContradiction fun h => by rw [chk_rng h] at h1; simp at h1
  have ho : ordB r := Decidable.byContradiction fun h => by rw [chk_ord hr h] at h1; simp at h1
  rw [chk_cnt hr ho] at h1
  have hc : cntE r.ss.length = 0 := Decidable.byContradiction fun h => by rw [if_neg h] at h1; exact h h1
  refine Nat.pos_of_ne_zero fun h => ?_
  rw [cntE, if_pos h] at hc; simp at hc
theorem schE_nil {r : Ru} (nm : List UInt8) (h0 : 0 < r.ss.length) : (schE r nm []).2 ≠ 0 := by
  rw [schE]
  split
  · rw [if_neg (by simp; omega)]; decide
  · decide
end Go.Proofs.G5p
