/- Texts of the proof, put together: GpP17, GpPMK. -/
import Derived.Test.YteadiejdhplokaaP7
import Derived.Test.YteadiejdhplokaaGpPMT
import Derived.Test.YteadiejdhplokaaP6
/- PassMaterials in data. -/
namespace Go.Proofs.G5p
open Go Go.Abs Go.Proofs Go.Str
set_option maxRecDepth 100000
theorem conSE (r : Ru) (nm : List UInt8) (th : List Int) (hlen : r.ss.length < 1000000000) (hth : th.length < 1000000000) : C5 25 [r.d, scD nm th] [dI (schE r nm th).2] := by
  refine con_flat hokP mixed Try.func25 rfl (by show 2 ≤ 400; omega) rfl (by kernel_rfl) (fun caps => ?_)
  show gSE _ _ r.w r.st r.fi r.hlo r.hhi r.co r.ss.length (caps 500) (vs5 r.ss) r.slo r.shi r.flo r.fhi (bs nm) th.length (caps 501) (vi th) _
  rw [gSE_text, bc_t (v5le r.ss), bc_t (v1le th), v5_whole, v1_whole]
  exact ⟨_, _, ⟨conRS r nm th hlen hth⟩, rfl⟩
theorem conSEn (r : Ru) (nm : List UInt8) (h0 : 0 < r.ss.length) (hlen : r.ss.length < 1000000000) : C5 25 [r.d, scN nm] [dI (schE r nm []).2] := by
  refine con_flat hokP mixed Try.func25 rfl (by show 1 ≤ 400; omega) rfl (by kernel_rfl) (fun caps => ?_)
  show gSEn _ _ r.w r.st r.fi r.hlo r.hhi r.co r.ss.length (caps 500) (vs5 r.ss) r.slo r.shi r.flo r.fhi (bs nm) _
  rw [gSEn_text, bc_t (v5le r.ss), v5_whole]
  exact ⟨_, _, ⟨conRSn r nm h0 hlen⟩, rfl⟩
theorem concM (ms mf mh : Int) (ls : List Int) (h8 : ls.length ≤ 8) : C5 21 [maD ms mf mh ls] [maD ms mf mh ls] := by
  refine con_flat hokE mixed Try.func21 rfl (by show 1 ≤ 400; omega) rfl (by kernel_rfl) (fun caps => ?_)
  show gcM _ _ ms mf mh ls.length (caps 500) (vi ls) _
  rw [gcM_text]
  simp only [dL, Tk, v1_whole, bc_t (v1le ls), Qv, eq_self, true_and]
  refine bc_beq (fun h => ?_) (fun h => ?_)
  · show [D.agg _] = [D.agg _]
    simp only [v1_e h, h]
  · rw [bc_t (by omega), bc_t (by omega), bc_t (by omega)]
    simp
theorem concMn (ms mf mh : Int) : C5 21 [maN ms mf mh] [maD ms mf mh []] := by
  refine con_flat hokE mixed Try.func21 rfl (by show 0 ≤ 400; omega) rfl (by kernel_rfl) (fun caps => ?_)
  show gcMn _ _ ms mf mh _
  rw [gcMn_text]
  simp only [eq_self, true_and]
  rfl
theorem matP_bad {r : Ru} {ms mf mh : Int} {ls : List Int} (h : (chk r).2 ≠ 0) : matP r ms mf mh ls = (0, (chk r).2) := by rw [matP, if_neg h]
theorem matP_good {r : Ru} {ms mf mh : Int} {ls : List Int} (h : (chk r).2 = 0) : matP r ms mf mh ls = matE r ms mf mh ls := by rw [matP, if_pos h]
theorem lawM0 (r : Ru) (nm : List UInt8) (th : List Int) (ms mf mh : Int) (ls : List Int) : C5 4 [r.d, scD nm th, maD ms mf mh ls] [.val (.bool true)] := by
  refine con_flat hokQ mixed Try.func4 rfl (by show 3 ≤ 400; omega) rfl (by kernel_rfl) (fun caps => ?_)
  show gM0 _ _ r.w r.st r.fi r.hlo r.hhi r.co r.ss.length (caps 500) (vs5 r.ss) r.slo r.shi r.flo r.fhi (bs nm) th.length (caps 501) (vi th) ms mf mh ls.length (caps 502) (vi ls) _
  rw [gM0_text]
  refine .inl ⟨⟨conA⟩, bc_dec (fun h1 => bc_dec (fun h2 => bc_dec (fun h3 => bc_dec (fun _ => rfl) (fun h4 => ?_)) (fun _ => rfl)) (fun _ => rfl)) (fun _ => rfl)⟩
  simp only [dL, Dw, Tk, v5_whole, v1_whole, bc_t (v5le r.ss), bc_t (v1le th), bc_t (v1le ls), Qv, eq_self, true_and]
  have c1 := concR r (by omega)
  have c2 := concS nm th (by omega)
  have c3 := concM ms mf mh ls (by omega)
  refine ⟨⟨c1⟩, ⟨c3⟩, _, _, ⟨conKM r ms mf mh ls (by omega) (by omega)⟩, ⟨c1⟩, ⟨c2⟩, ⟨c3⟩, ?_⟩
  by_cases hc : (chk r).2 = 0
  · have hk : (chk r).2 = 0 := hc
    by_cases hs : (schE r nm th).2 = 0
    · by_cases hm : (matE r ms mf mh ls).2 = 0
      · have hp : (schP r nm th).2 = 0 := by rw [schP_good hc]; exact hs
        have hq : (matP r ms mf mh ls).2 = 0 := by rw [matP_good hc]; exact hm
        have v := vr_of hc hs
        have hls := (matE_ok hm).2.1
        have hll := v.v.len
        have ro := conRo r nm th ms mf mh ls hp hq
        rw [ans_kp hls] at ro
        have rm := conRm r nm th ms mf mh ls v hm
        have hl1 : 0 + th.length * 2 ≤ (vp (hts (rolR r ms mf mh ls) th)).length := by rw [vp_length, hts_len]; omega
        have w1 : List.take (th.length * 2) (List.drop 0 (vp (hts (rolR r ms mf mh ls) th))) = vp (hts (rolR r ms mf mh ls) th) := by
          have := vp_whole (hts (rolR r ms mf mh ls) th); rw [hts_len] at this; exact this
        have f1 : C5 16 [.sl th.length 2 (vp (hts (rolR r ms mf mh ls) th)), .sl th.length 2 (vp (hts (rolR r ms mf mh ls) th))] [dB true] := by
          have := conFr (hts (rolR r ms mf mh ls) th) (by rw [hts_len]; omega); rw [hts_len] at this; exact this
        cases hb : kpL (rolR r ms mf mh ls) 0 r.st th with
        | true =>
          rw [hb] at ro rm
          refine .inr ⟨_, _, .inl ⟨_, ⟨ro⟩, _, ⟨conRE r (by omega)⟩, ?_⟩⟩
          rw [hc, bc_nf]
          refine ⟨_, _, ⟨conRC r ms mf mh ls (by omega) (by omega)⟩, ?_⟩
          rw [matP_good hc, hm, bc_nf, bc_nf]
          refine ⟨_, ⟨conSE r nm th (by omega) (by omega)⟩, ?_⟩
          rw [hs, bc_qt, bc_nf]
          refine .inr ⟨_, _, .inl ⟨⟨rm⟩, ?_⟩⟩
          rw [bc_qt, bc_t hl1, bc_t hl1, w1]
          exact .inl ⟨⟨f1⟩, trivial⟩
        | false =>
          rw [hb] at ro rm
          refine .inr ⟨_, _, .inr ⟨_, ⟨ro⟩, _, ⟨conRE r (by omega)⟩, ?_⟩⟩
          rw [hc, bc_nf]
          refine ⟨_, _, ⟨conRC r ms mf mh ls (by omega) (by omega)⟩, ?_⟩
          rw [matP_good hc, hm, bc_nf, bc_nf]
          refine ⟨_, ⟨conSE r nm th (by omega) (by omega)⟩, ?_⟩
          rw [hs, bc_qt, bc_nf]
          refine .inr ⟨_, _, .inr ⟨⟨rm⟩, ?_⟩⟩
          rw [bc_qt, bc_t hl1, bc_t hl1, w1]
          exact .inl ⟨⟨f1⟩, trivial⟩
      · have he : rolErr r nm th ms mf mh ls = (matE r ms mf mh ls).2 := by rw [rolErr, schP_good hc, hs, fst0_z, matP_good hc]; exact fst0_n hm _
        have ro := conRob r nm th ms mf mh ls (by omega) (by omega) (by omega) (by rw [he]; exact hm)
        rw [he] at ro
        refine .inl (.inr ⟨_, ⟨ro⟩, _, ⟨conRE r (by omega)⟩, ?_⟩)
        rw [hc, bc_nf]
        refine ⟨_, _, ⟨conRC r ms mf mh ls (by omega) (by omega)⟩, ?_⟩
        rw [matP_good hc, bc_nf, bc_nf]
        refine ⟨_, ⟨conSE r nm th (by omega) (by omega)⟩, ?_⟩
        rw [hs, bc_qt, bc_n hm, bc_qt]
        trivial
    · have he : rolErr r nm th ms mf mh ls = (schE r nm th).2 := by rw [rolErr, schP_good hc]; exact fst0_n hs _
      have ro := conRob r nm th ms mf mh ls (by omega) (by omega) (by omega) (by rw [he]; exact hs)
      rw [he] at ro
      refine .inl (.inr ⟨_, ⟨ro⟩, _, ⟨conRE r (by omega)⟩, ?_⟩)
      rw [hc, bc_nf]
      refine ⟨_, _, ⟨conRC r ms mf mh ls (by omega) (by omega)⟩, ?_⟩
      rw [matP_good hc, bc_nf, bc_nf]
      refine ⟨_, ⟨conSE r nm th (by omega) (by omega)⟩, ?_⟩
      rw [bc_q hs, bc_n hs, bc_qt]
      trivial
  · have he : rolErr r nm th ms mf mh ls = (chk r).2 := by rw [rolErr, schP_bad hc]; exact fst0_n hc _
    have ro := conRob r nm th ms mf mh ls (by omega) (by omega) (by omega) (by rw [he]; exact hc)
    rw [he] at ro
    refine .inl (.inr ⟨_, ⟨ro⟩, _, ⟨conRE r (by omega)⟩, ?_⟩)
    rw [matP_bad hc, bc_n hc, bc_qt, bc_qt, bc_qt]
    trivial
theorem matE_nil {r : Ru} (ms mf mh : Int) (h0 : 0 < r.ss.length) : (matE r ms mf mh []).2 ≠ 0 := by
  rw [matE]
  split
  · rw [if_neg (by simp; omega)]; decide
  · decide
theorem lawM1 (r : Ru) (nm : List UInt8) (th : List Int) (ms mf mh : Int) : C5 4 [r.d, scD nm th, maN ms mf mh] [.val (.bool true)] := by
  refine con_flat hokQ mixed Try.func4 rfl (by show 2 ≤ 400; omega) rfl (by kernel_rfl) (fun caps => ?_)
  show gM1 _ _ r.w r.st r.fi r.hlo r.hhi r.co r.ss.length (caps 500) (vs5 r.ss) r.slo r.shi r.flo r.fhi (bs nm) th.length (caps 501) (vi th) ms mf mh _
  rw [gM1_text]
  refine .inl ⟨⟨conA⟩, bc_dec (fun h1 => bc_dec (fun h2 => bc_dec (fun h3 => ?_) (fun _ => rfl)) (fun _ => rfl)) (fun _ => rfl)⟩
  simp only [dL, Dw, Tk, v5_whole, bc_t (v5le r.ss), v1_whole, bc_t (v1le th), Qv, eq_self, true_and]
  have c1 := concR r (by omega)
  have c2 := concS nm th (by omega)
  have c3 := concMn ms mf mh
  have k1 := conKM r ms mf mh [] (by omega) (by simp)
  refine ⟨⟨c1⟩, ⟨c3⟩, _, _, ⟨k1⟩, ⟨c1⟩, ⟨c2⟩, ⟨c3⟩, ?_⟩
  by_cases hc : (chk r).2 = 0
  · have h0 := chk_pos hc
    have hm : (matE r ms mf mh []).2 ≠ 0 := matE_nil ms mf mh h0
    by_cases hs : (schE r nm th).2 = 0
    · have he : rolErr r nm th ms mf mh [] = (matE r ms mf mh []).2 := by rw [rolErr, schP_good hc, hs, fst0_z, matP_good hc]; exact fst0_n hm _
      have ro := conRob r nm th ms mf mh [] (by omega) (by omega) (by simp) (by rw [he]; exact hm)
      rw [he] at ro
      refine .inl (.inr ⟨_, ⟨ro⟩, _, ⟨conRE r (by omega)⟩, ?_⟩)
      rw [hc, bc_nf]
      refine ⟨_, _, ⟨conRCn r ms mf mh h0 (by omega)⟩, ?_⟩
      rw [matP_good hc, bc_nf, bc_nf]
      refine ⟨_, ⟨conSE r nm th (by omega) (by omega)⟩, ?_⟩
      rw [hs, bc_qt, bc_n hm, bc_qt]
      trivial
    · have he : rolErr r nm th ms mf mh [] = (schE r nm th).2 := by rw [rolErr, schP_good hc]; exact fst0_n hs _
      have ro := conRob r nm th ms mf mh [] (by omega) (by omega) (by simp) (by rw [he]; exact hs)
      rw [he] at ro
      refine .inl (.inr ⟨_, ⟨ro⟩, _, ⟨conRE r (by omega)⟩, ?_⟩)
      rw [hc, bc_nf]
      refine ⟨_, _, ⟨conRCn r ms mf mh h0 (by omega)⟩, ?_⟩
      rw [matP_good hc, bc_nf, bc_nf]
      refine ⟨_, ⟨conSE r nm th (by omega) (by omega)⟩, ?_⟩
      rw [bc_q hs, bc_n hs, bc_qt]
      trivial
  · have he : rolErr r nm th ms mf mh [] = (chk r).2 := by rw [rolErr, schP_bad hc]; exact fst0_n hc _
    have ro := conRob r nm th ms mf mh [] (by omega) (by omega) (by simp) (by rw [he]; exact hc)
    rw [he] at ro
    refine .inl (.inr ⟨_, ⟨ro⟩, _, ⟨conRE r (by omega)⟩, ?_⟩)
    rw [matP_bad hc, bc_n hc, bc_qt, bc_qt, bc_qt]
    trivial
theorem lawM2 (r : Ru) (nm : List UInt8) (ms mf mh : Int) (ls : List Int) : C5 4 [r.d, scN nm, maD ms mf mh ls] [.val (.bool true)] := by
  refine con_flat hokQ mixed Try.func4 rfl (by show 2 ≤ 400; omega) rfl (by kernel_rfl) (fun caps => ?_)
  show gM2 _ _ r.w r.st r.fi r.hlo r.hhi r.co r.ss.length (caps 500) (vs5 r.ss) r.slo r.shi r.flo r.fhi (bs nm) ms mf mh ls.length (caps 501) (vi ls) _
  rw [gM2_text]
  refine .inl ⟨⟨conA⟩, bc_dec (fun h1 => bc_dec (fun h3 => bc_dec (fun _ => rfl) (fun h4 => ?_)) (fun _ => rfl)) (fun _ => rfl)⟩
  simp only [dL, Dw, Tk, v5_whole, bc_t (v5le r.ss), v1_whole, bc_t (v1le ls), Qv, eq_self, true_and]
  have c1 := concR r (by omega)
  have c2 := concSn nm
  have c3 := concM ms mf mh ls (by omega)
  have k1 := conKM r ms mf mh ls (by omega) (by omega)
  refine ⟨⟨c1⟩, ⟨c3⟩, _, _, ⟨k1⟩, ⟨c1⟩, ⟨c2⟩, ⟨c3⟩, ?_⟩
  by_cases hc : (chk r).2 = 0
  · have h0 := chk_pos hc
    have hs : (schE r nm []).2 ≠ 0 := schE_nil nm h0
    have he : rolErr r nm [] ms mf mh ls = (schE r nm []).2 := by rw [rolErr, schP_good hc]; exact fst0_n hs _
    have ro := conRob r nm [] ms mf mh ls (by omega) (by simp) (by omega) (by rw [he]; exact hs)
    rw [he] at ro
    refine .inl (.inr ⟨_, ⟨ro⟩, _, ⟨conRE r (by omega)⟩, ?_⟩)
    rw [hc, bc_nf]
    refine ⟨_, _, ⟨conRC r ms mf mh ls (by omega) (by omega)⟩, ?_⟩
    rw [matP_good hc, bc_nf, bc_nf]
    refine ⟨_, ⟨conSEn r nm h0 (by omega)⟩, ?_⟩
    rw [bc_q hs, bc_n hs, bc_qt]
    trivial
  · have he : rolErr r nm [] ms mf mh ls = (chk r).2 := by rw [rolErr, schP_bad hc]; exact fst0_n hc _
    have ro := conRob r nm [] ms mf mh ls (by omega) (by simp) (by omega) (by rw [he]; exact hc)
    rw [he] at ro
    refine .inl (.inr ⟨_, ⟨ro⟩, _, ⟨conRE r (by omega)⟩, ?_⟩)
    rw [matP_bad hc, bc_n hc, bc_qt, bc_qt, bc_qt]
    trivial
theorem lawM3 (r : Ru) (nm : List UInt8) (ms mf mh : Int) : C5 4 [r.d, scN nm, maN ms mf mh] [.val (.bool true)] := by
  refine con_flat hokQ mixed Try.func4 rfl (by show 1 ≤ 400; omega) rfl (by kernel_rfl) (fun caps => ?_)
  show gM3 _ _ r.w r.st r.fi r.hlo r.hhi r.co r.ss.length (caps 500) (vs5 r.ss) r.slo r.shi r.flo r.fhi (bs nm) ms mf mh _
  rw [gM3_text]
  refine .inl ⟨⟨conA⟩, bc_dec (fun h1 => bc_dec (fun h3 => ?_) (fun _ => rfl)) (fun _ => rfl)⟩
  simp only [dL, Dw, Tk, v5_whole, bc_t (v5le r.ss), Qv, eq_self, true_and]
  have c1 := concR r (by omega)
  have c2 := concSn nm
  have c3 := concMn ms mf mh
  have k1 := conKM r ms mf mh [] (by omega) (by simp)
  refine ⟨⟨c1⟩, ⟨c3⟩, _, _, ⟨k1⟩, ⟨c1⟩, ⟨c2⟩, ⟨c3⟩, ?_⟩
  by_cases hc : (chk r).2 = 0
  · have h0 := chk_pos hc
    have hs : (schE r nm []).2 ≠ 0 := schE_nil nm h0
    have he : rolErr r nm [] ms mf mh [] = (schE r nm []).2 := by rw [rolErr, schP_good hc]; exact fst0_n hs _
    have ro := conRob r nm [] ms mf mh [] (by omega) (by simp) (by simp) (by rw [he]; exact hs)
    rw [he] at ro
    refine .inl (.inr ⟨_, ⟨ro⟩, _, ⟨conRE r (by omega)⟩, ?_⟩)
    rw [hc, bc_nf]
    refine ⟨_, _, ⟨conRCn r ms mf mh h0 (by omega)⟩, ?_⟩
    rw [matP_good hc, bc_nf, bc_nf]
    refine ⟨_, ⟨conSEn r nm h0 (by omega)⟩, ?_⟩
    rw [bc_q hs, bc_n hs, bc_qt]
    trivial
  · have he : rolErr r nm [] ms mf mh [] = (chk r).2 := by rw [rolErr, schP_bad hc]; exact fst0_n hc _
    have ro := conRob r nm [] ms mf mh [] (by omega) (by simp) (by simp) (by rw [he]; exact hc)
    rw [he] at ro
    refine .inl (.inr ⟨_, ⟨ro⟩, _, ⟨conRE r (by omega)⟩, ?_⟩)
    rw [matP_bad hc, bc_n hc, bc_qt, bc_qt, bc_qt]
    trivial
theorem lawM4 (r : Ru) (hr : r.ss = []) (nm : List UInt8) (th : List Int) (ms mf mh : Int) (ls : List Int) : C5 4 [r.dn, scD nm th, maD ms mf mh ls] [.val (.bool true)] := by
  refine con_flat hokQ mixed Try.func4 rfl (by show 2 ≤ 400; omega) rfl (by kernel_rfl) (fun caps => ?_)
  show gM4 _ _ r.w r.st r.fi r.hlo r.hhi r.co r.slo r.shi r.flo r.fhi (bs nm) th.length (caps 500) (vi th) ms mf mh ls.length (caps 501) (vi ls) _
  rw [gM4_text]
  refine .inl ⟨⟨conA⟩, bc_dec (fun h2 => bc_dec (fun h3 => bc_dec (fun _ => rfl) (fun h4 => ?_)) (fun _ => rfl)) (fun _ => rfl)⟩
  simp only [dL, Dw, Tk, v1_whole, bc_t (v1le th), bc_t (v1le ls), Qv, eq_self, true_and]
  have c1 := concRn r hr
  have c2 := concS nm th (by omega)
  have c3 := concM ms mf mh ls (by omega)
  have hl : r.ss.length = 0 := by rw [hr]; rfl
  have hc : (chk r).2 ≠ 0 := fun h => by have := chk_pos h; omega
  have k1 := conKM r ms mf mh ls (by omega) (by omega)
  have he : rolErr r nm th ms mf mh ls = (chk r).2 := by rw [rolErr, schP_bad hc]; exact fst0_n hc _
  have ro := conRob r nm th ms mf mh ls (by omega) (by omega) (by omega) (by rw [he]; exact hc)
  rw [he] at ro
  simp only [Ru.d, hl, v5_e hl] at c1 k1 ro
  refine ⟨⟨c1⟩, ⟨c3⟩, _, _, ⟨k1⟩, ⟨c1⟩, ⟨c2⟩, ⟨c3⟩, .inl (.inr ⟨_, ⟨ro⟩, _, ⟨conREn r hr⟩, ?_⟩)⟩
  rw [matP_bad hc, bc_n hc, bc_qt, bc_qt, bc_qt]
  trivial
theorem lawM5 (r : Ru) (hr : r.ss = []) (nm : List UInt8) (th : List Int) (ms mf mh : Int) : C5 4 [r.dn, scD nm th, maN ms mf mh] [.val (.bool true)] := by
  refine con_flat hokQ mixed Try.func4 rfl (by show 1 ≤ 400; omega) rfl (by kernel_rfl) (fun caps => ?_)
  show gM5 _ _ r.w r.st r.fi r.hlo r.hhi r.co r.slo r.shi r.flo r.fhi (bs nm) th.length (caps 500) (vi th) ms mf mh _
  rw [gM5_text]
  refine .inl ⟨⟨conA⟩, bc_dec (fun h2 => bc_dec (fun h3 => ?_) (fun _ => rfl)) (fun _ => rfl)⟩
  simp only [dL, Dw, Tk, v1_whole, bc_t (v1le th), Qv, eq_self, true_and]
  have c1 := concRn r hr
  have c2 := concS nm th (by omega)
  have c3 := concMn ms mf mh
  have hl : r.ss.length = 0 := by rw [hr]; rfl
  have hc : (chk r).2 ≠ 0 := fun h => by have := chk_pos h; omega
  have k1 := conKM r ms mf mh [] (by omega) (by simp)
  have he : rolErr r nm th ms mf mh [] = (chk r).2 := by rw [rolErr, schP_bad hc]; exact fst0_n hc _
  have ro := conRob r nm th ms mf mh [] (by omega) (by omega) (by simp) (by rw [he]; exact hc)
  rw [he] at ro
  simp only [Ru.d, hl, v5_e hl] at c1 k1 ro
  refine ⟨⟨c1⟩, ⟨c3⟩, _, _, ⟨k1⟩, ⟨c1⟩, ⟨c2⟩, ⟨c3⟩, .inl (.inr ⟨_, ⟨ro⟩, _, ⟨conREn r hr⟩, ?_⟩)⟩
  rw [matP_bad hc, bc_n hc, bc_qt, bc_qt, bc_qt]
  trivial
theorem lawM6 (r : Ru) (hr : r.ss = []) (nm : List UInt8) (ms mf mh : Int) (ls : List Int) : C5 4 [r.dn, scN nm, maD ms mf mh ls] [.val (.bool true)] := by
  refine con_flat hokQ mixed Try.func4 rfl (by show 1 ≤ 400; omega) rfl (by kernel_rfl) (fun caps => ?_)
  show gM6 _ _ r.w r.st r.fi r.hlo r.hhi r.co r.slo r.shi r.flo r.fhi (bs nm) ms mf mh ls.length (caps 500) (vi ls) _
  rw [gM6_text]
  refine .inl ⟨⟨conA⟩, bc_dec (fun h3 => bc_dec (fun _ => rfl) (fun h4 => ?_)) (fun _ => rfl)⟩
  simp only [dL, Dw, Tk, v1_whole, bc_t (v1le ls), Qv, eq_self, true_and]
  have c1 := concRn r hr
  have c2 := concSn nm
  have c3 := concM ms mf mh ls (by omega)
  have hl : r.ss.length = 0 := by rw [hr]; rfl
  have hc : (chk r).2 ≠ 0 := fun h => by have := chk_pos h; omega
  have k1 := conKM r ms mf mh ls (by omega) (by omega)
  have he : rolErr r nm [] ms mf mh ls = (chk r).2 := by rw [rolErr, schP_bad hc]; exact fst0_n hc _
  have ro := conRob r nm [] ms mf mh ls (by omega) (by simp) (by omega) (by rw [he]; exact hc)
  rw [he] at ro
  simp only [Ru.d, hl, v5_e hl] at c1 k1 ro
  refine ⟨⟨c1⟩, ⟨c3⟩, _, _, ⟨k1⟩, ⟨c1⟩, ⟨c2⟩, ⟨c3⟩, .inl (.inr ⟨_, ⟨ro⟩, _, ⟨conREn r hr⟩, ?_⟩)⟩
  rw [matP_bad hc, bc_n hc, bc_qt, bc_qt, bc_qt]
  trivial
theorem lawM7 (r : Ru) (hr : r.ss = []) (nm : List UInt8) (ms mf mh : Int) : C5 4 [r.dn, scN nm, maN ms mf mh] [.val (.bool true)] := by
  refine con_flat hokQ mixed Try.func4 rfl (by show 0 ≤ 400; omega) rfl (by kernel_rfl) (fun caps => ?_)
  show gM7 _ _ r.w r.st r.fi r.hlo r.hhi r.co r.slo r.shi r.flo r.fhi (bs nm) ms mf mh _
  rw [gM7_text]
  refine .inl ⟨⟨conA⟩, bc_dec (fun h3 => ?_) (fun _ => rfl)⟩
  simp only [dL, Dw, Tk, Qv, eq_self, true_and]
  have c1 := concRn r hr
  have c2 := concSn nm
  have c3 := concMn ms mf mh
  have hl : r.ss.length = 0 := by rw [hr]; rfl
  have hc : (chk r).2 ≠ 0 := fun h => by have := chk_pos h; omega
  have k1 := conKM r ms mf mh [] (by omega) (by simp)
  have he : rolErr r nm [] ms mf mh [] = (chk r).2 := by rw [rolErr, schP_bad hc]; exact fst0_n hc _
  have ro := conRob r nm [] ms mf mh [] (by omega) (by simp) (by simp) (by rw [he]; exact hc)
  rw [he] at ro
  simp only [Ru.d, hl, v5_e hl] at c1 k1 ro
  refine ⟨⟨c1⟩, ⟨c3⟩, _, _, ⟨k1⟩, ⟨c1⟩, ⟨c2⟩, ⟨c3⟩, .inl (.inr ⟨_, ⟨ro⟩, _, ⟨conREn r hr⟩, ?_⟩)⟩
  rw [matP_bad hc, bc_n hc, bc_qt, bc_qt, bc_qt]
  trivial
end Go.Proofs.G5p

/- PassMaterials: whatever the input, it returns true, and the input reads as it did. No condition. -/
namespace Go.Proofs.Yteadiejdhplokaa.K
open Go Go.Abs Go.RowKit Go.ChangeShapes Go.WideShapes Go.ChangeAt Go.Proofs Go.Flat Go.Proofs.G5p
set_option maxRecDepth 100000
namespace PassMaterials
abbrev shs : List Sh := [.agg [3, 3, 3, 3, 3, 3, 24, 3, 3, 3, 3], .agg [9, 27], .agg [3, 3, 3, 27]]
theorem shapes : Try.f4.params.toList.mapM (argSh Try.prog) = some shs := by kernel_rfl
theorem all (ds : List D) (h : ShDs Try.prog shs ds) : Con Try.prog 4 ds [.val (.bool true)] := by
  cases h with | cons h1 t => cases t with | cons h2 t => cases t with | cons h3 t =>
  cases t
  obtain ⟨d1, rfl, h1⟩ := h1
  obtain ⟨d2, rfl, h2⟩ := h2
  obtain ⟨d3, rfl, h3⟩ := h3
  cases h1 with | cons p1 t => cases t with | cons p2 t => cases t with | cons p3 t => cases t with | cons p4 t => cases t with | cons p5 t => cases t with | cons p6 t => cases t with | cons p7 t => cases t with | cons p8 t => cases t with | cons p9 t => cases t with | cons p10 t => cases t with | cons p11 t =>
  cases t
  cases h2 with | cons r1 t => cases t with | cons r2 t =>
  cases t
  cases h3 with | cons q1 t => cases t with | cons q2 t => cases t with | cons q3 t => cases t with | cons q4 t =>
  cases t
  obtain ⟨x1, rfl, _⟩ := leaf_int Try.underlying3 p1
  obtain ⟨x2, rfl, _⟩ := leaf_int Try.underlying3 p2
  obtain ⟨x3, rfl, _⟩ := leaf_int Try.underlying3 p3
  obtain ⟨x4, rfl, _⟩ := leaf_int Try.underlying3 p4
  obtain ⟨x5, rfl, _⟩ := leaf_int Try.underlying3 p5
  obtain ⟨x6, rfl, _⟩ := leaf_int Try.underlying3 p6
  obtain ⟨x8, rfl, _⟩ := leaf_int Try.underlying3 p8
  obtain ⟨x9, rfl, _⟩ := leaf_int Try.underlying3 p9
  obtain ⟨x10, rfl, _⟩ := leaf_int Try.underlying3 p10
  obtain ⟨x11, rfl, _⟩ := leaf_int Try.underlying3 p11
  obtain ⟨m1, rfl, _⟩ := leaf_int Try.underlying3 q1
  obtain ⟨m2, rfl, _⟩ := leaf_int Try.underlying3 q2
  obtain ⟨m3, rfl, _⟩ := leaf_int Try.underlying3 q3
  obtain ⟨nm, rfl⟩ := leaf_str Try.underlying9 r1
  rcases leaf_fvs Try.underlying24 (by kernel_rfl) p7 with rfl | ⟨T, rfl⟩
  · rcases leaf_ints Try.underlying27 (by kernel_rfl) r2 with rfl | ⟨R, rfl⟩
    · rcases leaf_ints Try.underlying27 (by kernel_rfl) q4 with rfl | ⟨S, rfl⟩
      · exact lawM7 ⟨x1, x2, x3, x4, x5, x6, [], x8, x9, x10, x11⟩ rfl nm m1 m2 m3
      · exact lawM6 ⟨x1, x2, x3, x4, x5, x6, [], x8, x9, x10, x11⟩ rfl nm m1 m2 m3 S
    · rcases leaf_ints Try.underlying27 (by kernel_rfl) q4 with rfl | ⟨S, rfl⟩
      · exact lawM5 ⟨x1, x2, x3, x4, x5, x6, [], x8, x9, x10, x11⟩ rfl nm R m1 m2 m3
      · exact lawM4 ⟨x1, x2, x3, x4, x5, x6, [], x8, x9, x10, x11⟩ rfl nm R m1 m2 m3 S
  · rcases leaf_ints Try.underlying27 (by kernel_rfl) r2 with rfl | ⟨R, rfl⟩
    · rcases leaf_ints Try.underlying27 (by kernel_rfl) q4 with rfl | ⟨S, rfl⟩
      · exact lawM3 ⟨x1, x2, x3, x4, x5, x6, T, x8, x9, x10, x11⟩ nm m1 m2 m3
      · exact lawM2 ⟨x1, x2, x3, x4, x5, x6, T, x8, x9, x10, x11⟩ nm m1 m2 m3 S
    · rcases leaf_ints Try.underlying27 (by kernel_rfl) q4 with rfl | ⟨S, rfl⟩
      · exact lawM1 ⟨x1, x2, x3, x4, x5, x6, T, x8, x9, x10, x11⟩ nm R m1 m2 m3
      · exact lawM0 ⟨x1, x2, x3, x4, x5, x6, T, x8, x9, x10, x11⟩ nm R m1 m2 m3 S
theorem lifted (os : Os) (started : os.Started) (H : Type) (enc : TypeId × Value → H) :
    ReturnsInHanded {} Try.checked os 4 .any (Rows.passMaterialsSpec.pre6 enc Try.prog Try.f4 Rows.passMaterialsRow.domain false) (Rows.passMaterialsSpec.post enc Try.prog Try.f4 false true false false) := by
  refine returnsInHanded_of_change (C := Try.checked) own started (by kernel_rfl) Try.func4
    (ChangeSpec.witness6 (enc := enc) (C := Try.checked) false ⟨#[], #[.agg #[.int .i64 0, .int .i64 0, .int .i64 0, .int .i64 0, .int .i64 0, .int .i64 0, .slice none 0 0, .int .i64 0, .int .i64 0, .int .i64 0, .int .i64 0], .agg #[.string ⟨#[]⟩, .slice none 0 0], .agg #[.int .i64 0, .int .i64 0, .int .i64 0, .slice none 0 0]], []⟩ 8 (by kernel_rfl) (by kernel_rfl) (by kernel_rfl) (by kernel_rfl)) ?_
  intro W base args ds gs before hval hW _ _
  exact law_shapes (tb := 4) (s := Rows.passMaterialsSpec) shapes all laidP mapsP slicesP (tsP (by kernel_rfl)) rfl Try.underlying4 rfl (fun ds h => by
    match ds, h with
    | [_, _, _], _ => exact ⟨rfl, rfl, rfl⟩) hval hW (good0 W)
theorem holds : Rows.PassMaterialsSaid :=
  OpenClaim.holds_of_wide 4 Try.f4 rfl rfl rfl rfl rfl rfl rfl ⟨rfl, rfl, rfl, rfl, rfl⟩ rfl rfl rfl rfl rfl (by kernel_rfl) Try.func4 (by kernel_rfl)
    (of_decide_eq_true (by kernel_rfl)) (by unfold Func.isWrapper; first | (rw [if_pos (by decide +kernel)]; kernel_rfl) | (rw [if_neg (by decide +kernel)]; exact ⟨rfl, rfl⟩))
    (fun os started H enc _ => lifted os started H enc)
#print axioms holds
end PassMaterials
end Go.Proofs.Yteadiejdhplokaa.K
