/- Texts of the proof, put together: GxX7, GxXV, GxX8, GxXY, GxX4, GxX5. -/
import Derived.Test.YtnffhlfpfkdpfaaGreatDoorP6
/- Chapter 3, strings: what the program formats, in data. -/
namespace Go.Proofs.G5x
open Go Go.Abs Go.Proofs Go.Str Go.RowKit
set_option maxRecDepth 100000
theorem conJg (xs : List (List UInt8)) (sep : List UInt8) (hN : xs.length ≤ 140737488355328) (hlen : (Lib.join xs sep).length ≤ 140737488355328) : C5 33 [dSs xs, dS sep] [dS (Lib.join xs sep)] := by
  intro w args hg hr
  obtain ⟨l⟩ := args
  replace hr : ReadsL w _ l := hr
  cases hr with | cons h1 t => cases t with | cons h2 t =>
  cases t
  cases h2
  cases h1 with | sl _ _ _ b o cap cc ty fz hb hs hc hn hp hl =>
  have e1 : (xs.map bs).map (·.data.toList) = xs := by rw [List.map_map]; conv => rhs; rw [← List.map_id xs]
                                                       exact List.map_congr_left fun x _ => data_bs x
  have := Tryz.strings_Join b o cap (xs.map bs) (bs sep) w (fun j x hj => ?_) ((Array.getElem?_eq_some_iff.1 hb).1) (by simpa using hN) (by simpa using hl) (by rw [e1, data_bs]; exact hlen)
  · rw [List.length_map] at this
    refine this.mono ?_
    rintro e w' ⟨rfl, hb⟩
    refine ⟨⟨[.string _], [], rfl, .cons ?_ (.nil _)⟩, hb⟩
    rw [e1, data_bs]
    exact .val _ _ rfl
  · rw [List.getElem?_map, Option.map_eq_some_iff] at hj
    obtain ⟨y, hy, rfl⟩ := hj
    have hlen2 : (strs xs).length = xs.length := by simp [strs]
    have h1 : ((cc.toList.drop o).take (strs xs).length)[j]? = some (str y) := by rw [hc]; simp [strs, hy]
    have hj' : j < xs.length := (List.getElem?_eq_some_iff.1 hy).1
    rw [List.getElem?_take, if_pos (by rw [hlen2]; exact hj'), List.getElem?_drop, Array.getElem?_toList] at h1
    simp [World.cell?, hb, h1]

theorem j3_join : ∀ (xs : List (List UInt8)), Lib.join xs [32, 59, 32] = j3 xs
  | [] => rfl
  | [x] => by rw [Lib.join_one]; rfl
  | x :: y :: r => by
    have h := j3_join (y :: r)
    rw [Lib.join_cons] at h ⊢
    rw [j3, ← h]
    simp [Lib.joinTail]
theorem j3_le {k : Nat} : ∀ {xs : List (List UInt8)}, (∀ x ∈ xs, x.length ≤ k) → (j3 xs).length ≤ (k + 3) * xs.length
  | [], _ => by simp [j3]
  | [x], h => by have := h x (by simp); simp [j3]; omega
  | x :: y :: r, h => by
    have h1 := h x (by simp)
    have h2 := j3_le (k := k) (xs := y :: r) (fun z hz => h z (List.mem_cons_of_mem _ hz))
    have e : (k + 3) * (x :: y :: r).length = (k + 3) * (y :: r).length + (k + 3) := by rw [List.length_cons, Nat.mul_add, Nat.mul_one]
    rw [j3, e]
    simp only [List.length_append, List.length_cons] at h2 ⊢
    omega
abbrev R64 (n : Int) : Prop := -9223372036854775808 ≤ n ∧ n ≤ 9223372036854775807
theorem itoa_le {n : Int} (h : R64 n) : (Lib.itoa n).length ≤ 21 := Lib.itoa_length_le n h.1 h.2
theorem jn_itoa {l : List Int} (h : ∀ n ∈ l, R64 n) : (jn (l.map Lib.itoa)).length ≤ 22 * l.length := by
  have := join_le (c := 32) (k := 21) (xs := l.map Lib.itoa) (fun x hx => by obtain ⟨n, hn, rfl⟩ := List.mem_map.1 hx; exact itoa_le (h n hn))
  rw [List.length_map] at this; exact this
theorem strs_snoc (xs : W) (x : List UInt8) : strs xs ++ [str x] = strs (xs ++ [x]) := by simp [strs]
theorem cel_one (x : List UInt8) : (List.take (1 * 1) (List.drop 0 [str x])).all cellP = true := rfl
theorem conFS (nm : List UInt8) (th : List Int) (h8 : th.length ≤ 8) (hn : nm.length ≤ 30) (hr : ∀ n ∈ th, R64 n) : C5 7 [scD nm th] [dS (fS nm th)] := by
  let X : Nat → W := fun i => nm :: (th.take i).map Lib.itoa
  have nX : ∀ i, i ≤ th.length → (X i).length = i + 1 := fun i h => by show (nm :: _).length = _; rw [List.length_cons, List.length_map, List.length_take]; omega
  have sX : ∀ i (h : i < th.length), strs (X i) ++ [str (Lib.itoa th[i])] = strs (X (i + 1)) := fun i h => by
    rw [strs_snoc]; show strs (nm :: (_ ++ [_])) = strs (nm :: _)
    rw [List.take_succ_eq_append_getElem h, List.map_append]; rfl
  let inv : Nat × Nat → Prop := fun x => x.1 ≤ th.length
  let st : Nat × Nat → Slots × Blocks := fun x => match x.1 with
    | 0 => zFS1 1 th.length x.2 th.length ((0 : Nat) : Int) (bs nm) (vi th)
    | i + 1 => zFS2 (i + 2) th.length x.2 th.length ((i + 1 : Nat) : Int) (strs (X (i + 1))) (vi th)
  have cJ : C5 33 [dSs (X th.length), dS [32]] [dS (fS nm th)] := by
    have hx : X th.length = nm :: th.map Lib.itoa := by show nm :: (th.take th.length).map _ = _; rw [List.take_length]
    rw [hx]
    refine conJn _ 32 (by simp; omega) ?_
    have := join_le (c := 32) (k := 30) (xs := nm :: th.map Lib.itoa) (fun x hx => by
      rcases List.mem_cons.1 hx with rfl | hx
      · exact hn
      · obtain ⟨n, hn', rfl⟩ := List.mem_map.1 hx; have := itoa_le (hr n hn'); omega)
    simp only [List.length_cons, List.length_map] at this
    omega
  refine con_of (L := fun _ s b => ∃ x, inv x ∧ st x = (s, b)) hokX mixed Tryz.func7 rfl (by show 1 ≤ 400; omega) rfl (ids := [0]) (by kernel_rfl) rfl (fun caps => ?_) (fun id hid => ?_)
  · show gFS _ _ (bs nm) th.length (caps 500) (vi th) _
    rw [gFS_text]
    exact ⟨(0, caps 500), Nat.zero_le _, rfl⟩
  · obtain rfl := List.mem_singleton.1 hid
    refine ⟨_, st, inv, fun x => th.length - x.1, ⟨fun s b h => h, by kernel_rfl, ?_⟩⟩
    rintro ⟨i, c⟩ hi
    have hi : i ≤ th.length := hi
    cases i with
    | zero =>
      show rFS1 _ _ 1 th.length c th.length ((0 : Nat) : Int) (bs nm) (vi th) _ _ _
      rw [rFS1_text]
      refine bc_dec (fun h => ?_) (fun h => ?_)
      · have h1 : 0 < th.length := by omega
        have hrr := hr _ (List.getElem_mem h1)
        simp only [bc_t (show (0 : Int) ≤ ((0 : Nat) : Int) by omega), bc_t h, Int.toNat_natCast, at1 (vi_at th 0 h1)]
        refine ⟨_, ⟨conIt th[0] hrr.1 hrr.2⟩, bc_yes (by omega) (bc_yes (by omega) (bc_yes (by omega) (bc_yes (by simp) ?_)))⟩
        show bcase (false || (List.take (1 * 1) (List.drop 0 [str nm])).all cellP) _ _
        rw [cel_one]
        show _
        refine ⟨(1, c), by show 1 ≤ th.length; omega, by show th.length - 1 < th.length - 0; omega, ?_⟩
        show zFS2 2 _ _ _ _ (strs (X (0 + 1))) _ = _
        rw [← sX 0 h1, w64 (by omega) (by omega)]; rfl
      · show (if 0 = 0 then _ else _)
        rw [if_pos rfl]
        show nFS3 _ _ 1 (bs nm) _
        rw [nFS3_text]
        refine bc_yes (by simp) ?_
        rw [cel_one]
        have h0 : th.length = 0 := by omega
        rw [h0] at cJ
        exact ⟨_, ⟨cJ⟩, rfl⟩
    | succ i =>
      show rFS2 _ _ (i + 2) th.length c th.length ((i + 1 : Nat) : Int) (strs (X (i + 1))) (vi th) _ _ _
      rw [rFS2_text]
      have nX' : (strs (X (i + 1))).length = i + 2 := by rw [strs_length, nX _ hi]
      have hT : List.take ((i + 2) * 1) (List.drop 0 (strs (X (i + 1)))) = strs (X (i + 1)) := by rw [List.drop_zero, List.take_of_length_le (by omega)]
      refine bc_dec (fun h => ?_) (fun h => ?_)
      · have h1 : i + 1 < th.length := by omega
        have hrr := hr _ (List.getElem_mem h1)
        simp only [bc_t (show (0 : Int) ≤ ((i + 1 : Nat) : Int) by omega), bc_t h, Int.toNat_natCast, at1 (vi_at th (i + 1) h1)]
        refine ⟨_, ⟨conIt th[i + 1] hrr.1 hrr.2⟩, bc_yes (by omega) (bc_yes (by omega) (bc_yes (by omega) (bc_yes (by omega) (bc_yes (by omega) ?_))))⟩
        refine ⟨(i + 2, c), by show i + 2 ≤ th.length; omega, by show th.length - (i + 2) < th.length - (i + 1); omega, ?_⟩
        show zFS2 _ _ _ _ _ (strs (X (i + 1 + 1))) _ = _
        rw [hT, ← sX (i + 1) h1, w64 (by omega) (by omega)]; rfl
      · show (if 0 = 0 then _ else _)
        rw [if_pos rfl]
        show nFS4 _ _ (i + 2) (strs (X (i + 1))) _
        rw [nFS4_text]
        have e : i + 1 = th.length := by omega
        have cJ' := cJ
        rw [← e, show dSs (X (i + 1)) = .sl (i + 2) 1 (strs (X (i + 1))) by rw [← nX _ hi]] at cJ'
        rw [hT]
        exact bc_yes (by omega) ⟨_, ⟨cJ'⟩, rfl⟩
def pSt (s : Fv) : List UInt8 := jn ((sNs s).map Lib.itoa)
structure R64R (r : Ru) : Prop where
  head : ∀ n ∈ rNs r, R64 n
  all : ∀ s ∈ r.ss, ∀ n ∈ sNs s, R64 n
theorem conFR (r : Ru) (h8 : r.ss.length ≤ 8) (hr : R64R r) : C5 9 [r.d] [dS (fR r)] := by
  let p0 : List UInt8 := jn ((rNs r).map Lib.itoa)
  let X : Nat → W := fun i => p0 :: (r.ss.take i).map pSt
  have nX : ∀ i, i ≤ r.ss.length → (X i).length = i + 1 := fun i h => by show (p0 :: _).length = _; rw [List.length_cons, List.length_map, List.length_take]; omega
  have sX : ∀ i (h : i < r.ss.length), strs (X i) ++ [str (pSt r.ss[i])] = strs (X (i + 1)) := fun i h => by
    rw [strs_snoc]; show strs (p0 :: (_ ++ [_])) = strs (p0 :: _)
    rw [List.take_succ_eq_append_getElem h, List.map_append]; rfl
  have hp0 : p0.length ≤ 220 := by have := jn_itoa hr.head; show (jn _).length ≤ _; simp only [rNs, List.length_cons, List.length_nil] at this ⊢; omega
  have hps : ∀ s ∈ r.ss, (pSt s).length ≤ 110 := fun s hs => by have := jn_itoa (hr.all s hs); show (jn _).length ≤ _; simp only [sNs, List.length_cons, List.length_nil] at this ⊢; omega
  have cI : ∀ {n : Int}, R64 n → C5 32 [dI n] [dS (Lib.itoa n)] := fun h => conIt _ h.1 h.2
  have cJ0 : C5 33 [dSs ((rNs r).map Lib.itoa), dS [32]] [dS p0] := conJn _ 32 (by simp [rNs]) (by show p0.length ≤ _; omega)
  have cJs : ∀ s ∈ r.ss, C5 33 [dSs ((sNs s).map Lib.itoa), dS [32]] [dS (pSt s)] := fun s hs => conJn _ 32 (by simp [sNs]) (by have := hps s hs; show (pSt s).length ≤ _; omega)
  have cJ : C5 33 [dSs (X r.ss.length), dS [32, 59, 32]] [dS (fR r)] := by
    have hx : X r.ss.length = p0 :: r.ss.map pSt := by show p0 :: (r.ss.take r.ss.length).map _ = _; rw [List.take_length]
    rw [hx]
    have c := conJg (p0 :: r.ss.map pSt) [32, 59, 32] (by simp; omega) (by
      rw [j3_join]
      have := j3_le (k := 220) (xs := p0 :: r.ss.map pSt) (fun x hx => by
        rcases List.mem_cons.1 hx with rfl | hx
        · exact hp0
        · obtain ⟨s, hs, rfl⟩ := List.mem_map.1 hx; have := hps s hs; omega)
      simp only [List.length_cons, List.length_map] at this
      omega)
    rw [j3_join] at c
    exact c
  let inv : Nat × Nat → Prop := fun x => x.1 ≤ r.ss.length
  let st : Nat × Nat → Slots × Blocks := fun x => match x.1 with
    | 0 => zFR1 1 r.ss.length x.2 r.ss.length ((0 : Nat) : Int) (bs p0) (vs5 r.ss)
    | i + 1 => zFR2 (i + 2) r.ss.length x.2 r.ss.length ((i + 1 : Nat) : Int) (strs (X (i + 1))) (vs5 r.ss)
  refine con_of (L := fun _ s b => ∃ x, inv x ∧ st x = (s, b)) hokX mixed Tryz.func9 rfl (by show 1 ≤ 400; omega) rfl (ids := [0]) (by kernel_rfl) rfl (fun caps => ?_) (fun id hid => ?_)
  · show gFR _ _ r.w r.st r.fi r.hlo r.hhi r.co r.ss.length (caps 500) (vs5 r.ss) r.slo r.shi r.flo r.fhi _
    rw [gFR_text]
    simp only [Qv, eq_self, true_and, and_true]
    have hh := hr.head
    simp only [rNs, List.forall_mem_cons] at hh
    obtain ⟨g0, g1, g2, g3, g4, g5, g6, g7, g8, g9, -⟩ := hh
    refine ⟨_, ⟨cI g0⟩, _, ⟨cI g1⟩, _, ⟨cI g2⟩, _, ⟨cI g3⟩, _, ⟨cI g4⟩, _, ⟨cI g5⟩, _, ⟨cI g6⟩, _, ⟨cI g7⟩, _, ⟨cI g8⟩, _, ⟨cI g9⟩, _, ⟨cJ0⟩, (0, caps 500), Nat.zero_le _, rfl⟩
  · obtain rfl := List.mem_singleton.1 hid
    refine ⟨_, st, inv, fun x => r.ss.length - x.1, ⟨fun s b h => h, by kernel_rfl, ?_⟩⟩
    rintro ⟨i, c⟩ hi
    have hi : i ≤ r.ss.length := hi
    cases i with
    | zero =>
      show rFR1 _ _ 1 r.ss.length c r.ss.length ((0 : Nat) : Int) (bs p0) (vs5 r.ss) _ _ _
      rw [rFR1_text]
      refine bc_dec (fun h => ?_) (fun h => ?_)
      · have h1 : 0 < r.ss.length := by omega
        have hm := List.getElem_mem h1
        have hh := hr.all _ hm
        simp only [sNs, List.forall_mem_cons] at hh
        obtain ⟨g0, g1, g2, g3, g4, -⟩ := hh
        simp only [bc_t (show (0 : Int) ≤ ((0 : Nat) : Int) by omega), bc_t h, Int.toNat_natCast, at5 (vs5_all r.ss 0 h1), Qv, eq_self, true_and, and_true]
        refine ⟨_, ⟨cI g0⟩, _, ⟨cI g1⟩, _, ⟨cI g2⟩, _, ⟨cI g3⟩, _, ⟨cI g4⟩, _, ⟨cJs _ hm⟩, bc_yes (by omega) (bc_yes (by omega) (bc_yes (by omega) (bc_yes (by simp) ?_)))⟩
        show bcase (false || (List.take (1 * 1) (List.drop 0 [str p0])).all cellP) _ _
        rw [cel_one]
        show _
        refine ⟨(1, c), by show 1 ≤ r.ss.length; omega, by show r.ss.length - 1 < r.ss.length - 0; omega, ?_⟩
        show zFR2 2 _ _ _ _ (strs (X (0 + 1))) _ = _
        rw [← sX 0 h1, w64 (by omega) (by omega)]; rfl
      · show (if 0 = 0 then _ else _)
        rw [if_pos rfl]
        show nFR3 _ _ 1 (bs p0) _
        rw [nFR3_text]
        refine bc_yes (by simp) ?_
        rw [cel_one]
        have h0 : r.ss.length = 0 := by omega
        rw [h0] at cJ
        exact ⟨_, ⟨cJ⟩, rfl⟩
    | succ i =>
      show rFR2 _ _ (i + 2) r.ss.length c r.ss.length ((i + 1 : Nat) : Int) (strs (X (i + 1))) (vs5 r.ss) _ _ _
      rw [rFR2_text]
      have nX' : (strs (X (i + 1))).length = i + 2 := by rw [strs_length, nX _ hi]
      have hT : List.take ((i + 2) * 1) (List.drop 0 (strs (X (i + 1)))) = strs (X (i + 1)) := by rw [List.drop_zero, List.take_of_length_le (by omega)]
      refine bc_dec (fun h => ?_) (fun h => ?_)
      · have h1 : i + 1 < r.ss.length := by omega
        have hm := List.getElem_mem h1
        have hh := hr.all _ hm
        simp only [sNs, List.forall_mem_cons] at hh
        obtain ⟨g0, g1, g2, g3, g4, -⟩ := hh
        simp only [bc_t (show (0 : Int) ≤ ((i + 1 : Nat) : Int) by omega), bc_t h, Int.toNat_natCast, at5 (vs5_all r.ss (i + 1) h1), Qv, eq_self, true_and, and_true]
        refine ⟨_, ⟨cI g0⟩, _, ⟨cI g1⟩, _, ⟨cI g2⟩, _, ⟨cI g3⟩, _, ⟨cI g4⟩, _, ⟨cJs _ hm⟩, bc_yes (by omega) (bc_yes (by omega) (bc_yes (by omega) (bc_yes (by omega) (bc_yes (by omega) ?_))))⟩
        refine ⟨(i + 2, c), by show i + 2 ≤ r.ss.length; omega, by show r.ss.length - (i + 2) < r.ss.length - (i + 1); omega, ?_⟩
        show zFR2 _ _ _ _ _ (strs (X (i + 1 + 1))) _ = _
        rw [hT, ← sX (i + 1) h1, w64 (by omega) (by omega)]; rfl
      · show (if 0 = 0 then _ else _)
        rw [if_pos rfl]
        show nFR4 _ _ (i + 2) (strs (X (i + 1))) _
        rw [nFR4_text]
        have e : i + 1 = r.ss.length := by omega
        have cJ' := cJ
        rw [← e, show dSs (X (i + 1)) = .sl (i + 2) 1 (strs (X (i + 1))) by rw [← nX _ hi]] at cJ'
        rw [hT]
        exact bc_yes (by omega) ⟨_, ⟨cJ'⟩, rfl⟩
end Go.Proofs.G5x

/- What is left to show of each function, written out; the kernel reckons it. -/
namespace Go.Proofs.G5x
open Go Go.Abs Go.Proofs
set_option maxRecDepth 100000
set_option linter.unusedVariables false
def grFS (C : Ct) (L : AtLoop) (s0 : ByteArray) (n1 : Nat) (c1 : Nat) (l1 : List Value) (k : List D → Prop) : Prop := wpFn Tryz.prog (hX C) L 0 11 #[.agg #[.string s0, .slice (some ⟨500, 0, none⟩) n1 c1]] (heapOf [(500, .sym l1 false 1)]) (dataK k)
theorem grFS_text (C : Ct) (L : AtLoop) (s0 : ByteArray) (n1 : Nat) (c1 : Nat) (l1 : List Go.Value) (k : List D → Prop) : grFS C L s0 n1 c1 l1 k =
 (L 0 [(Prod.mk 1 (Pt 1000 0)), (Prod.mk 3 (Value.string (s0))), (Prod.mk 4 (vI 0))] [(Prod.mk 1000 (AObj.cells [(Value.string (s0)), (Sl 500 (n1) (c1))] 29 false 1)), (Prod.mk 500 (AObj.sym (l1) false 1))]) := by kernel_rfl
abbrev zrFS1 (s0 : ByteArray) (x1 : Int) (s2 : ByteArray) (n3 : Nat) (c4 : Nat) (l5 : List Value) : Slots × Blocks := ([(1, (Value.pointer (some ⟨1000, 0, none⟩))), (3, (Value.string s0)), (4, (Value.int .i64 x1))], [(1000, (AObj.cells [(Value.string s2), (Value.slice (some ⟨500, 0, none⟩) n3 c4)] 29 false 1)), (500, (AObj.sym l5 false 1))])
def rrFS1 (C : Ct) (L : AtLoop) (s0 : ByteArray) (x1 : Int) (s2 : ByteArray) (n3 : Nat) (c4 : Nat) (l5 : List Value) (B : Bx) (X : Xx) (k : List D → Prop) : Prop := wpRound Tryz.prog (hX C) L 11 0 [(1, (Value.pointer (some ⟨1000, 0, none⟩))), (3, (Value.string s0)), (4, (Value.int .i64 x1))] [(1000, (AObj.cells [(Value.string s2), (Value.slice (some ⟨500, 0, none⟩) n3 c4)] 29 false 1)), (500, (AObj.sym l5 false 1))] B X (dataK k)
theorem rrFS1_text (C : Ct) (L : AtLoop) (s0 : ByteArray) (x1 : Int) (s2 : ByteArray) (n3 : Nat) (c4 : Nat) (l5 : List Go.Value) (B : Bx) (X : Xx) (k : List D → Prop) : rrFS1 C L s0 x1 s2 n3 c4 l5 B X k =
 (bcase (decide (x1 < (↑n3 : Int)))
 (bcase (decide (ByteArray.size s0 + 1 ≤ 9223372036854775807))
 (bcase (decide (0 ≤ x1))
 (bcase (decide (x1 < (↑n3 : Int)))
 (∃ n1 : Int,
 ((At (l5) (0 + Int.toNat x1 * 1) 1 [(vI n1)]) ∧
 (∃ s1 : ByteArray,
 ((Says C 38 [(D.val (vI n1))] [(D.val (Value.string (s1)))]) ∧
 (bcase (decide (ByteArray.size (s0 ++ { data := #[32] }) + ByteArray.size s1 ≤ 9223372036854775807))
 (B [(Prod.mk 1 (Pt 1000 0)), (Prod.mk 3 (Value.string (s0 ++ { data := #[32] } ++ s1))), (Prod.mk 4 (vI (IntKind.wrap .i64 (x1 + 1))))] [(Prod.mk 1000 (AObj.cells [(Value.string (s2)), (Sl 500 (n3) (c4))] 29 false 1)), (Prod.mk 500 (AObj.sym (l5) false 1))])
 False)))))
 False)
 False)
 False)
 (X 0 [(Prod.mk 3 (Value.string (s0)))] [])) := by kernel_rfl
def nrFS2 (C : Ct) (L : AtLoop) (s0 : ByteArray) (k : List D → Prop) : Prop := wpNext Tryz.prog (hX C) L 11 0 .normal [(3, (Value.string s0))] [] (dataK k)
theorem nrFS2_text (C : Ct) (L : AtLoop) (s0 : ByteArray) (k : List D → Prop) : nrFS2 C L s0 k =
 (k [(D.val (Value.string (s0)))]) := by kernel_rfl
def grFSn (C : Ct) (L : AtLoop) (s0 : ByteArray) (k : List D → Prop) : Prop := wpFn Tryz.prog (hX C) L 0 11 #[.agg #[.string s0, .slice none 0 0]] (heapOf []) (dataK k)
theorem grFSn_text (C : Ct) (L : AtLoop) (s0 : ByteArray) (k : List D → Prop) : grFSn C L s0 k =
 (L 0 [(Prod.mk 1 (Pt 1000 0)), (Prod.mk 3 (Value.string (s0))), (Prod.mk 4 (vI 0))] [(Prod.mk 1000 (AObj.cells [(Value.string (s0)), (Value.slice none 0 0)] 29 false 1))]) := by kernel_rfl
abbrev zrFSn1 (s0 : ByteArray) (x1 : Int) (s2 : ByteArray) : Slots × Blocks := ([(1, (Value.pointer (some ⟨1000, 0, none⟩))), (3, (Value.string s0)), (4, (Value.int .i64 x1))], [(1000, (AObj.cells [(Value.string s2), (Value.slice none 0 0)] 29 false 1))])
def rrFSn1 (C : Ct) (L : AtLoop) (s0 : ByteArray) (x1 : Int) (s2 : ByteArray) (B : Bx) (X : Xx) (k : List D → Prop) : Prop := wpRound Tryz.prog (hX C) L 11 0 [(1, (Value.pointer (some ⟨1000, 0, none⟩))), (3, (Value.string s0)), (4, (Value.int .i64 x1))] [(1000, (AObj.cells [(Value.string s2), (Value.slice none 0 0)] 29 false 1))] B X (dataK k)
theorem rrFSn1_text (C : Ct) (L : AtLoop) (s0 : ByteArray) (x1 : Int) (s2 : ByteArray) (B : Bx) (X : Xx) (k : List D → Prop) : rrFSn1 C L s0 x1 s2 B X k =
 (bcase (decide (x1 < (↑0 : Int)))
 (bcase (decide (ByteArray.size s0 + 1 ≤ 9223372036854775807))
 False
 False)
 (X 0 [(Prod.mk 3 (Value.string (s0)))] [])) := by kernel_rfl
def nrFSn2 (C : Ct) (L : AtLoop) (s0 : ByteArray) (k : List D → Prop) : Prop := wpNext Tryz.prog (hX C) L 11 0 .normal [(3, (Value.string s0))] [] (dataK k)
theorem nrFSn2_text (C : Ct) (L : AtLoop) (s0 : ByteArray) (k : List D → Prop) : nrFSn2 C L s0 k =
 (k [(D.val (Value.string (s0)))]) := by kernel_rfl
abbrev zrFR1 (n0 : Nat) (s1 : ByteArray) (x2 : Int) (x3 : Int) (x4 : Int) (x5 : Int) (x6 : Int) (x7 : Int) (x8 : Int) (n9 : Nat) (c10 : Nat) (x11 : Int) (x12 : Int) (x13 : Int) (x14 : Int) (x15 : Int) (x16 : Int) (x17 : Int) (x18 : Int) (x19 : Int) (x20 : Int) (x21 : Int) (x22 : Int) (x23 : Int) (x24 : Int) (l25 : List Value) : Slots × Blocks := ([(1, (Value.pointer (some ⟨1000, 0, none⟩))), (3, (Value.slice (some ⟨1001, 0, none⟩) n0 n0)), (4, (Value.string s1)), (5, (Value.int .i64 x2))], [(1000, (AObj.cells [(Value.int .i64 x3), (Value.int .i64 x4), (Value.int .i64 x5), (Value.int .i64 x6), (Value.int .i64 x7), (Value.int .i64 x8), (Value.slice (some ⟨500, 0, none⟩) n9 c10), (Value.int .i64 x11), (Value.int .i64 x12), (Value.int .i64 x13), (Value.int .i64 x14)] 26 false 1)), (1001, (AObj.cells [(Value.int .i64 x15), (Value.int .i64 x16), (Value.int .i64 x17), (Value.int .i64 x18), (Value.int .i64 x19), (Value.int .i64 x20), (Value.int .i64 x21), (Value.int .i64 x22), (Value.int .i64 x23), (Value.int .i64 x24)] 3 false 1)), (500, (AObj.sym l25 false 5))])
abbrev zrFRn1 (n0 : Nat) (s1 : ByteArray) (x2 : Int) (x3 : Int) (x4 : Int) (x5 : Int) (x6 : Int) (x7 : Int) (x8 : Int) (x9 : Int) (x10 : Int) (x11 : Int) (x12 : Int) (x13 : Int) (x14 : Int) (x15 : Int) (x16 : Int) (x17 : Int) (x18 : Int) (x19 : Int) (x20 : Int) (x21 : Int) (x22 : Int) : Slots × Blocks := ([(1, (Value.pointer (some ⟨1000, 0, none⟩))), (3, (Value.slice (some ⟨1001, 0, none⟩) n0 n0)), (4, (Value.string s1)), (5, (Value.int .i64 x2))], [(1000, (AObj.cells [(Value.int .i64 x3), (Value.int .i64 x4), (Value.int .i64 x5), (Value.int .i64 x6), (Value.int .i64 x7), (Value.int .i64 x8), (Value.slice none 0 0), (Value.int .i64 x9), (Value.int .i64 x10), (Value.int .i64 x11), (Value.int .i64 x12)] 26 false 1)), (1001, (AObj.cells [(Value.int .i64 x13), (Value.int .i64 x14), (Value.int .i64 x15), (Value.int .i64 x16), (Value.int .i64 x17), (Value.int .i64 x18), (Value.int .i64 x19), (Value.int .i64 x20), (Value.int .i64 x21), (Value.int .i64 x22)] 3 false 1))])
def gSR (C : Ct) (L : AtLoop) (x0 : Int) (x1 : Int) (x2 : Int) (x3 : Int) (x4 : Int) (x5 : Int) (n6 : Nat) (c6 : Nat) (l6 : List Value) (x7 : Int) (x8 : Int) (x9 : Int) (x10 : Int) (x11 : Int) (x12 : Int) (x13 : Int) (x14 : Int) (x15 : Int) (x16 : Int) (n17 : Nat) (c17 : Nat) (l17 : List Value) (x18 : Int) (x19 : Int) (x20 : Int) (x21 : Int) (k : List D → Prop) : Prop := wpFn Tryz.prog (hX C) L 0 15 #[.agg #[.int .i64 x0, .int .i64 x1, .int .i64 x2, .int .i64 x3, .int .i64 x4, .int .i64 x5, .slice (some ⟨500, 0, none⟩) n6 c6, .int .i64 x7, .int .i64 x8, .int .i64 x9, .int .i64 x10], .agg #[.int .i64 x11, .int .i64 x12, .int .i64 x13, .int .i64 x14, .int .i64 x15, .int .i64 x16, .slice (some ⟨501, 0, none⟩) n17 c17, .int .i64 x18, .int .i64 x19, .int .i64 x20, .int .i64 x21]] (heapOf [(500, .sym l6 false 5), (501, .sym l17 false 5)]) (dataK k)
theorem gSR_text (C : Ct) (L : AtLoop) (x0 : Int) (x1 : Int) (x2 : Int) (x3 : Int) (x4 : Int) (x5 : Int) (n6 : Nat) (c6 : Nat) (l6 : List Go.Value) (x7 : Int) (x8 : Int) (x9 : Int) (x10 : Int) (x11 : Int) (x12 : Int) (x13 : Int) (x14 : Int) (x15 : Int) (x16 : Int) (n17 : Nat) (c17 : Nat) (l17 : List Go.Value) (x18 : Int) (x19 : Int) (x20 : Int) (x21 : Int) (k : List D → Prop) : gSR C L x0 x1 x2 x3 x4 x5 n6 c6 l6 x7 x8 x9 x10 x11 x12 x13 x14 x15 x16 n17 c17 l17 x18 x19 x20 x21 k =
 (bcase (x0 != x11)
 (k [(D.val (Value.bool false))])
 (bcase (x1 != x12)
 (k [(D.val (Value.bool false))])
 (bcase (x2 != x13)
 (k [(D.val (Value.bool false))])
 (bcase (if Bool.true = Bool.true then !(x3 == x14 && (x4 == x15 && Bool.true)) else x3 == x14 && (x4 == x15 && Bool.true))
 (k [(D.val (Value.bool false))])
 (bcase (x5 != x16)
 (k [(D.val (Value.bool false))])
 (bcase (if Bool.true = Bool.true then !(x7 == x18 && (x8 == x19 && Bool.true)) else x7 == x18 && (x8 == x19 && Bool.true))
 (k [(D.val (Value.bool false))])
 (bcase (if Bool.true = Bool.true then !(x9 == x20 && (x10 == x21 && Bool.true)) else x9 == x20 && (x10 == x21 && Bool.true))
 (k [(D.val (Value.bool false))])
 (bcase ((↑n6 : Int) != (↑n17 : Int))
 (k [(D.val (Value.bool false))])
 (L 0 [(Prod.mk 2 (Pt 1000 0)), (Prod.mk 3 (Pt 1001 0)), (Prod.mk 5 (vI 0))] [(Prod.mk 1000 (AObj.cells [(vI x0), (vI x1), (vI x2), (vI x3), (vI x4), (vI x5), (Sl 500 (n6) (c6)), (vI x7), (vI x8), (vI x9), (vI x10)] 26 false 1)), (Prod.mk 1001 (AObj.cells [(vI x11), (vI x12), (vI x13), (vI x14), (vI x15), (vI x16), (Sl 501 (n17) (c17)), (vI x18), (vI x19), (vI x20), (vI x21)] 26 false 1)), (Prod.mk 500 (AObj.sym (l6) false 5)), (Prod.mk 501 (AObj.sym (l17) false 5))]))))))))) := by kernel_rfl
abbrev zSR1 (x0 : Int) (x1 : Int) (x2 : Int) (x3 : Int) (x4 : Int) (x5 : Int) (x6 : Int) (n7 : Nat) (c8 : Nat) (x9 : Int) (x10 : Int) (x11 : Int) (x12 : Int) (x13 : Int) (x14 : Int) (x15 : Int) (x16 : Int) (x17 : Int) (x18 : Int) (n19 : Nat) (c20 : Nat) (x21 : Int) (x22 : Int) (x23 : Int) (x24 : Int) (l25 : List Value) (l26 : List Value) : Slots × Blocks := ([(2, (Value.pointer (some ⟨1000, 0, none⟩))), (3, (Value.pointer (some ⟨1001, 0, none⟩))), (5, (Value.int .i64 x0))], [(1000, (AObj.cells [(Value.int .i64 x1), (Value.int .i64 x2), (Value.int .i64 x3), (Value.int .i64 x4), (Value.int .i64 x5), (Value.int .i64 x6), (Value.slice (some ⟨500, 0, none⟩) n7 c8), (Value.int .i64 x9), (Value.int .i64 x10), (Value.int .i64 x11), (Value.int .i64 x12)] 26 false 1)), (1001, (AObj.cells [(Value.int .i64 x13), (Value.int .i64 x14), (Value.int .i64 x15), (Value.int .i64 x16), (Value.int .i64 x17), (Value.int .i64 x18), (Value.slice (some ⟨501, 0, none⟩) n19 c20), (Value.int .i64 x21), (Value.int .i64 x22), (Value.int .i64 x23), (Value.int .i64 x24)] 26 false 1)), (500, (AObj.sym l25 false 5)), (501, (AObj.sym l26 false 5))])
def rSR1 (C : Ct) (L : AtLoop) (x0 : Int) (x1 : Int) (x2 : Int) (x3 : Int) (x4 : Int) (x5 : Int) (x6 : Int) (n7 : Nat) (c8 : Nat) (x9 : Int) (x10 : Int) (x11 : Int) (x12 : Int) (x13 : Int) (x14 : Int) (x15 : Int) (x16 : Int) (x17 : Int) (x18 : Int) (n19 : Nat) (c20 : Nat) (x21 : Int) (x22 : Int) (x23 : Int) (x24 : Int) (l25 : List Value) (l26 : List Value) (B : Bx) (X : Xx) (k : List D → Prop) : Prop := wpRound Tryz.prog (hX C) L 15 0 [(2, (Value.pointer (some ⟨1000, 0, none⟩))), (3, (Value.pointer (some ⟨1001, 0, none⟩))), (5, (Value.int .i64 x0))] [(1000, (AObj.cells [(Value.int .i64 x1), (Value.int .i64 x2), (Value.int .i64 x3), (Value.int .i64 x4), (Value.int .i64 x5), (Value.int .i64 x6), (Value.slice (some ⟨500, 0, none⟩) n7 c8), (Value.int .i64 x9), (Value.int .i64 x10), (Value.int .i64 x11), (Value.int .i64 x12)] 26 false 1)), (1001, (AObj.cells [(Value.int .i64 x13), (Value.int .i64 x14), (Value.int .i64 x15), (Value.int .i64 x16), (Value.int .i64 x17), (Value.int .i64 x18), (Value.slice (some ⟨501, 0, none⟩) n19 c20), (Value.int .i64 x21), (Value.int .i64 x22), (Value.int .i64 x23), (Value.int .i64 x24)] 26 false 1)), (500, (AObj.sym l25 false 5)), (501, (AObj.sym l26 false 5))] B X (dataK k)
theorem rSR1_text (C : Ct) (L : AtLoop) (x0 : Int) (x1 : Int) (x2 : Int) (x3 : Int) (x4 : Int) (x5 : Int) (x6 : Int) (n7 : Nat) (c8 : Nat) (x9 : Int) (x10 : Int) (x11 : Int) (x12 : Int) (x13 : Int) (x14 : Int) (x15 : Int) (x16 : Int) (x17 : Int) (x18 : Int) (n19 : Nat) (c20 : Nat) (x21 : Int) (x22 : Int) (x23 : Int) (x24 : Int) (l25 : List Go.Value) (l26 : List Go.Value) (B : Bx) (X : Xx) (k : List D → Prop) : rSR1 C L x0 x1 x2 x3 x4 x5 x6 n7 c8 x9 x10 x11 x12 x13 x14 x15 x16 x17 x18 n19 c20 x21 x22 x23 x24 l25 l26 B X k =
 (bcase (decide (x0 < (↑n7 : Int)))
 (bcase (decide (0 ≤ x0))
 (bcase (decide (x0 < (↑n7 : Int)))
 (∃ n1 : Int,
 (∃ n2 : Int,
 (∃ n3 : Int,
 (∃ n4 : Int,
 (∃ n5 : Int,
 ((At (l25) (0 + Int.toNat x0 * 5) 5 [(vI n1), (vI n2), (vI n3), (vI n4), (vI n5)]) ∧
 (bcase (decide (0 ≤ x0))
 (bcase (decide (x0 < (↑n19 : Int)))
 (∃ n6 : Int,
 (∃ n8 : Int,
 (∃ n9 : Int,
 (∃ n10 : Int,
 (∃ n11 : Int,
 ((At (l26) (0 + Int.toNat x0 * 5) 5 [(vI n6), (vI n8), (vI n9), (vI n10), (vI n11)]) ∧
 (bcase (if Bool.true = Bool.true then !(n1 == n6 && (n2 == n8 && (n3 == n9 && (n4 == n10 && (n5 == n11 && Bool.true) && Bool.true)))) else n1 == n6 && (n2 == n8 && (n3 == n9 && (n4 == n10 && (n5 == n11 && Bool.true) && Bool.true))))
 (((bcase (if Bool.true = Bool.true then !(n1 == n6 && (n2 == n8 && (n3 == n9 && (n4 == n10 && (n5 == n11 && Bool.true) && Bool.true)))) else n1 == n6 && (n2 == n8 && (n3 == n9 && (n4 == n10 && (n5 == n11 && Bool.true) && Bool.true))))
 (Qv (Value.bool true))
 ((Value.bool false) = (Value.bool true))) ∧
 ((∃ n12 : Int,
 (∃ n13 : Int,
 (∃ n14 : Int,
 (∃ n15 : Int,
 (∃ n16 : Int,
 ((At (l26) (0 + Int.toNat x0 * 5) 5 [(vI n12), (vI n13), (vI n14), (vI n15), (vI n16)]) ∧
 ((Value.agg [(vI n12), (vI n13), (vI n14), (vI n15), (vI n16)].toArray) = (Value.agg [(vI n6), (vI n8), (vI n9), (vI n10), (vI n11)].toArray)))))))) ∧
 ((bcase (decide (0 ≤ x0))
 (bcase (decide (x0 < (↑n19 : Int)))
 (Qv (Pt 501 (0 + Int.toNat x0 * 5)))
 False)
 False) ∧
 ((Qv (vI x0)) ∧
 ((Qv (Sl 501 (n19) (c20))) ∧
 ((Qv (Pt 1001 6)) ∧
 ((∃ n12 : Int,
 (∃ n13 : Int,
 (∃ n14 : Int,
 (∃ n15 : Int,
 (∃ n16 : Int,
 ((At (l25) (0 + Int.toNat x0 * 5) 5 [(vI n12), (vI n13), (vI n14), (vI n15), (vI n16)]) ∧
 ((Value.agg [(vI n12), (vI n13), (vI n14), (vI n15), (vI n16)].toArray) = (Value.agg [(vI n1), (vI n2), (vI n3), (vI n4), (vI n5)].toArray)))))))) ∧
 ((bcase (decide (0 ≤ x0))
 (bcase (decide (x0 < (↑n7 : Int)))
 (Qv (Pt 500 (0 + Int.toNat x0 * 5)))
 False)
 False) ∧
 ((Qv (vI x0)) ∧
 ((Qv (Sl 500 (n7) (c8))) ∧
 ((Qv (Pt 1000 6)) ∧
 True))))))))))) ∧
 (k [(D.val (Value.bool false))]))
 (((bcase (if Bool.true = Bool.true then !(n1 == n6 && (n2 == n8 && (n3 == n9 && (n4 == n10 && (n5 == n11 && Bool.true) && Bool.true)))) else n1 == n6 && (n2 == n8 && (n3 == n9 && (n4 == n10 && (n5 == n11 && Bool.true) && Bool.true))))
 ((Value.bool true) = (Value.bool false))
 (Qv (Value.bool false))) ∧
 ((∃ n12 : Int,
 (∃ n13 : Int,
 (∃ n14 : Int,
 (∃ n15 : Int,
 (∃ n16 : Int,
 ((At (l26) (0 + Int.toNat x0 * 5) 5 [(vI n12), (vI n13), (vI n14), (vI n15), (vI n16)]) ∧
 ((Value.agg [(vI n12), (vI n13), (vI n14), (vI n15), (vI n16)].toArray) = (Value.agg [(vI n6), (vI n8), (vI n9), (vI n10), (vI n11)].toArray)))))))) ∧
 ((bcase (decide (0 ≤ x0))
 (bcase (decide (x0 < (↑n19 : Int)))
 (Qv (Pt 501 (0 + Int.toNat x0 * 5)))
 False)
 False) ∧
 ((Qv (vI x0)) ∧
 ((Qv (Sl 501 (n19) (c20))) ∧
 ((Qv (Pt 1001 6)) ∧
 ((∃ n12 : Int,
 (∃ n13 : Int,
 (∃ n14 : Int,
 (∃ n15 : Int,
 (∃ n16 : Int,
 ((At (l25) (0 + Int.toNat x0 * 5) 5 [(vI n12), (vI n13), (vI n14), (vI n15), (vI n16)]) ∧
 ((Value.agg [(vI n12), (vI n13), (vI n14), (vI n15), (vI n16)].toArray) = (Value.agg [(vI n1), (vI n2), (vI n3), (vI n4), (vI n5)].toArray)))))))) ∧
 ((bcase (decide (0 ≤ x0))
 (bcase (decide (x0 < (↑n7 : Int)))
 (Qv (Pt 500 (0 + Int.toNat x0 * 5)))
 False)
 False) ∧
 ((Qv (vI x0)) ∧
 ((Qv (Sl 500 (n7) (c8))) ∧
 ((Qv (Pt 1000 6)) ∧
 True))))))))))) ∧
 (B [(Prod.mk 2 (Pt 1000 0)), (Prod.mk 3 (Pt 1001 0)), (Prod.mk 5 (vI (IntKind.wrap .i64 (x0 + 1))))] [(Prod.mk 1000 (AObj.cells [(vI x1), (vI x2), (vI x3), (vI x4), (vI x5), (vI x6), (Sl 500 (n7) (c8)), (vI x9), (vI x10), (vI x11), (vI x12)] 26 false 1)), (Prod.mk 1001 (AObj.cells [(vI x13), (vI x14), (vI x15), (vI x16), (vI x17), (vI x18), (Sl 501 (n19) (c20)), (vI x21), (vI x22), (vI x23), (vI x24)] 26 false 1)), (Prod.mk 500 (AObj.sym (l25) false 5)), (Prod.mk 501 (AObj.sym (l26) false 5))])))))))))
 False)
 False)))))))
 False)
 False)
 (X 0 [] [])) := by kernel_rfl
def nSR2 (C : Ct) (L : AtLoop) (k : List D → Prop) : Prop := wpNext Tryz.prog (hX C) L 15 0 .normal [] [] (dataK k)
theorem nSR2_text (C : Ct) (L : AtLoop) (k : List D → Prop) : nSR2 C L k =
 (k [(D.val (Value.bool true))]) := by kernel_rfl
def grFR (C : Ct) (L : AtLoop) (x0 : Int) (x1 : Int) (x2 : Int) (x3 : Int) (x4 : Int) (x5 : Int) (n6 : Nat) (c6 : Nat) (l6 : List Value) (x7 : Int) (x8 : Int) (x9 : Int) (x10 : Int) (k : List D → Prop) : Prop := wpFn Tryz.prog (hX C) L 0 12 #[.agg #[.int .i64 x0, .int .i64 x1, .int .i64 x2, .int .i64 x3, .int .i64 x4, .int .i64 x5, .slice (some ⟨500, 0, none⟩) n6 c6, .int .i64 x7, .int .i64 x8, .int .i64 x9, .int .i64 x10]] (heapOf [(500, .sym l6 false 5)]) (dataK k)
theorem grFR_text (C : Ct) (L : AtLoop) (x0 : Int) (x1 : Int) (x2 : Int) (x3 : Int) (x4 : Int) (x5 : Int) (n6 : Nat) (c6 : Nat) (l6 : List Go.Value) (x7 : Int) (x8 : Int) (x9 : Int) (x10 : Int) (k : List D → Prop) : grFR C L x0 x1 x2 x3 x4 x5 n6 c6 l6 x7 x8 x9 x10 k =
 (L 0 [(Prod.mk 1 (Pt 1000 0)), (Prod.mk 3 (Sl 1001 10 10)), (Prod.mk 4 (Value.string ({ data := #[] }))), (Prod.mk 5 (vI 0))] [(Prod.mk 1000 (AObj.cells [(vI x0), (vI x1), (vI x2), (vI x3), (vI x4), (vI x5), (Sl 500 (n6) (c6)), (vI x7), (vI x8), (vI x9), (vI x10)] 26 false 1)), (Prod.mk 1001 (AObj.cells [(vI x0), (vI x1), (vI x2), (vI x3), (vI x4), (vI x5), (vI x7), (vI x8), (vI x9), (vI x10)] 3 false 1)), (Prod.mk 500 (AObj.sym (l6) false 5))]) := by kernel_rfl
def rrFR1 (C : Ct) (L : AtLoop) (n0 : Nat) (s1 : ByteArray) (x2 : Int) (x3 : Int) (x4 : Int) (x5 : Int) (x6 : Int) (x7 : Int) (n8 : Nat) (c9 : Nat) (x10 : Int) (x11 : Int) (x12 : Int) (x13 : Int) (x14 : Int) (x15 : Int) (x16 : Int) (x17 : Int) (x18 : Int) (x19 : Int) (x20 : Int) (x21 : Int) (x22 : Int) (x23 : Int) (l24 : List Value) (B : Bx) (X : Xx) (k : List D → Prop) : Prop := wpRound Tryz.prog (hX C) L 12 0 [(1, (Value.pointer (some ⟨1000, 0, none⟩))), (3, (Value.slice (some ⟨1001, 0, none⟩) n0 n0)), (4, (Value.string s1)), (5, (Value.int .i64 (0)))] [(1000, (AObj.cells [(Value.int .i64 x2), (Value.int .i64 x3), (Value.int .i64 x4), (Value.int .i64 x5), (Value.int .i64 x6), (Value.int .i64 x7), (Value.slice (some ⟨500, 0, none⟩) n8 c9), (Value.int .i64 x10), (Value.int .i64 x11), (Value.int .i64 x12), (Value.int .i64 x13)] 26 false 1)), (1001, (AObj.cells [(Value.int .i64 x14), (Value.int .i64 x15), (Value.int .i64 x16), (Value.int .i64 x17), (Value.int .i64 x18), (Value.int .i64 x19), (Value.int .i64 x20), (Value.int .i64 x21), (Value.int .i64 x22), (Value.int .i64 x23)] 3 false 1)), (500, (AObj.sym l24 false 5))] B X (dataK k)
theorem rrFR1_text (C : Ct) (L : AtLoop) (n0 : Nat) (s1 : ByteArray) (x2 : Int) (x3 : Int) (x4 : Int) (x5 : Int) (x6 : Int) (x7 : Int) (n8 : Nat) (c9 : Nat) (x10 : Int) (x11 : Int) (x12 : Int) (x13 : Int) (x14 : Int) (x15 : Int) (x16 : Int) (x17 : Int) (x18 : Int) (x19 : Int) (x20 : Int) (x21 : Int) (x22 : Int) (x23 : Int) (l24 : List Go.Value) (B : Bx) (X : Xx) (k : List D → Prop) : rrFR1 C L n0 s1 x2 x3 x4 x5 x6 x7 n8 c9 x10 x11 x12 x13 x14 x15 x16 x17 x18 x19 x20 x21 x22 x23 l24 B X k =
 (bcase (decide (0 < (↑n0 : Int)))
 (bcase (decide (0 < (↑n0 : Int)))
 (∃ s2 : ByteArray,
 ((Says C 38 [(D.val (vI x14))] [(D.val (Value.string (s2)))]) ∧
 (bcase (decide (ByteArray.size s1 + ByteArray.size s2 ≤ 9223372036854775807))
 (B [(Prod.mk 1 (Pt 1000 0)), (Prod.mk 3 (Sl 1001 (n0) (n0))), (Prod.mk 4 (Value.string (s1 ++ s2))), (Prod.mk 5 (vI 1))] [(Prod.mk 1000 (AObj.cells [(vI x2), (vI x3), (vI x4), (vI x5), (vI x6), (vI x7), (Sl 500 (n8) (c9)), (vI x10), (vI x11), (vI x12), (vI x13)] 26 false 1)), (Prod.mk 1001 (AObj.cells [(vI x14), (vI x15), (vI x16), (vI x17), (vI x18), (vI x19), (vI x20), (vI x21), (vI x22), (vI x23)] 3 false 1)), (Prod.mk 500 (AObj.sym (l24) false 5))])
 False)))
 False)
 (X 0 [(Prod.mk 1 (Pt 1000 0)), (Prod.mk 4 (Value.string (s1)))] [(Prod.mk 1000 (AObj.cells [(vI x2), (vI x3), (vI x4), (vI x5), (vI x6), (vI x7), (Sl 500 (n8) (c9)), (vI x10), (vI x11), (vI x12), (vI x13)] 26 false 1)), (Prod.mk 500 (AObj.sym (l24) false 5))])) := by kernel_rfl
abbrev zrFR2 (n0 : Nat) (s1 : ByteArray) (x2 : Int) (x3 : Int) (x4 : Int) (x5 : Int) (x6 : Int) (x7 : Int) (n8 : Nat) (c9 : Nat) (x10 : Int) (x11 : Int) (x12 : Int) (x13 : Int) (x14 : Int) (x15 : Int) (x16 : Int) (x17 : Int) (x18 : Int) (x19 : Int) (x20 : Int) (x21 : Int) (x22 : Int) (x23 : Int) (l24 : List Value) : Slots × Blocks := ([(1, (Value.pointer (some ⟨1000, 0, none⟩))), (3, (Value.slice (some ⟨1001, 0, none⟩) n0 n0)), (4, (Value.string s1)), (5, (Value.int .i64 (1)))], [(1000, (AObj.cells [(Value.int .i64 x2), (Value.int .i64 x3), (Value.int .i64 x4), (Value.int .i64 x5), (Value.int .i64 x6), (Value.int .i64 x7), (Value.slice (some ⟨500, 0, none⟩) n8 c9), (Value.int .i64 x10), (Value.int .i64 x11), (Value.int .i64 x12), (Value.int .i64 x13)] 26 false 1)), (1001, (AObj.cells [(Value.int .i64 x14), (Value.int .i64 x15), (Value.int .i64 x16), (Value.int .i64 x17), (Value.int .i64 x18), (Value.int .i64 x19), (Value.int .i64 x20), (Value.int .i64 x21), (Value.int .i64 x22), (Value.int .i64 x23)] 3 false 1)), (500, (AObj.sym l24 false 5))])
def rrFR2 (C : Ct) (L : AtLoop) (n0 : Nat) (s1 : ByteArray) (x2 : Int) (x3 : Int) (x4 : Int) (x5 : Int) (x6 : Int) (x7 : Int) (n8 : Nat) (c9 : Nat) (x10 : Int) (x11 : Int) (x12 : Int) (x13 : Int) (x14 : Int) (x15 : Int) (x16 : Int) (x17 : Int) (x18 : Int) (x19 : Int) (x20 : Int) (x21 : Int) (x22 : Int) (x23 : Int) (l24 : List Value) (B : Bx) (X : Xx) (k : List D → Prop) : Prop := wpRound Tryz.prog (hX C) L 12 0 [(1, (Value.pointer (some ⟨1000, 0, none⟩))), (3, (Value.slice (some ⟨1001, 0, none⟩) n0 n0)), (4, (Value.string s1)), (5, (Value.int .i64 (1)))] [(1000, (AObj.cells [(Value.int .i64 x2), (Value.int .i64 x3), (Value.int .i64 x4), (Value.int .i64 x5), (Value.int .i64 x6), (Value.int .i64 x7), (Value.slice (some ⟨500, 0, none⟩) n8 c9), (Value.int .i64 x10), (Value.int .i64 x11), (Value.int .i64 x12), (Value.int .i64 x13)] 26 false 1)), (1001, (AObj.cells [(Value.int .i64 x14), (Value.int .i64 x15), (Value.int .i64 x16), (Value.int .i64 x17), (Value.int .i64 x18), (Value.int .i64 x19), (Value.int .i64 x20), (Value.int .i64 x21), (Value.int .i64 x22), (Value.int .i64 x23)] 3 false 1)), (500, (AObj.sym l24 false 5))] B X (dataK k)
theorem rrFR2_text (C : Ct) (L : AtLoop) (n0 : Nat) (s1 : ByteArray) (x2 : Int) (x3 : Int) (x4 : Int) (x5 : Int) (x6 : Int) (x7 : Int) (n8 : Nat) (c9 : Nat) (x10 : Int) (x11 : Int) (x12 : Int) (x13 : Int) (x14 : Int) (x15 : Int) (x16 : Int) (x17 : Int) (x18 : Int) (x19 : Int) (x20 : Int) (x21 : Int) (x22 : Int) (x23 : Int) (l24 : List Go.Value) (B : Bx) (X : Xx) (k : List D → Prop) : rrFR2 C L n0 s1 x2 x3 x4 x5 x6 x7 n8 c9 x10 x11 x12 x13 x14 x15 x16 x17 x18 x19 x20 x21 x22 x23 l24 B X k =
 (bcase (decide (1 < (↑n0 : Int)))
 (bcase (decide (ByteArray.size s1 + 1 ≤ 9223372036854775807))
 (bcase (decide (1 < (↑n0 : Int)))
 (∃ s2 : ByteArray,
 ((Says C 38 [(D.val (vI x15))] [(D.val (Value.string (s2)))]) ∧
 (bcase (decide (ByteArray.size (s1 ++ { data := #[32] }) + ByteArray.size s2 ≤ 9223372036854775807))
 (B [(Prod.mk 1 (Pt 1000 0)), (Prod.mk 3 (Sl 1001 (n0) (n0))), (Prod.mk 4 (Value.string (s1 ++ { data := #[32] } ++ s2))), (Prod.mk 5 (vI 2))] [(Prod.mk 1000 (AObj.cells [(vI x2), (vI x3), (vI x4), (vI x5), (vI x6), (vI x7), (Sl 500 (n8) (c9)), (vI x10), (vI x11), (vI x12), (vI x13)] 26 false 1)), (Prod.mk 1001 (AObj.cells [(vI x14), (vI x15), (vI x16), (vI x17), (vI x18), (vI x19), (vI x20), (vI x21), (vI x22), (vI x23)] 3 false 1)), (Prod.mk 500 (AObj.sym (l24) false 5))])
 False)))
 False)
 False)
 (X 0 [(Prod.mk 1 (Pt 1000 0)), (Prod.mk 4 (Value.string (s1)))] [(Prod.mk 1000 (AObj.cells [(vI x2), (vI x3), (vI x4), (vI x5), (vI x6), (vI x7), (Sl 500 (n8) (c9)), (vI x10), (vI x11), (vI x12), (vI x13)] 26 false 1)), (Prod.mk 500 (AObj.sym (l24) false 5))])) := by kernel_rfl
def nrFR3 (C : Ct) (L : AtLoop) (s0 : ByteArray) (x1 : Int) (x2 : Int) (x3 : Int) (x4 : Int) (x5 : Int) (x6 : Int) (n7 : Nat) (c8 : Nat) (x9 : Int) (x10 : Int) (x11 : Int) (x12 : Int) (l13 : List Value) (k : List D → Prop) : Prop := wpNext Tryz.prog (hX C) L 12 0 .normal [(1, (Value.pointer (some ⟨1000, 0, none⟩))), (4, (Value.string s0))] [(1000, (AObj.cells [(Value.int .i64 x1), (Value.int .i64 x2), (Value.int .i64 x3), (Value.int .i64 x4), (Value.int .i64 x5), (Value.int .i64 x6), (Value.slice (some ⟨500, 0, none⟩) n7 c8), (Value.int .i64 x9), (Value.int .i64 x10), (Value.int .i64 x11), (Value.int .i64 x12)] 26 false 1)), (500, (AObj.sym l13 false 5))] (dataK k)
theorem nrFR3_text (C : Ct) (L : AtLoop) (s0 : ByteArray) (x1 : Int) (x2 : Int) (x3 : Int) (x4 : Int) (x5 : Int) (x6 : Int) (n7 : Nat) (c8 : Nat) (x9 : Int) (x10 : Int) (x11 : Int) (x12 : Int) (l13 : List Go.Value) (k : List D → Prop) : nrFR3 C L s0 x1 x2 x3 x4 x5 x6 n7 c8 x9 x10 x11 x12 l13 k =
 (L 2 [(Prod.mk 1 (Pt 1000 0)), (Prod.mk 4 (Value.string (s0))), (Prod.mk 6 (vI 0))] [(Prod.mk 1000 (AObj.cells [(vI x1), (vI x2), (vI x3), (vI x4), (vI x5), (vI x6), (Sl 500 (n7) (c8)), (vI x9), (vI x10), (vI x11), (vI x12)] 26 false 1)), (Prod.mk 500 (AObj.sym (l13) false 5))]) := by kernel_rfl
abbrev zrFR4 (n0 : Nat) (s1 : ByteArray) (x2 : Int) (x3 : Int) (x4 : Int) (x5 : Int) (x6 : Int) (x7 : Int) (n8 : Nat) (c9 : Nat) (x10 : Int) (x11 : Int) (x12 : Int) (x13 : Int) (x14 : Int) (x15 : Int) (x16 : Int) (x17 : Int) (x18 : Int) (x19 : Int) (x20 : Int) (x21 : Int) (x22 : Int) (x23 : Int) (l24 : List Value) : Slots × Blocks := ([(1, (Value.pointer (some ⟨1000, 0, none⟩))), (3, (Value.slice (some ⟨1001, 0, none⟩) n0 n0)), (4, (Value.string s1)), (5, (Value.int .i64 (2)))], [(1000, (AObj.cells [(Value.int .i64 x2), (Value.int .i64 x3), (Value.int .i64 x4), (Value.int .i64 x5), (Value.int .i64 x6), (Value.int .i64 x7), (Value.slice (some ⟨500, 0, none⟩) n8 c9), (Value.int .i64 x10), (Value.int .i64 x11), (Value.int .i64 x12), (Value.int .i64 x13)] 26 false 1)), (1001, (AObj.cells [(Value.int .i64 x14), (Value.int .i64 x15), (Value.int .i64 x16), (Value.int .i64 x17), (Value.int .i64 x18), (Value.int .i64 x19), (Value.int .i64 x20), (Value.int .i64 x21), (Value.int .i64 x22), (Value.int .i64 x23)] 3 false 1)), (500, (AObj.sym l24 false 5))])
def rrFR4 (C : Ct) (L : AtLoop) (n0 : Nat) (s1 : ByteArray) (x2 : Int) (x3 : Int) (x4 : Int) (x5 : Int) (x6 : Int) (x7 : Int) (n8 : Nat) (c9 : Nat) (x10 : Int) (x11 : Int) (x12 : Int) (x13 : Int) (x14 : Int) (x15 : Int) (x16 : Int) (x17 : Int) (x18 : Int) (x19 : Int) (x20 : Int) (x21 : Int) (x22 : Int) (x23 : Int) (l24 : List Value) (B : Bx) (X : Xx) (k : List D → Prop) : Prop := wpRound Tryz.prog (hX C) L 12 0 [(1, (Value.pointer (some ⟨1000, 0, none⟩))), (3, (Value.slice (some ⟨1001, 0, none⟩) n0 n0)), (4, (Value.string s1)), (5, (Value.int .i64 (2)))] [(1000, (AObj.cells [(Value.int .i64 x2), (Value.int .i64 x3), (Value.int .i64 x4), (Value.int .i64 x5), (Value.int .i64 x6), (Value.int .i64 x7), (Value.slice (some ⟨500, 0, none⟩) n8 c9), (Value.int .i64 x10), (Value.int .i64 x11), (Value.int .i64 x12), (Value.int .i64 x13)] 26 false 1)), (1001, (AObj.cells [(Value.int .i64 x14), (Value.int .i64 x15), (Value.int .i64 x16), (Value.int .i64 x17), (Value.int .i64 x18), (Value.int .i64 x19), (Value.int .i64 x20), (Value.int .i64 x21), (Value.int .i64 x22), (Value.int .i64 x23)] 3 false 1)), (500, (AObj.sym l24 false 5))] B X (dataK k)
theorem rrFR4_text (C : Ct) (L : AtLoop) (n0 : Nat) (s1 : ByteArray) (x2 : Int) (x3 : Int) (x4 : Int) (x5 : Int) (x6 : Int) (x7 : Int) (n8 : Nat) (c9 : Nat) (x10 : Int) (x11 : Int) (x12 : Int) (x13 : Int) (x14 : Int) (x15 : Int) (x16 : Int) (x17 : Int) (x18 : Int) (x19 : Int) (x20 : Int) (x21 : Int) (x22 : Int) (x23 : Int) (l24 : List Go.Value) (B : Bx) (X : Xx) (k : List D → Prop) : rrFR4 C L n0 s1 x2 x3 x4 x5 x6 x7 n8 c9 x10 x11 x12 x13 x14 x15 x16 x17 x18 x19 x20 x21 x22 x23 l24 B X k =
 (bcase (decide (2 < (↑n0 : Int)))
 (bcase (decide (ByteArray.size s1 + 1 ≤ 9223372036854775807))
 (bcase (decide (2 < (↑n0 : Int)))
 (∃ s2 : ByteArray,
 ((Says C 38 [(D.val (vI x16))] [(D.val (Value.string (s2)))]) ∧
 (bcase (decide (ByteArray.size (s1 ++ { data := #[32] }) + ByteArray.size s2 ≤ 9223372036854775807))
 (B [(Prod.mk 1 (Pt 1000 0)), (Prod.mk 3 (Sl 1001 (n0) (n0))), (Prod.mk 4 (Value.string (s1 ++ { data := #[32] } ++ s2))), (Prod.mk 5 (vI 3))] [(Prod.mk 1000 (AObj.cells [(vI x2), (vI x3), (vI x4), (vI x5), (vI x6), (vI x7), (Sl 500 (n8) (c9)), (vI x10), (vI x11), (vI x12), (vI x13)] 26 false 1)), (Prod.mk 1001 (AObj.cells [(vI x14), (vI x15), (vI x16), (vI x17), (vI x18), (vI x19), (vI x20), (vI x21), (vI x22), (vI x23)] 3 false 1)), (Prod.mk 500 (AObj.sym (l24) false 5))])
 False)))
 False)
 False)
 (X 0 [(Prod.mk 1 (Pt 1000 0)), (Prod.mk 4 (Value.string (s1)))] [(Prod.mk 1000 (AObj.cells [(vI x2), (vI x3), (vI x4), (vI x5), (vI x6), (vI x7), (Sl 500 (n8) (c9)), (vI x10), (vI x11), (vI x12), (vI x13)] 26 false 1)), (Prod.mk 500 (AObj.sym (l24) false 5))])) := by kernel_rfl
abbrev zrFR5 (s0 : ByteArray) (x1 : Int) (x2 : Int) (x3 : Int) (x4 : Int) (x5 : Int) (x6 : Int) (x7 : Int) (n8 : Nat) (c9 : Nat) (x10 : Int) (x11 : Int) (x12 : Int) (x13 : Int) (l14 : List Value) : Slots × Blocks := ([(1, (Value.pointer (some ⟨1000, 0, none⟩))), (4, (Value.string s0)), (6, (Value.int .i64 x1))], [(1000, (AObj.cells [(Value.int .i64 x2), (Value.int .i64 x3), (Value.int .i64 x4), (Value.int .i64 x5), (Value.int .i64 x6), (Value.int .i64 x7), (Value.slice (some ⟨500, 0, none⟩) n8 c9), (Value.int .i64 x10), (Value.int .i64 x11), (Value.int .i64 x12), (Value.int .i64 x13)] 26 false 1)), (500, (AObj.sym l14 false 5))])
def rrFR5 (C : Ct) (L : AtLoop) (s0 : ByteArray) (x1 : Int) (x2 : Int) (x3 : Int) (x4 : Int) (x5 : Int) (x6 : Int) (x7 : Int) (n8 : Nat) (c9 : Nat) (x10 : Int) (x11 : Int) (x12 : Int) (x13 : Int) (l14 : List Value) (B : Bx) (X : Xx) (k : List D → Prop) : Prop := wpRound Tryz.prog (hX C) L 12 2 [(1, (Value.pointer (some ⟨1000, 0, none⟩))), (4, (Value.string s0)), (6, (Value.int .i64 x1))] [(1000, (AObj.cells [(Value.int .i64 x2), (Value.int .i64 x3), (Value.int .i64 x4), (Value.int .i64 x5), (Value.int .i64 x6), (Value.int .i64 x7), (Value.slice (some ⟨500, 0, none⟩) n8 c9), (Value.int .i64 x10), (Value.int .i64 x11), (Value.int .i64 x12), (Value.int .i64 x13)] 26 false 1)), (500, (AObj.sym l14 false 5))] B X (dataK k)
theorem rrFR5_text (C : Ct) (L : AtLoop) (s0 : ByteArray) (x1 : Int) (x2 : Int) (x3 : Int) (x4 : Int) (x5 : Int) (x6 : Int) (x7 : Int) (n8 : Nat) (c9 : Nat) (x10 : Int) (x11 : Int) (x12 : Int) (x13 : Int) (l14 : List Go.Value) (B : Bx) (X : Xx) (k : List D → Prop) : rrFR5 C L s0 x1 x2 x3 x4 x5 x6 x7 n8 c9 x10 x11 x12 x13 l14 B X k =
 (bcase (decide (x1 < (↑n8 : Int)))
 (bcase (decide (0 ≤ x1))
 (bcase (decide (x1 < (↑n8 : Int)))
 (∃ n1 : Int,
 (∃ n2 : Int,
 (∃ n3 : Int,
 (∃ n4 : Int,
 (∃ n5 : Int,
 ((At (l14) (0 + Int.toNat x1 * 5) 5 [(vI n1), (vI n2), (vI n3), (vI n4), (vI n5)]) ∧
 (bcase (decide (ByteArray.size s0 + 3 ≤ 9223372036854775807))
 (((Qv (vI n5)) ∧
 ((Qv (Pt 1001 4)) ∧
 ((Qv (Pt 1001 3)) ∧
 ((Qv (vI n4)) ∧
 ((Qv (Pt 1001 3)) ∧
 ((Qv (Pt 1001 3)) ∧
 ((Qv (vI n3)) ∧
 ((Qv (Pt 1001 2)) ∧
 ((Qv (vI n2)) ∧
 ((Qv (Pt 1001 1)) ∧
 ((Qv (vI n1)) ∧
 ((Qv (Pt 1001 0)) ∧
 ((bcase (decide (ByteArray.size s0 + 3 ≤ 9223372036854775807))
 (Qv (Value.string (s0 ++ { data := #[32, 59, 32] })))
 False) ∧
 ((Qv (Value.string (s0))) ∧
 True)))))))))))))) ∧
 (∃ s1 : ByteArray,
 ((Says C 38 [(D.val (vI n1))] [(D.val (Value.string (s1)))]) ∧
 (bcase (decide (ByteArray.size (s0 ++ { data := #[32, 59, 32] }) + ByteArray.size s1 ≤ 9223372036854775807))
 (bcase (decide (ByteArray.size (s0 ++ { data := #[32, 59, 32] } ++ s1) + 1 ≤ 9223372036854775807))
 (((bcase (decide (ByteArray.size (s0 ++ { data := #[32, 59, 32] } ++ s1) + 1 ≤ 9223372036854775807))
 (Qv (Value.string (s0 ++ { data := #[32, 59, 32] } ++ s1 ++ { data := #[32] })))
 False) ∧
 ((bcase (decide (ByteArray.size (s0 ++ { data := #[32, 59, 32] }) + ByteArray.size s1 ≤ 9223372036854775807))
 (Qv (Value.string (s0 ++ { data := #[32, 59, 32] } ++ s1)))
 False) ∧
 ((Qv (vI n5)) ∧
 ((Qv (Pt 1001 4)) ∧
 ((Qv (Pt 1001 3)) ∧
 ((Qv (vI n4)) ∧
 ((Qv (Pt 1001 3)) ∧
 ((Qv (Pt 1001 3)) ∧
 ((Qv (vI n3)) ∧
 ((Qv (Pt 1001 2)) ∧
 ((Qv (vI n2)) ∧
 ((Qv (Pt 1001 1)) ∧
 ((Qv (Pt 1001 0)) ∧
 ((bcase (decide (ByteArray.size s0 + 3 ≤ 9223372036854775807))
 (Qv (Value.string (s0 ++ { data := #[32, 59, 32] })))
 False) ∧
 ((Qv (Value.string (s0))) ∧
 True))))))))))))))) ∧
 (∃ s2 : ByteArray,
 ((Says C 38 [(D.val (vI n2))] [(D.val (Value.string (s2)))]) ∧
 (bcase (decide (ByteArray.size (s0 ++ { data := #[32, 59, 32] } ++ s1 ++ { data := #[32] }) + ByteArray.size s2 ≤ 9223372036854775807))
 (bcase (decide (ByteArray.size (s0 ++ { data := #[32, 59, 32] } ++ s1 ++ { data := #[32] } ++ s2) + 1 ≤ 9223372036854775807))
 (((bcase (decide (ByteArray.size (s0 ++ { data := #[32, 59, 32] } ++ s1 ++ { data := #[32] } ++ s2) + 1 ≤ 9223372036854775807))
 (Qv (Value.string (s0 ++ { data := #[32, 59, 32] } ++ s1 ++ { data := #[32] } ++ s2 ++ { data := #[32] })))
 False) ∧
 ((bcase (decide (ByteArray.size (s0 ++ { data := #[32, 59, 32] } ++ s1 ++ { data := #[32] }) + ByteArray.size s2 ≤ 9223372036854775807))
 (Qv (Value.string (s0 ++ { data := #[32, 59, 32] } ++ s1 ++ { data := #[32] } ++ s2)))
 False) ∧
 ((bcase (decide (ByteArray.size (s0 ++ { data := #[32, 59, 32] } ++ s1) + 1 ≤ 9223372036854775807))
 (Qv (Value.string (s0 ++ { data := #[32, 59, 32] } ++ s1 ++ { data := #[32] })))
 False) ∧
 ((bcase (decide (ByteArray.size (s0 ++ { data := #[32, 59, 32] }) + ByteArray.size s1 ≤ 9223372036854775807))
 (Qv (Value.string (s0 ++ { data := #[32, 59, 32] } ++ s1)))
 False) ∧
 ((Qv (vI n5)) ∧
 ((Qv (Pt 1001 4)) ∧
 ((Qv (Pt 1001 3)) ∧
 ((Qv (vI n4)) ∧
 ((Qv (Pt 1001 3)) ∧
 ((Qv (Pt 1001 3)) ∧
 ((Qv (vI n3)) ∧
 ((Qv (Pt 1001 2)) ∧
 ((Qv (Pt 1001 1)) ∧
 ((Qv (Pt 1001 0)) ∧
 ((bcase (decide (ByteArray.size s0 + 3 ≤ 9223372036854775807))
 (Qv (Value.string (s0 ++ { data := #[32, 59, 32] })))
 False) ∧
 ((Qv (Value.string (s0))) ∧
 True)))))))))))))))) ∧
 (∃ s3 : ByteArray,
 ((Says C 38 [(D.val (vI n3))] [(D.val (Value.string (s3)))]) ∧
 (bcase (decide (ByteArray.size (s0 ++ { data := #[32, 59, 32] } ++ s1 ++ { data := #[32] } ++ s2 ++ { data := #[32] }) + ByteArray.size s3 ≤ 9223372036854775807))
 (bcase (decide (ByteArray.size (s0 ++ { data := #[32, 59, 32] } ++ s1 ++ { data := #[32] } ++ s2 ++ { data := #[32] } ++ s3) + 1 ≤ 9223372036854775807))
 (((bcase (decide (ByteArray.size (s0 ++ { data := #[32, 59, 32] } ++ s1 ++ { data := #[32] } ++ s2 ++ { data := #[32] } ++ s3) + 1 ≤ 9223372036854775807))
 (Qv (Value.string (s0 ++ { data := #[32, 59, 32] } ++ s1 ++ { data := #[32] } ++ s2 ++ { data := #[32] } ++ s3 ++ { data := #[32] })))
 False) ∧
 ((bcase (decide (ByteArray.size (s0 ++ { data := #[32, 59, 32] } ++ s1 ++ { data := #[32] } ++ s2 ++ { data := #[32] }) + ByteArray.size s3 ≤ 9223372036854775807))
 (Qv (Value.string (s0 ++ { data := #[32, 59, 32] } ++ s1 ++ { data := #[32] } ++ s2 ++ { data := #[32] } ++ s3)))
 False) ∧
 ((bcase (decide (ByteArray.size (s0 ++ { data := #[32, 59, 32] } ++ s1 ++ { data := #[32] } ++ s2) + 1 ≤ 9223372036854775807))
 (Qv (Value.string (s0 ++ { data := #[32, 59, 32] } ++ s1 ++ { data := #[32] } ++ s2 ++ { data := #[32] })))
 False) ∧
 ((bcase (decide (ByteArray.size (s0 ++ { data := #[32, 59, 32] } ++ s1 ++ { data := #[32] }) + ByteArray.size s2 ≤ 9223372036854775807))
 (Qv (Value.string (s0 ++ { data := #[32, 59, 32] } ++ s1 ++ { data := #[32] } ++ s2)))
 False) ∧
 ((bcase (decide (ByteArray.size (s0 ++ { data := #[32, 59, 32] } ++ s1) + 1 ≤ 9223372036854775807))
 (Qv (Value.string (s0 ++ { data := #[32, 59, 32] } ++ s1 ++ { data := #[32] })))
 False) ∧
 ((bcase (decide (ByteArray.size (s0 ++ { data := #[32, 59, 32] }) + ByteArray.size s1 ≤ 9223372036854775807))
 (Qv (Value.string (s0 ++ { data := #[32, 59, 32] } ++ s1)))
 False) ∧
 ((Qv (vI n5)) ∧
 ((Qv (Pt 1001 4)) ∧
 ((Qv (Pt 1001 3)) ∧
 ((Qv (vI n4)) ∧
 ((Qv (Pt 1001 3)) ∧
 ((Qv (Pt 1001 3)) ∧
 ((Qv (Pt 1001 2)) ∧
 ((Qv (Pt 1001 1)) ∧
 ((Qv (Pt 1001 0)) ∧
 ((bcase (decide (ByteArray.size s0 + 3 ≤ 9223372036854775807))
 (Qv (Value.string (s0 ++ { data := #[32, 59, 32] })))
 False) ∧
 ((Qv (Value.string (s0))) ∧
 True))))))))))))))))) ∧
 (∃ s4 : ByteArray,
 ((Says C 38 [(D.val (vI n4))] [(D.val (Value.string (s4)))]) ∧
 (bcase (decide (ByteArray.size (s0 ++ { data := #[32, 59, 32] } ++ s1 ++ { data := #[32] } ++ s2 ++ { data := #[32] } ++ s3 ++ { data := #[32] }) + ByteArray.size s4 ≤ 9223372036854775807))
 (bcase (decide (ByteArray.size (s0 ++ { data := #[32, 59, 32] } ++ s1 ++ { data := #[32] } ++ s2 ++ { data := #[32] } ++ s3 ++ { data := #[32] } ++ s4) + 1 ≤ 9223372036854775807))
 (((bcase (decide (ByteArray.size (s0 ++ { data := #[32, 59, 32] } ++ s1 ++ { data := #[32] } ++ s2 ++ { data := #[32] } ++ s3 ++ { data := #[32] } ++ s4) + 1 ≤ 9223372036854775807))
 (Qv (Value.string (s0 ++ { data := #[32, 59, 32] } ++ s1 ++ { data := #[32] } ++ s2 ++ { data := #[32] } ++ s3 ++ { data := #[32] } ++ s4 ++ { data := #[32] })))
 False) ∧
 ((bcase (decide (ByteArray.size (s0 ++ { data := #[32, 59, 32] } ++ s1 ++ { data := #[32] } ++ s2 ++ { data := #[32] } ++ s3 ++ { data := #[32] }) + ByteArray.size s4 ≤ 9223372036854775807))
 (Qv (Value.string (s0 ++ { data := #[32, 59, 32] } ++ s1 ++ { data := #[32] } ++ s2 ++ { data := #[32] } ++ s3 ++ { data := #[32] } ++ s4)))
 False) ∧
 ((bcase (decide (ByteArray.size (s0 ++ { data := #[32, 59, 32] } ++ s1 ++ { data := #[32] } ++ s2 ++ { data := #[32] } ++ s3) + 1 ≤ 9223372036854775807))
 (Qv (Value.string (s0 ++ { data := #[32, 59, 32] } ++ s1 ++ { data := #[32] } ++ s2 ++ { data := #[32] } ++ s3 ++ { data := #[32] })))
 False) ∧
 ((bcase (decide (ByteArray.size (s0 ++ { data := #[32, 59, 32] } ++ s1 ++ { data := #[32] } ++ s2 ++ { data := #[32] }) + ByteArray.size s3 ≤ 9223372036854775807))
 (Qv (Value.string (s0 ++ { data := #[32, 59, 32] } ++ s1 ++ { data := #[32] } ++ s2 ++ { data := #[32] } ++ s3)))
 False) ∧
 ((bcase (decide (ByteArray.size (s0 ++ { data := #[32, 59, 32] } ++ s1 ++ { data := #[32] } ++ s2) + 1 ≤ 9223372036854775807))
 (Qv (Value.string (s0 ++ { data := #[32, 59, 32] } ++ s1 ++ { data := #[32] } ++ s2 ++ { data := #[32] })))
 False) ∧
 ((bcase (decide (ByteArray.size (s0 ++ { data := #[32, 59, 32] } ++ s1 ++ { data := #[32] }) + ByteArray.size s2 ≤ 9223372036854775807))
 (Qv (Value.string (s0 ++ { data := #[32, 59, 32] } ++ s1 ++ { data := #[32] } ++ s2)))
 False) ∧
 ((bcase (decide (ByteArray.size (s0 ++ { data := #[32, 59, 32] } ++ s1) + 1 ≤ 9223372036854775807))
 (Qv (Value.string (s0 ++ { data := #[32, 59, 32] } ++ s1 ++ { data := #[32] })))
 False) ∧
 ((bcase (decide (ByteArray.size (s0 ++ { data := #[32, 59, 32] }) + ByteArray.size s1 ≤ 9223372036854775807))
 (Qv (Value.string (s0 ++ { data := #[32, 59, 32] } ++ s1)))
 False) ∧
 ((Qv (vI n5)) ∧
 ((Qv (Pt 1001 4)) ∧
 ((Qv (Pt 1001 3)) ∧
 ((Qv (Pt 1001 3)) ∧
 ((Qv (Pt 1001 3)) ∧
 ((Qv (Pt 1001 2)) ∧
 ((Qv (Pt 1001 1)) ∧
 ((Qv (Pt 1001 0)) ∧
 ((bcase (decide (ByteArray.size s0 + 3 ≤ 9223372036854775807))
 (Qv (Value.string (s0 ++ { data := #[32, 59, 32] })))
 False) ∧
 ((Qv (Value.string (s0))) ∧
 True)))))))))))))))))) ∧
 (∃ s5 : ByteArray,
 ((Says C 38 [(D.val (vI n5))] [(D.val (Value.string (s5)))]) ∧
 (bcase (decide (ByteArray.size (s0 ++ { data := #[32, 59, 32] } ++ s1 ++ { data := #[32] } ++ s2 ++ { data := #[32] } ++ s3 ++ { data := #[32] } ++ s4 ++ { data := #[32] }) + ByteArray.size s5 ≤ 9223372036854775807))
 (((bcase (decide (ByteArray.size (s0 ++ { data := #[32, 59, 32] } ++ s1 ++ { data := #[32] } ++ s2 ++ { data := #[32] } ++ s3 ++ { data := #[32] } ++ s4 ++ { data := #[32] }) + ByteArray.size s5 ≤ 9223372036854775807))
 (Qv (Value.string (s0 ++ { data := #[32, 59, 32] } ++ s1 ++ { data := #[32] } ++ s2 ++ { data := #[32] } ++ s3 ++ { data := #[32] } ++ s4 ++ { data := #[32] } ++ s5)))
 False) ∧
 ((bcase (decide (ByteArray.size (s0 ++ { data := #[32, 59, 32] } ++ s1 ++ { data := #[32] } ++ s2 ++ { data := #[32] } ++ s3 ++ { data := #[32] } ++ s4) + 1 ≤ 9223372036854775807))
 (Qv (Value.string (s0 ++ { data := #[32, 59, 32] } ++ s1 ++ { data := #[32] } ++ s2 ++ { data := #[32] } ++ s3 ++ { data := #[32] } ++ s4 ++ { data := #[32] })))
 False) ∧
 ((bcase (decide (ByteArray.size (s0 ++ { data := #[32, 59, 32] } ++ s1 ++ { data := #[32] } ++ s2 ++ { data := #[32] } ++ s3 ++ { data := #[32] }) + ByteArray.size s4 ≤ 9223372036854775807))
 (Qv (Value.string (s0 ++ { data := #[32, 59, 32] } ++ s1 ++ { data := #[32] } ++ s2 ++ { data := #[32] } ++ s3 ++ { data := #[32] } ++ s4)))
 False) ∧
 ((bcase (decide (ByteArray.size (s0 ++ { data := #[32, 59, 32] } ++ s1 ++ { data := #[32] } ++ s2 ++ { data := #[32] } ++ s3) + 1 ≤ 9223372036854775807))
 (Qv (Value.string (s0 ++ { data := #[32, 59, 32] } ++ s1 ++ { data := #[32] } ++ s2 ++ { data := #[32] } ++ s3 ++ { data := #[32] })))
 False) ∧
 ((bcase (decide (ByteArray.size (s0 ++ { data := #[32, 59, 32] } ++ s1 ++ { data := #[32] } ++ s2 ++ { data := #[32] }) + ByteArray.size s3 ≤ 9223372036854775807))
 (Qv (Value.string (s0 ++ { data := #[32, 59, 32] } ++ s1 ++ { data := #[32] } ++ s2 ++ { data := #[32] } ++ s3)))
 False) ∧
 ((bcase (decide (ByteArray.size (s0 ++ { data := #[32, 59, 32] } ++ s1 ++ { data := #[32] } ++ s2) + 1 ≤ 9223372036854775807))
 (Qv (Value.string (s0 ++ { data := #[32, 59, 32] } ++ s1 ++ { data := #[32] } ++ s2 ++ { data := #[32] })))
 False) ∧
 ((bcase (decide (ByteArray.size (s0 ++ { data := #[32, 59, 32] } ++ s1 ++ { data := #[32] }) + ByteArray.size s2 ≤ 9223372036854775807))
 (Qv (Value.string (s0 ++ { data := #[32, 59, 32] } ++ s1 ++ { data := #[32] } ++ s2)))
 False) ∧
 ((bcase (decide (ByteArray.size (s0 ++ { data := #[32, 59, 32] } ++ s1) + 1 ≤ 9223372036854775807))
 (Qv (Value.string (s0 ++ { data := #[32, 59, 32] } ++ s1 ++ { data := #[32] })))
 False) ∧
 ((bcase (decide (ByteArray.size (s0 ++ { data := #[32, 59, 32] }) + ByteArray.size s1 ≤ 9223372036854775807))
 (Qv (Value.string (s0 ++ { data := #[32, 59, 32] } ++ s1)))
 False) ∧
 ((Qv (Pt 1001 4)) ∧
 ((Qv (Pt 1001 3)) ∧
 ((Qv (Pt 1001 3)) ∧
 ((Qv (Pt 1001 3)) ∧
 ((Qv (Pt 1001 2)) ∧
 ((Qv (Pt 1001 1)) ∧
 ((Qv (Pt 1001 0)) ∧
 ((bcase (decide (ByteArray.size s0 + 3 ≤ 9223372036854775807))
 (Qv (Value.string (s0 ++ { data := #[32, 59, 32] })))
 False) ∧
 ((Qv (Value.string (s0))) ∧
 True)))))))))))))))))) ∧
 (True ∧
 (B [(Prod.mk 1 (Pt 1000 0)), (Prod.mk 4 (Value.string (s0 ++ { data := #[32, 59, 32] } ++ s1 ++ { data := #[32] } ++ s2 ++ { data := #[32] } ++ s3 ++ { data := #[32] } ++ s4 ++ { data := #[32] } ++ s5))), (Prod.mk 6 (vI (IntKind.wrap .i64 (x1 + 1))))] [(Prod.mk 1000 (AObj.cells [(vI x2), (vI x3), (vI x4), (vI x5), (vI x6), (vI x7), (Sl 500 (n8) (c9)), (vI x10), (vI x11), (vI x12), (vI x13)] 26 false 1)), (Prod.mk 500 (AObj.sym (l14) false 5))])))
 False))))
 False)
 False))))
 False)
 False))))
 False)
 False))))
 False)
 False))))
 False)))))))
 False)
 False)
 (X 2 [(Prod.mk 4 (Value.string (s0)))] [])) := by kernel_rfl
abbrev zrFR6 (n0 : Nat) (s1 : ByteArray) (x2 : Int) (x3 : Int) (x4 : Int) (x5 : Int) (x6 : Int) (x7 : Int) (n8 : Nat) (c9 : Nat) (x10 : Int) (x11 : Int) (x12 : Int) (x13 : Int) (x14 : Int) (x15 : Int) (x16 : Int) (x17 : Int) (x18 : Int) (x19 : Int) (x20 : Int) (x21 : Int) (x22 : Int) (x23 : Int) (l24 : List Value) : Slots × Blocks := ([(1, (Value.pointer (some ⟨1000, 0, none⟩))), (3, (Value.slice (some ⟨1001, 0, none⟩) n0 n0)), (4, (Value.string s1)), (5, (Value.int .i64 (3)))], [(1000, (AObj.cells [(Value.int .i64 x2), (Value.int .i64 x3), (Value.int .i64 x4), (Value.int .i64 x5), (Value.int .i64 x6), (Value.int .i64 x7), (Value.slice (some ⟨500, 0, none⟩) n8 c9), (Value.int .i64 x10), (Value.int .i64 x11), (Value.int .i64 x12), (Value.int .i64 x13)] 26 false 1)), (1001, (AObj.cells [(Value.int .i64 x14), (Value.int .i64 x15), (Value.int .i64 x16), (Value.int .i64 x17), (Value.int .i64 x18), (Value.int .i64 x19), (Value.int .i64 x20), (Value.int .i64 x21), (Value.int .i64 x22), (Value.int .i64 x23)] 3 false 1)), (500, (AObj.sym l24 false 5))])
def rrFR6 (C : Ct) (L : AtLoop) (n0 : Nat) (s1 : ByteArray) (x2 : Int) (x3 : Int) (x4 : Int) (x5 : Int) (x6 : Int) (x7 : Int) (n8 : Nat) (c9 : Nat) (x10 : Int) (x11 : Int) (x12 : Int) (x13 : Int) (x14 : Int) (x15 : Int) (x16 : Int) (x17 : Int) (x18 : Int) (x19 : Int) (x20 : Int) (x21 : Int) (x22 : Int) (x23 : Int) (l24 : List Value) (B : Bx) (X : Xx) (k : List D → Prop) : Prop := wpRound Tryz.prog (hX C) L 12 0 [(1, (Value.pointer (some ⟨1000, 0, none⟩))), (3, (Value.slice (some ⟨1001, 0, none⟩) n0 n0)), (4, (Value.string s1)), (5, (Value.int .i64 (3)))] [(1000, (AObj.cells [(Value.int .i64 x2), (Value.int .i64 x3), (Value.int .i64 x4), (Value.int .i64 x5), (Value.int .i64 x6), (Value.int .i64 x7), (Value.slice (some ⟨500, 0, none⟩) n8 c9), (Value.int .i64 x10), (Value.int .i64 x11), (Value.int .i64 x12), (Value.int .i64 x13)] 26 false 1)), (1001, (AObj.cells [(Value.int .i64 x14), (Value.int .i64 x15), (Value.int .i64 x16), (Value.int .i64 x17), (Value.int .i64 x18), (Value.int .i64 x19), (Value.int .i64 x20), (Value.int .i64 x21), (Value.int .i64 x22), (Value.int .i64 x23)] 3 false 1)), (500, (AObj.sym l24 false 5))] B X (dataK k)
theorem rrFR6_text (C : Ct) (L : AtLoop) (n0 : Nat) (s1 : ByteArray) (x2 : Int) (x3 : Int) (x4 : Int) (x5 : Int) (x6 : Int) (x7 : Int) (n8 : Nat) (c9 : Nat) (x10 : Int) (x11 : Int) (x12 : Int) (x13 : Int) (x14 : Int) (x15 : Int) (x16 : Int) (x17 : Int) (x18 : Int) (x19 : Int) (x20 : Int) (x21 : Int) (x22 : Int) (x23 : Int) (l24 : List Go.Value) (B : Bx) (X : Xx) (k : List D → Prop) : rrFR6 C L n0 s1 x2 x3 x4 x5 x6 x7 n8 c9 x10 x11 x12 x13 x14 x15 x16 x17 x18 x19 x20 x21 x22 x23 l24 B X k =
 (bcase (decide (3 < (↑n0 : Int)))
 (bcase (decide (ByteArray.size s1 + 1 ≤ 9223372036854775807))
 (bcase (decide (3 < (↑n0 : Int)))
 (∃ s2 : ByteArray,
 ((Says C 38 [(D.val (vI x17))] [(D.val (Value.string (s2)))]) ∧
 (bcase (decide (ByteArray.size (s1 ++ { data := #[32] }) + ByteArray.size s2 ≤ 9223372036854775807))
 (B [(Prod.mk 1 (Pt 1000 0)), (Prod.mk 3 (Sl 1001 (n0) (n0))), (Prod.mk 4 (Value.string (s1 ++ { data := #[32] } ++ s2))), (Prod.mk 5 (vI 4))] [(Prod.mk 1000 (AObj.cells [(vI x2), (vI x3), (vI x4), (vI x5), (vI x6), (vI x7), (Sl 500 (n8) (c9)), (vI x10), (vI x11), (vI x12), (vI x13)] 26 false 1)), (Prod.mk 1001 (AObj.cells [(vI x14), (vI x15), (vI x16), (vI x17), (vI x18), (vI x19), (vI x20), (vI x21), (vI x22), (vI x23)] 3 false 1)), (Prod.mk 500 (AObj.sym (l24) false 5))])
 False)))
 False)
 False)
 (X 0 [(Prod.mk 1 (Pt 1000 0)), (Prod.mk 4 (Value.string (s1)))] [(Prod.mk 1000 (AObj.cells [(vI x2), (vI x3), (vI x4), (vI x5), (vI x6), (vI x7), (Sl 500 (n8) (c9)), (vI x10), (vI x11), (vI x12), (vI x13)] 26 false 1)), (Prod.mk 500 (AObj.sym (l24) false 5))])) := by kernel_rfl
def nrFR7 (C : Ct) (L : AtLoop) (s0 : ByteArray) (k : List D → Prop) : Prop := wpNext Tryz.prog (hX C) L 12 2 .normal [(4, (Value.string s0))] [] (dataK k)
theorem nrFR7_text (C : Ct) (L : AtLoop) (s0 : ByteArray) (k : List D → Prop) : nrFR7 C L s0 k =
 (k [(D.val (Value.string (s0)))]) := by kernel_rfl
abbrev zrFR8 (n0 : Nat) (s1 : ByteArray) (x2 : Int) (x3 : Int) (x4 : Int) (x5 : Int) (x6 : Int) (x7 : Int) (n8 : Nat) (c9 : Nat) (x10 : Int) (x11 : Int) (x12 : Int) (x13 : Int) (x14 : Int) (x15 : Int) (x16 : Int) (x17 : Int) (x18 : Int) (x19 : Int) (x20 : Int) (x21 : Int) (x22 : Int) (x23 : Int) (l24 : List Value) : Slots × Blocks := ([(1, (Value.pointer (some ⟨1000, 0, none⟩))), (3, (Value.slice (some ⟨1001, 0, none⟩) n0 n0)), (4, (Value.string s1)), (5, (Value.int .i64 (4)))], [(1000, (AObj.cells [(Value.int .i64 x2), (Value.int .i64 x3), (Value.int .i64 x4), (Value.int .i64 x5), (Value.int .i64 x6), (Value.int .i64 x7), (Value.slice (some ⟨500, 0, none⟩) n8 c9), (Value.int .i64 x10), (Value.int .i64 x11), (Value.int .i64 x12), (Value.int .i64 x13)] 26 false 1)), (1001, (AObj.cells [(Value.int .i64 x14), (Value.int .i64 x15), (Value.int .i64 x16), (Value.int .i64 x17), (Value.int .i64 x18), (Value.int .i64 x19), (Value.int .i64 x20), (Value.int .i64 x21), (Value.int .i64 x22), (Value.int .i64 x23)] 3 false 1)), (500, (AObj.sym l24 false 5))])
def rrFR8 (C : Ct) (L : AtLoop) (n0 : Nat) (s1 : ByteArray) (x2 : Int) (x3 : Int) (x4 : Int) (x5 : Int) (x6 : Int) (x7 : Int) (n8 : Nat) (c9 : Nat) (x10 : Int) (x11 : Int) (x12 : Int) (x13 : Int) (x14 : Int) (x15 : Int) (x16 : Int) (x17 : Int) (x18 : Int) (x19 : Int) (x20 : Int) (x21 : Int) (x22 : Int) (x23 : Int) (l24 : List Value) (B : Bx) (X : Xx) (k : List D → Prop) : Prop := wpRound Tryz.prog (hX C) L 12 0 [(1, (Value.pointer (some ⟨1000, 0, none⟩))), (3, (Value.slice (some ⟨1001, 0, none⟩) n0 n0)), (4, (Value.string s1)), (5, (Value.int .i64 (4)))] [(1000, (AObj.cells [(Value.int .i64 x2), (Value.int .i64 x3), (Value.int .i64 x4), (Value.int .i64 x5), (Value.int .i64 x6), (Value.int .i64 x7), (Value.slice (some ⟨500, 0, none⟩) n8 c9), (Value.int .i64 x10), (Value.int .i64 x11), (Value.int .i64 x12), (Value.int .i64 x13)] 26 false 1)), (1001, (AObj.cells [(Value.int .i64 x14), (Value.int .i64 x15), (Value.int .i64 x16), (Value.int .i64 x17), (Value.int .i64 x18), (Value.int .i64 x19), (Value.int .i64 x20), (Value.int .i64 x21), (Value.int .i64 x22), (Value.int .i64 x23)] 3 false 1)), (500, (AObj.sym l24 false 5))] B X (dataK k)
theorem rrFR8_text (C : Ct) (L : AtLoop) (n0 : Nat) (s1 : ByteArray) (x2 : Int) (x3 : Int) (x4 : Int) (x5 : Int) (x6 : Int) (x7 : Int) (n8 : Nat) (c9 : Nat) (x10 : Int) (x11 : Int) (x12 : Int) (x13 : Int) (x14 : Int) (x15 : Int) (x16 : Int) (x17 : Int) (x18 : Int) (x19 : Int) (x20 : Int) (x21 : Int) (x22 : Int) (x23 : Int) (l24 : List Go.Value) (B : Bx) (X : Xx) (k : List D → Prop) : rrFR8 C L n0 s1 x2 x3 x4 x5 x6 x7 n8 c9 x10 x11 x12 x13 x14 x15 x16 x17 x18 x19 x20 x21 x22 x23 l24 B X k =
 (bcase (decide (4 < (↑n0 : Int)))
 (bcase (decide (ByteArray.size s1 + 1 ≤ 9223372036854775807))
 (bcase (decide (4 < (↑n0 : Int)))
 (∃ s2 : ByteArray,
 ((Says C 38 [(D.val (vI x18))] [(D.val (Value.string (s2)))]) ∧
 (bcase (decide (ByteArray.size (s1 ++ { data := #[32] }) + ByteArray.size s2 ≤ 9223372036854775807))
 (B [(Prod.mk 1 (Pt 1000 0)), (Prod.mk 3 (Sl 1001 (n0) (n0))), (Prod.mk 4 (Value.string (s1 ++ { data := #[32] } ++ s2))), (Prod.mk 5 (vI 5))] [(Prod.mk 1000 (AObj.cells [(vI x2), (vI x3), (vI x4), (vI x5), (vI x6), (vI x7), (Sl 500 (n8) (c9)), (vI x10), (vI x11), (vI x12), (vI x13)] 26 false 1)), (Prod.mk 1001 (AObj.cells [(vI x14), (vI x15), (vI x16), (vI x17), (vI x18), (vI x19), (vI x20), (vI x21), (vI x22), (vI x23)] 3 false 1)), (Prod.mk 500 (AObj.sym (l24) false 5))])
 False)))
 False)
 False)
 (X 0 [(Prod.mk 1 (Pt 1000 0)), (Prod.mk 4 (Value.string (s1)))] [(Prod.mk 1000 (AObj.cells [(vI x2), (vI x3), (vI x4), (vI x5), (vI x6), (vI x7), (Sl 500 (n8) (c9)), (vI x10), (vI x11), (vI x12), (vI x13)] 26 false 1)), (Prod.mk 500 (AObj.sym (l24) false 5))])) := by kernel_rfl
abbrev zrFR9 (n0 : Nat) (s1 : ByteArray) (x2 : Int) (x3 : Int) (x4 : Int) (x5 : Int) (x6 : Int) (x7 : Int) (n8 : Nat) (c9 : Nat) (x10 : Int) (x11 : Int) (x12 : Int) (x13 : Int) (x14 : Int) (x15 : Int) (x16 : Int) (x17 : Int) (x18 : Int) (x19 : Int) (x20 : Int) (x21 : Int) (x22 : Int) (x23 : Int) (l24 : List Value) : Slots × Blocks := ([(1, (Value.pointer (some ⟨1000, 0, none⟩))), (3, (Value.slice (some ⟨1001, 0, none⟩) n0 n0)), (4, (Value.string s1)), (5, (Value.int .i64 (5)))], [(1000, (AObj.cells [(Value.int .i64 x2), (Value.int .i64 x3), (Value.int .i64 x4), (Value.int .i64 x5), (Value.int .i64 x6), (Value.int .i64 x7), (Value.slice (some ⟨500, 0, none⟩) n8 c9), (Value.int .i64 x10), (Value.int .i64 x11), (Value.int .i64 x12), (Value.int .i64 x13)] 26 false 1)), (1001, (AObj.cells [(Value.int .i64 x14), (Value.int .i64 x15), (Value.int .i64 x16), (Value.int .i64 x17), (Value.int .i64 x18), (Value.int .i64 x19), (Value.int .i64 x20), (Value.int .i64 x21), (Value.int .i64 x22), (Value.int .i64 x23)] 3 false 1)), (500, (AObj.sym l24 false 5))])
def rrFR9 (C : Ct) (L : AtLoop) (n0 : Nat) (s1 : ByteArray) (x2 : Int) (x3 : Int) (x4 : Int) (x5 : Int) (x6 : Int) (x7 : Int) (n8 : Nat) (c9 : Nat) (x10 : Int) (x11 : Int) (x12 : Int) (x13 : Int) (x14 : Int) (x15 : Int) (x16 : Int) (x17 : Int) (x18 : Int) (x19 : Int) (x20 : Int) (x21 : Int) (x22 : Int) (x23 : Int) (l24 : List Value) (B : Bx) (X : Xx) (k : List D → Prop) : Prop := wpRound Tryz.prog (hX C) L 12 0 [(1, (Value.pointer (some ⟨1000, 0, none⟩))), (3, (Value.slice (some ⟨1001, 0, none⟩) n0 n0)), (4, (Value.string s1)), (5, (Value.int .i64 (5)))] [(1000, (AObj.cells [(Value.int .i64 x2), (Value.int .i64 x3), (Value.int .i64 x4), (Value.int .i64 x5), (Value.int .i64 x6), (Value.int .i64 x7), (Value.slice (some ⟨500, 0, none⟩) n8 c9), (Value.int .i64 x10), (Value.int .i64 x11), (Value.int .i64 x12), (Value.int .i64 x13)] 26 false 1)), (1001, (AObj.cells [(Value.int .i64 x14), (Value.int .i64 x15), (Value.int .i64 x16), (Value.int .i64 x17), (Value.int .i64 x18), (Value.int .i64 x19), (Value.int .i64 x20), (Value.int .i64 x21), (Value.int .i64 x22), (Value.int .i64 x23)] 3 false 1)), (500, (AObj.sym l24 false 5))] B X (dataK k)
theorem rrFR9_text (C : Ct) (L : AtLoop) (n0 : Nat) (s1 : ByteArray) (x2 : Int) (x3 : Int) (x4 : Int) (x5 : Int) (x6 : Int) (x7 : Int) (n8 : Nat) (c9 : Nat) (x10 : Int) (x11 : Int) (x12 : Int) (x13 : Int) (x14 : Int) (x15 : Int) (x16 : Int) (x17 : Int) (x18 : Int) (x19 : Int) (x20 : Int) (x21 : Int) (x22 : Int) (x23 : Int) (l24 : List Go.Value) (B : Bx) (X : Xx) (k : List D → Prop) : rrFR9 C L n0 s1 x2 x3 x4 x5 x6 x7 n8 c9 x10 x11 x12 x13 x14 x15 x16 x17 x18 x19 x20 x21 x22 x23 l24 B X k =
 (bcase (decide (5 < (↑n0 : Int)))
 (bcase (decide (ByteArray.size s1 + 1 ≤ 9223372036854775807))
 (bcase (decide (5 < (↑n0 : Int)))
 (∃ s2 : ByteArray,
 ((Says C 38 [(D.val (vI x19))] [(D.val (Value.string (s2)))]) ∧
 (bcase (decide (ByteArray.size (s1 ++ { data := #[32] }) + ByteArray.size s2 ≤ 9223372036854775807))
 (B [(Prod.mk 1 (Pt 1000 0)), (Prod.mk 3 (Sl 1001 (n0) (n0))), (Prod.mk 4 (Value.string (s1 ++ { data := #[32] } ++ s2))), (Prod.mk 5 (vI 6))] [(Prod.mk 1000 (AObj.cells [(vI x2), (vI x3), (vI x4), (vI x5), (vI x6), (vI x7), (Sl 500 (n8) (c9)), (vI x10), (vI x11), (vI x12), (vI x13)] 26 false 1)), (Prod.mk 1001 (AObj.cells [(vI x14), (vI x15), (vI x16), (vI x17), (vI x18), (vI x19), (vI x20), (vI x21), (vI x22), (vI x23)] 3 false 1)), (Prod.mk 500 (AObj.sym (l24) false 5))])
 False)))
 False)
 False)
 (X 0 [(Prod.mk 1 (Pt 1000 0)), (Prod.mk 4 (Value.string (s1)))] [(Prod.mk 1000 (AObj.cells [(vI x2), (vI x3), (vI x4), (vI x5), (vI x6), (vI x7), (Sl 500 (n8) (c9)), (vI x10), (vI x11), (vI x12), (vI x13)] 26 false 1)), (Prod.mk 500 (AObj.sym (l24) false 5))])) := by kernel_rfl
abbrev zrFR10 (n0 : Nat) (s1 : ByteArray) (x2 : Int) (x3 : Int) (x4 : Int) (x5 : Int) (x6 : Int) (x7 : Int) (n8 : Nat) (c9 : Nat) (x10 : Int) (x11 : Int) (x12 : Int) (x13 : Int) (x14 : Int) (x15 : Int) (x16 : Int) (x17 : Int) (x18 : Int) (x19 : Int) (x20 : Int) (x21 : Int) (x22 : Int) (x23 : Int) (l24 : List Value) : Slots × Blocks := ([(1, (Value.pointer (some ⟨1000, 0, none⟩))), (3, (Value.slice (some ⟨1001, 0, none⟩) n0 n0)), (4, (Value.string s1)), (5, (Value.int .i64 (6)))], [(1000, (AObj.cells [(Value.int .i64 x2), (Value.int .i64 x3), (Value.int .i64 x4), (Value.int .i64 x5), (Value.int .i64 x6), (Value.int .i64 x7), (Value.slice (some ⟨500, 0, none⟩) n8 c9), (Value.int .i64 x10), (Value.int .i64 x11), (Value.int .i64 x12), (Value.int .i64 x13)] 26 false 1)), (1001, (AObj.cells [(Value.int .i64 x14), (Value.int .i64 x15), (Value.int .i64 x16), (Value.int .i64 x17), (Value.int .i64 x18), (Value.int .i64 x19), (Value.int .i64 x20), (Value.int .i64 x21), (Value.int .i64 x22), (Value.int .i64 x23)] 3 false 1)), (500, (AObj.sym l24 false 5))])
def rrFR10 (C : Ct) (L : AtLoop) (n0 : Nat) (s1 : ByteArray) (x2 : Int) (x3 : Int) (x4 : Int) (x5 : Int) (x6 : Int) (x7 : Int) (n8 : Nat) (c9 : Nat) (x10 : Int) (x11 : Int) (x12 : Int) (x13 : Int) (x14 : Int) (x15 : Int) (x16 : Int) (x17 : Int) (x18 : Int) (x19 : Int) (x20 : Int) (x21 : Int) (x22 : Int) (x23 : Int) (l24 : List Value) (B : Bx) (X : Xx) (k : List D → Prop) : Prop := wpRound Tryz.prog (hX C) L 12 0 [(1, (Value.pointer (some ⟨1000, 0, none⟩))), (3, (Value.slice (some ⟨1001, 0, none⟩) n0 n0)), (4, (Value.string s1)), (5, (Value.int .i64 (6)))] [(1000, (AObj.cells [(Value.int .i64 x2), (Value.int .i64 x3), (Value.int .i64 x4), (Value.int .i64 x5), (Value.int .i64 x6), (Value.int .i64 x7), (Value.slice (some ⟨500, 0, none⟩) n8 c9), (Value.int .i64 x10), (Value.int .i64 x11), (Value.int .i64 x12), (Value.int .i64 x13)] 26 false 1)), (1001, (AObj.cells [(Value.int .i64 x14), (Value.int .i64 x15), (Value.int .i64 x16), (Value.int .i64 x17), (Value.int .i64 x18), (Value.int .i64 x19), (Value.int .i64 x20), (Value.int .i64 x21), (Value.int .i64 x22), (Value.int .i64 x23)] 3 false 1)), (500, (AObj.sym l24 false 5))] B X (dataK k)
theorem rrFR10_text (C : Ct) (L : AtLoop) (n0 : Nat) (s1 : ByteArray) (x2 : Int) (x3 : Int) (x4 : Int) (x5 : Int) (x6 : Int) (x7 : Int) (n8 : Nat) (c9 : Nat) (x10 : Int) (x11 : Int) (x12 : Int) (x13 : Int) (x14 : Int) (x15 : Int) (x16 : Int) (x17 : Int) (x18 : Int) (x19 : Int) (x20 : Int) (x21 : Int) (x22 : Int) (x23 : Int) (l24 : List Go.Value) (B : Bx) (X : Xx) (k : List D → Prop) : rrFR10 C L n0 s1 x2 x3 x4 x5 x6 x7 n8 c9 x10 x11 x12 x13 x14 x15 x16 x17 x18 x19 x20 x21 x22 x23 l24 B X k =
 (bcase (decide (6 < (↑n0 : Int)))
 (bcase (decide (ByteArray.size s1 + 1 ≤ 9223372036854775807))
 (bcase (decide (6 < (↑n0 : Int)))
 (∃ s2 : ByteArray,
 ((Says C 38 [(D.val (vI x20))] [(D.val (Value.string (s2)))]) ∧
 (bcase (decide (ByteArray.size (s1 ++ { data := #[32] }) + ByteArray.size s2 ≤ 9223372036854775807))
 (B [(Prod.mk 1 (Pt 1000 0)), (Prod.mk 3 (Sl 1001 (n0) (n0))), (Prod.mk 4 (Value.string (s1 ++ { data := #[32] } ++ s2))), (Prod.mk 5 (vI 7))] [(Prod.mk 1000 (AObj.cells [(vI x2), (vI x3), (vI x4), (vI x5), (vI x6), (vI x7), (Sl 500 (n8) (c9)), (vI x10), (vI x11), (vI x12), (vI x13)] 26 false 1)), (Prod.mk 1001 (AObj.cells [(vI x14), (vI x15), (vI x16), (vI x17), (vI x18), (vI x19), (vI x20), (vI x21), (vI x22), (vI x23)] 3 false 1)), (Prod.mk 500 (AObj.sym (l24) false 5))])
 False)))
 False)
 False)
 (X 0 [(Prod.mk 1 (Pt 1000 0)), (Prod.mk 4 (Value.string (s1)))] [(Prod.mk 1000 (AObj.cells [(vI x2), (vI x3), (vI x4), (vI x5), (vI x6), (vI x7), (Sl 500 (n8) (c9)), (vI x10), (vI x11), (vI x12), (vI x13)] 26 false 1)), (Prod.mk 500 (AObj.sym (l24) false 5))])) := by kernel_rfl
abbrev zrFR11 (n0 : Nat) (s1 : ByteArray) (x2 : Int) (x3 : Int) (x4 : Int) (x5 : Int) (x6 : Int) (x7 : Int) (n8 : Nat) (c9 : Nat) (x10 : Int) (x11 : Int) (x12 : Int) (x13 : Int) (x14 : Int) (x15 : Int) (x16 : Int) (x17 : Int) (x18 : Int) (x19 : Int) (x20 : Int) (x21 : Int) (x22 : Int) (x23 : Int) (l24 : List Value) : Slots × Blocks := ([(1, (Value.pointer (some ⟨1000, 0, none⟩))), (3, (Value.slice (some ⟨1001, 0, none⟩) n0 n0)), (4, (Value.string s1)), (5, (Value.int .i64 (7)))], [(1000, (AObj.cells [(Value.int .i64 x2), (Value.int .i64 x3), (Value.int .i64 x4), (Value.int .i64 x5), (Value.int .i64 x6), (Value.int .i64 x7), (Value.slice (some ⟨500, 0, none⟩) n8 c9), (Value.int .i64 x10), (Value.int .i64 x11), (Value.int .i64 x12), (Value.int .i64 x13)] 26 false 1)), (1001, (AObj.cells [(Value.int .i64 x14), (Value.int .i64 x15), (Value.int .i64 x16), (Value.int .i64 x17), (Value.int .i64 x18), (Value.int .i64 x19), (Value.int .i64 x20), (Value.int .i64 x21), (Value.int .i64 x22), (Value.int .i64 x23)] 3 false 1)), (500, (AObj.sym l24 false 5))])
def rrFR11 (C : Ct) (L : AtLoop) (n0 : Nat) (s1 : ByteArray) (x2 : Int) (x3 : Int) (x4 : Int) (x5 : Int) (x6 : Int) (x7 : Int) (n8 : Nat) (c9 : Nat) (x10 : Int) (x11 : Int) (x12 : Int) (x13 : Int) (x14 : Int) (x15 : Int) (x16 : Int) (x17 : Int) (x18 : Int) (x19 : Int) (x20 : Int) (x21 : Int) (x22 : Int) (x23 : Int) (l24 : List Value) (B : Bx) (X : Xx) (k : List D → Prop) : Prop := wpRound Tryz.prog (hX C) L 12 0 [(1, (Value.pointer (some ⟨1000, 0, none⟩))), (3, (Value.slice (some ⟨1001, 0, none⟩) n0 n0)), (4, (Value.string s1)), (5, (Value.int .i64 (7)))] [(1000, (AObj.cells [(Value.int .i64 x2), (Value.int .i64 x3), (Value.int .i64 x4), (Value.int .i64 x5), (Value.int .i64 x6), (Value.int .i64 x7), (Value.slice (some ⟨500, 0, none⟩) n8 c9), (Value.int .i64 x10), (Value.int .i64 x11), (Value.int .i64 x12), (Value.int .i64 x13)] 26 false 1)), (1001, (AObj.cells [(Value.int .i64 x14), (Value.int .i64 x15), (Value.int .i64 x16), (Value.int .i64 x17), (Value.int .i64 x18), (Value.int .i64 x19), (Value.int .i64 x20), (Value.int .i64 x21), (Value.int .i64 x22), (Value.int .i64 x23)] 3 false 1)), (500, (AObj.sym l24 false 5))] B X (dataK k)
theorem rrFR11_text (C : Ct) (L : AtLoop) (n0 : Nat) (s1 : ByteArray) (x2 : Int) (x3 : Int) (x4 : Int) (x5 : Int) (x6 : Int) (x7 : Int) (n8 : Nat) (c9 : Nat) (x10 : Int) (x11 : Int) (x12 : Int) (x13 : Int) (x14 : Int) (x15 : Int) (x16 : Int) (x17 : Int) (x18 : Int) (x19 : Int) (x20 : Int) (x21 : Int) (x22 : Int) (x23 : Int) (l24 : List Go.Value) (B : Bx) (X : Xx) (k : List D → Prop) : rrFR11 C L n0 s1 x2 x3 x4 x5 x6 x7 n8 c9 x10 x11 x12 x13 x14 x15 x16 x17 x18 x19 x20 x21 x22 x23 l24 B X k =
 (bcase (decide (7 < (↑n0 : Int)))
 (bcase (decide (ByteArray.size s1 + 1 ≤ 9223372036854775807))
 (bcase (decide (7 < (↑n0 : Int)))
 (∃ s2 : ByteArray,
 ((Says C 38 [(D.val (vI x21))] [(D.val (Value.string (s2)))]) ∧
 (bcase (decide (ByteArray.size (s1 ++ { data := #[32] }) + ByteArray.size s2 ≤ 9223372036854775807))
 (B [(Prod.mk 1 (Pt 1000 0)), (Prod.mk 3 (Sl 1001 (n0) (n0))), (Prod.mk 4 (Value.string (s1 ++ { data := #[32] } ++ s2))), (Prod.mk 5 (vI 8))] [(Prod.mk 1000 (AObj.cells [(vI x2), (vI x3), (vI x4), (vI x5), (vI x6), (vI x7), (Sl 500 (n8) (c9)), (vI x10), (vI x11), (vI x12), (vI x13)] 26 false 1)), (Prod.mk 1001 (AObj.cells [(vI x14), (vI x15), (vI x16), (vI x17), (vI x18), (vI x19), (vI x20), (vI x21), (vI x22), (vI x23)] 3 false 1)), (Prod.mk 500 (AObj.sym (l24) false 5))])
 False)))
 False)
 False)
 (X 0 [(Prod.mk 1 (Pt 1000 0)), (Prod.mk 4 (Value.string (s1)))] [(Prod.mk 1000 (AObj.cells [(vI x2), (vI x3), (vI x4), (vI x5), (vI x6), (vI x7), (Sl 500 (n8) (c9)), (vI x10), (vI x11), (vI x12), (vI x13)] 26 false 1)), (Prod.mk 500 (AObj.sym (l24) false 5))])) := by kernel_rfl
abbrev zrFR12 (n0 : Nat) (s1 : ByteArray) (x2 : Int) (x3 : Int) (x4 : Int) (x5 : Int) (x6 : Int) (x7 : Int) (n8 : Nat) (c9 : Nat) (x10 : Int) (x11 : Int) (x12 : Int) (x13 : Int) (x14 : Int) (x15 : Int) (x16 : Int) (x17 : Int) (x18 : Int) (x19 : Int) (x20 : Int) (x21 : Int) (x22 : Int) (x23 : Int) (l24 : List Value) : Slots × Blocks := ([(1, (Value.pointer (some ⟨1000, 0, none⟩))), (3, (Value.slice (some ⟨1001, 0, none⟩) n0 n0)), (4, (Value.string s1)), (5, (Value.int .i64 (8)))], [(1000, (AObj.cells [(Value.int .i64 x2), (Value.int .i64 x3), (Value.int .i64 x4), (Value.int .i64 x5), (Value.int .i64 x6), (Value.int .i64 x7), (Value.slice (some ⟨500, 0, none⟩) n8 c9), (Value.int .i64 x10), (Value.int .i64 x11), (Value.int .i64 x12), (Value.int .i64 x13)] 26 false 1)), (1001, (AObj.cells [(Value.int .i64 x14), (Value.int .i64 x15), (Value.int .i64 x16), (Value.int .i64 x17), (Value.int .i64 x18), (Value.int .i64 x19), (Value.int .i64 x20), (Value.int .i64 x21), (Value.int .i64 x22), (Value.int .i64 x23)] 3 false 1)), (500, (AObj.sym l24 false 5))])
def rrFR12 (C : Ct) (L : AtLoop) (n0 : Nat) (s1 : ByteArray) (x2 : Int) (x3 : Int) (x4 : Int) (x5 : Int) (x6 : Int) (x7 : Int) (n8 : Nat) (c9 : Nat) (x10 : Int) (x11 : Int) (x12 : Int) (x13 : Int) (x14 : Int) (x15 : Int) (x16 : Int) (x17 : Int) (x18 : Int) (x19 : Int) (x20 : Int) (x21 : Int) (x22 : Int) (x23 : Int) (l24 : List Value) (B : Bx) (X : Xx) (k : List D → Prop) : Prop := wpRound Tryz.prog (hX C) L 12 0 [(1, (Value.pointer (some ⟨1000, 0, none⟩))), (3, (Value.slice (some ⟨1001, 0, none⟩) n0 n0)), (4, (Value.string s1)), (5, (Value.int .i64 (8)))] [(1000, (AObj.cells [(Value.int .i64 x2), (Value.int .i64 x3), (Value.int .i64 x4), (Value.int .i64 x5), (Value.int .i64 x6), (Value.int .i64 x7), (Value.slice (some ⟨500, 0, none⟩) n8 c9), (Value.int .i64 x10), (Value.int .i64 x11), (Value.int .i64 x12), (Value.int .i64 x13)] 26 false 1)), (1001, (AObj.cells [(Value.int .i64 x14), (Value.int .i64 x15), (Value.int .i64 x16), (Value.int .i64 x17), (Value.int .i64 x18), (Value.int .i64 x19), (Value.int .i64 x20), (Value.int .i64 x21), (Value.int .i64 x22), (Value.int .i64 x23)] 3 false 1)), (500, (AObj.sym l24 false 5))] B X (dataK k)
theorem rrFR12_text (C : Ct) (L : AtLoop) (n0 : Nat) (s1 : ByteArray) (x2 : Int) (x3 : Int) (x4 : Int) (x5 : Int) (x6 : Int) (x7 : Int) (n8 : Nat) (c9 : Nat) (x10 : Int) (x11 : Int) (x12 : Int) (x13 : Int) (x14 : Int) (x15 : Int) (x16 : Int) (x17 : Int) (x18 : Int) (x19 : Int) (x20 : Int) (x21 : Int) (x22 : Int) (x23 : Int) (l24 : List Go.Value) (B : Bx) (X : Xx) (k : List D → Prop) : rrFR12 C L n0 s1 x2 x3 x4 x5 x6 x7 n8 c9 x10 x11 x12 x13 x14 x15 x16 x17 x18 x19 x20 x21 x22 x23 l24 B X k =
 (bcase (decide (8 < (↑n0 : Int)))
 (bcase (decide (ByteArray.size s1 + 1 ≤ 9223372036854775807))
 (bcase (decide (8 < (↑n0 : Int)))
 (∃ s2 : ByteArray,
 ((Says C 38 [(D.val (vI x22))] [(D.val (Value.string (s2)))]) ∧
 (bcase (decide (ByteArray.size (s1 ++ { data := #[32] }) + ByteArray.size s2 ≤ 9223372036854775807))
 (B [(Prod.mk 1 (Pt 1000 0)), (Prod.mk 3 (Sl 1001 (n0) (n0))), (Prod.mk 4 (Value.string (s1 ++ { data := #[32] } ++ s2))), (Prod.mk 5 (vI 9))] [(Prod.mk 1000 (AObj.cells [(vI x2), (vI x3), (vI x4), (vI x5), (vI x6), (vI x7), (Sl 500 (n8) (c9)), (vI x10), (vI x11), (vI x12), (vI x13)] 26 false 1)), (Prod.mk 1001 (AObj.cells [(vI x14), (vI x15), (vI x16), (vI x17), (vI x18), (vI x19), (vI x20), (vI x21), (vI x22), (vI x23)] 3 false 1)), (Prod.mk 500 (AObj.sym (l24) false 5))])
 False)))
 False)
 False)
 (X 0 [(Prod.mk 1 (Pt 1000 0)), (Prod.mk 4 (Value.string (s1)))] [(Prod.mk 1000 (AObj.cells [(vI x2), (vI x3), (vI x4), (vI x5), (vI x6), (vI x7), (Sl 500 (n8) (c9)), (vI x10), (vI x11), (vI x12), (vI x13)] 26 false 1)), (Prod.mk 500 (AObj.sym (l24) false 5))])) := by kernel_rfl
abbrev zrFR13 (n0 : Nat) (s1 : ByteArray) (x2 : Int) (x3 : Int) (x4 : Int) (x5 : Int) (x6 : Int) (x7 : Int) (n8 : Nat) (c9 : Nat) (x10 : Int) (x11 : Int) (x12 : Int) (x13 : Int) (x14 : Int) (x15 : Int) (x16 : Int) (x17 : Int) (x18 : Int) (x19 : Int) (x20 : Int) (x21 : Int) (x22 : Int) (x23 : Int) (l24 : List Value) : Slots × Blocks := ([(1, (Value.pointer (some ⟨1000, 0, none⟩))), (3, (Value.slice (some ⟨1001, 0, none⟩) n0 n0)), (4, (Value.string s1)), (5, (Value.int .i64 (9)))], [(1000, (AObj.cells [(Value.int .i64 x2), (Value.int .i64 x3), (Value.int .i64 x4), (Value.int .i64 x5), (Value.int .i64 x6), (Value.int .i64 x7), (Value.slice (some ⟨500, 0, none⟩) n8 c9), (Value.int .i64 x10), (Value.int .i64 x11), (Value.int .i64 x12), (Value.int .i64 x13)] 26 false 1)), (1001, (AObj.cells [(Value.int .i64 x14), (Value.int .i64 x15), (Value.int .i64 x16), (Value.int .i64 x17), (Value.int .i64 x18), (Value.int .i64 x19), (Value.int .i64 x20), (Value.int .i64 x21), (Value.int .i64 x22), (Value.int .i64 x23)] 3 false 1)), (500, (AObj.sym l24 false 5))])
def rrFR13 (C : Ct) (L : AtLoop) (n0 : Nat) (s1 : ByteArray) (x2 : Int) (x3 : Int) (x4 : Int) (x5 : Int) (x6 : Int) (x7 : Int) (n8 : Nat) (c9 : Nat) (x10 : Int) (x11 : Int) (x12 : Int) (x13 : Int) (x14 : Int) (x15 : Int) (x16 : Int) (x17 : Int) (x18 : Int) (x19 : Int) (x20 : Int) (x21 : Int) (x22 : Int) (x23 : Int) (l24 : List Value) (B : Bx) (X : Xx) (k : List D → Prop) : Prop := wpRound Tryz.prog (hX C) L 12 0 [(1, (Value.pointer (some ⟨1000, 0, none⟩))), (3, (Value.slice (some ⟨1001, 0, none⟩) n0 n0)), (4, (Value.string s1)), (5, (Value.int .i64 (9)))] [(1000, (AObj.cells [(Value.int .i64 x2), (Value.int .i64 x3), (Value.int .i64 x4), (Value.int .i64 x5), (Value.int .i64 x6), (Value.int .i64 x7), (Value.slice (some ⟨500, 0, none⟩) n8 c9), (Value.int .i64 x10), (Value.int .i64 x11), (Value.int .i64 x12), (Value.int .i64 x13)] 26 false 1)), (1001, (AObj.cells [(Value.int .i64 x14), (Value.int .i64 x15), (Value.int .i64 x16), (Value.int .i64 x17), (Value.int .i64 x18), (Value.int .i64 x19), (Value.int .i64 x20), (Value.int .i64 x21), (Value.int .i64 x22), (Value.int .i64 x23)] 3 false 1)), (500, (AObj.sym l24 false 5))] B X (dataK k)
theorem rrFR13_text (C : Ct) (L : AtLoop) (n0 : Nat) (s1 : ByteArray) (x2 : Int) (x3 : Int) (x4 : Int) (x5 : Int) (x6 : Int) (x7 : Int) (n8 : Nat) (c9 : Nat) (x10 : Int) (x11 : Int) (x12 : Int) (x13 : Int) (x14 : Int) (x15 : Int) (x16 : Int) (x17 : Int) (x18 : Int) (x19 : Int) (x20 : Int) (x21 : Int) (x22 : Int) (x23 : Int) (l24 : List Go.Value) (B : Bx) (X : Xx) (k : List D → Prop) : rrFR13 C L n0 s1 x2 x3 x4 x5 x6 x7 n8 c9 x10 x11 x12 x13 x14 x15 x16 x17 x18 x19 x20 x21 x22 x23 l24 B X k =
 (bcase (decide (9 < (↑n0 : Int)))
 (bcase (decide (ByteArray.size s1 + 1 ≤ 9223372036854775807))
 (bcase (decide (9 < (↑n0 : Int)))
 (∃ s2 : ByteArray,
 ((Says C 38 [(D.val (vI x23))] [(D.val (Value.string (s2)))]) ∧
 (bcase (decide (ByteArray.size (s1 ++ { data := #[32] }) + ByteArray.size s2 ≤ 9223372036854775807))
 (B [(Prod.mk 1 (Pt 1000 0)), (Prod.mk 3 (Sl 1001 (n0) (n0))), (Prod.mk 4 (Value.string (s1 ++ { data := #[32] } ++ s2))), (Prod.mk 5 (vI 10))] [(Prod.mk 1000 (AObj.cells [(vI x2), (vI x3), (vI x4), (vI x5), (vI x6), (vI x7), (Sl 500 (n8) (c9)), (vI x10), (vI x11), (vI x12), (vI x13)] 26 false 1)), (Prod.mk 1001 (AObj.cells [(vI x14), (vI x15), (vI x16), (vI x17), (vI x18), (vI x19), (vI x20), (vI x21), (vI x22), (vI x23)] 3 false 1)), (Prod.mk 500 (AObj.sym (l24) false 5))])
 False)))
 False)
 False)
 (X 0 [(Prod.mk 1 (Pt 1000 0)), (Prod.mk 4 (Value.string (s1)))] [(Prod.mk 1000 (AObj.cells [(vI x2), (vI x3), (vI x4), (vI x5), (vI x6), (vI x7), (Sl 500 (n8) (c9)), (vI x10), (vI x11), (vI x12), (vI x13)] 26 false 1)), (Prod.mk 500 (AObj.sym (l24) false 5))])) := by kernel_rfl
abbrev zrFR14 (n0 : Nat) (s1 : ByteArray) (x2 : Int) (x3 : Int) (x4 : Int) (x5 : Int) (x6 : Int) (x7 : Int) (n8 : Nat) (c9 : Nat) (x10 : Int) (x11 : Int) (x12 : Int) (x13 : Int) (x14 : Int) (x15 : Int) (x16 : Int) (x17 : Int) (x18 : Int) (x19 : Int) (x20 : Int) (x21 : Int) (x22 : Int) (x23 : Int) (l24 : List Value) : Slots × Blocks := ([(1, (Value.pointer (some ⟨1000, 0, none⟩))), (3, (Value.slice (some ⟨1001, 0, none⟩) n0 n0)), (4, (Value.string s1)), (5, (Value.int .i64 (10)))], [(1000, (AObj.cells [(Value.int .i64 x2), (Value.int .i64 x3), (Value.int .i64 x4), (Value.int .i64 x5), (Value.int .i64 x6), (Value.int .i64 x7), (Value.slice (some ⟨500, 0, none⟩) n8 c9), (Value.int .i64 x10), (Value.int .i64 x11), (Value.int .i64 x12), (Value.int .i64 x13)] 26 false 1)), (1001, (AObj.cells [(Value.int .i64 x14), (Value.int .i64 x15), (Value.int .i64 x16), (Value.int .i64 x17), (Value.int .i64 x18), (Value.int .i64 x19), (Value.int .i64 x20), (Value.int .i64 x21), (Value.int .i64 x22), (Value.int .i64 x23)] 3 false 1)), (500, (AObj.sym l24 false 5))])
def rrFR14 (C : Ct) (L : AtLoop) (n0 : Nat) (s1 : ByteArray) (x2 : Int) (x3 : Int) (x4 : Int) (x5 : Int) (x6 : Int) (x7 : Int) (n8 : Nat) (c9 : Nat) (x10 : Int) (x11 : Int) (x12 : Int) (x13 : Int) (x14 : Int) (x15 : Int) (x16 : Int) (x17 : Int) (x18 : Int) (x19 : Int) (x20 : Int) (x21 : Int) (x22 : Int) (x23 : Int) (l24 : List Value) (B : Bx) (X : Xx) (k : List D → Prop) : Prop := wpRound Tryz.prog (hX C) L 12 0 [(1, (Value.pointer (some ⟨1000, 0, none⟩))), (3, (Value.slice (some ⟨1001, 0, none⟩) n0 n0)), (4, (Value.string s1)), (5, (Value.int .i64 (10)))] [(1000, (AObj.cells [(Value.int .i64 x2), (Value.int .i64 x3), (Value.int .i64 x4), (Value.int .i64 x5), (Value.int .i64 x6), (Value.int .i64 x7), (Value.slice (some ⟨500, 0, none⟩) n8 c9), (Value.int .i64 x10), (Value.int .i64 x11), (Value.int .i64 x12), (Value.int .i64 x13)] 26 false 1)), (1001, (AObj.cells [(Value.int .i64 x14), (Value.int .i64 x15), (Value.int .i64 x16), (Value.int .i64 x17), (Value.int .i64 x18), (Value.int .i64 x19), (Value.int .i64 x20), (Value.int .i64 x21), (Value.int .i64 x22), (Value.int .i64 x23)] 3 false 1)), (500, (AObj.sym l24 false 5))] B X (dataK k)
theorem rrFR14_text (C : Ct) (L : AtLoop) (n0 : Nat) (s1 : ByteArray) (x2 : Int) (x3 : Int) (x4 : Int) (x5 : Int) (x6 : Int) (x7 : Int) (n8 : Nat) (c9 : Nat) (x10 : Int) (x11 : Int) (x12 : Int) (x13 : Int) (x14 : Int) (x15 : Int) (x16 : Int) (x17 : Int) (x18 : Int) (x19 : Int) (x20 : Int) (x21 : Int) (x22 : Int) (x23 : Int) (l24 : List Go.Value) (B : Bx) (X : Xx) (k : List D → Prop) : rrFR14 C L n0 s1 x2 x3 x4 x5 x6 x7 n8 c9 x10 x11 x12 x13 x14 x15 x16 x17 x18 x19 x20 x21 x22 x23 l24 B X k =
 (bcase (decide (10 < (↑n0 : Int)))
 (bcase (decide (ByteArray.size s1 + 1 ≤ 9223372036854775807))
 (bcase (decide (10 < (↑n0 : Int)))
 False
 False)
 False)
 (X 0 [(Prod.mk 1 (Pt 1000 0)), (Prod.mk 4 (Value.string (s1)))] [(Prod.mk 1000 (AObj.cells [(vI x2), (vI x3), (vI x4), (vI x5), (vI x6), (vI x7), (Sl 500 (n8) (c9)), (vI x10), (vI x11), (vI x12), (vI x13)] 26 false 1)), (Prod.mk 500 (AObj.sym (l24) false 5))])) := by kernel_rfl
def grFRn (C : Ct) (L : AtLoop) (x0 : Int) (x1 : Int) (x2 : Int) (x3 : Int) (x4 : Int) (x5 : Int) (x7 : Int) (x8 : Int) (x9 : Int) (x10 : Int) (k : List D → Prop) : Prop := wpFn Tryz.prog (hX C) L 0 12 #[.agg #[.int .i64 x0, .int .i64 x1, .int .i64 x2, .int .i64 x3, .int .i64 x4, .int .i64 x5, .slice none 0 0, .int .i64 x7, .int .i64 x8, .int .i64 x9, .int .i64 x10]] (heapOf []) (dataK k)
theorem grFRn_text (C : Ct) (L : AtLoop) (x0 : Int) (x1 : Int) (x2 : Int) (x3 : Int) (x4 : Int) (x5 : Int) (x7 : Int) (x8 : Int) (x9 : Int) (x10 : Int) (k : List D → Prop) : grFRn C L x0 x1 x2 x3 x4 x5 x7 x8 x9 x10 k =
 (L 0 [(Prod.mk 1 (Pt 1000 0)), (Prod.mk 3 (Sl 1001 10 10)), (Prod.mk 4 (Value.string ({ data := #[] }))), (Prod.mk 5 (vI 0))] [(Prod.mk 1000 (AObj.cells [(vI x0), (vI x1), (vI x2), (vI x3), (vI x4), (vI x5), (Value.slice none 0 0), (vI x7), (vI x8), (vI x9), (vI x10)] 26 false 1)), (Prod.mk 1001 (AObj.cells [(vI x0), (vI x1), (vI x2), (vI x3), (vI x4), (vI x5), (vI x7), (vI x8), (vI x9), (vI x10)] 3 false 1))]) := by kernel_rfl
def rrFRn1 (C : Ct) (L : AtLoop) (n0 : Nat) (s1 : ByteArray) (x2 : Int) (x3 : Int) (x4 : Int) (x5 : Int) (x6 : Int) (x7 : Int) (x8 : Int) (x9 : Int) (x10 : Int) (x11 : Int) (x12 : Int) (x13 : Int) (x14 : Int) (x15 : Int) (x16 : Int) (x17 : Int) (x18 : Int) (x19 : Int) (x20 : Int) (x21 : Int) (B : Bx) (X : Xx) (k : List D → Prop) : Prop := wpRound Tryz.prog (hX C) L 12 0 [(1, (Value.pointer (some ⟨1000, 0, none⟩))), (3, (Value.slice (some ⟨1001, 0, none⟩) n0 n0)), (4, (Value.string s1)), (5, (Value.int .i64 (0)))] [(1000, (AObj.cells [(Value.int .i64 x2), (Value.int .i64 x3), (Value.int .i64 x4), (Value.int .i64 x5), (Value.int .i64 x6), (Value.int .i64 x7), (Value.slice none 0 0), (Value.int .i64 x8), (Value.int .i64 x9), (Value.int .i64 x10), (Value.int .i64 x11)] 26 false 1)), (1001, (AObj.cells [(Value.int .i64 x12), (Value.int .i64 x13), (Value.int .i64 x14), (Value.int .i64 x15), (Value.int .i64 x16), (Value.int .i64 x17), (Value.int .i64 x18), (Value.int .i64 x19), (Value.int .i64 x20), (Value.int .i64 x21)] 3 false 1))] B X (dataK k)
theorem rrFRn1_text (C : Ct) (L : AtLoop) (n0 : Nat) (s1 : ByteArray) (x2 : Int) (x3 : Int) (x4 : Int) (x5 : Int) (x6 : Int) (x7 : Int) (x8 : Int) (x9 : Int) (x10 : Int) (x11 : Int) (x12 : Int) (x13 : Int) (x14 : Int) (x15 : Int) (x16 : Int) (x17 : Int) (x18 : Int) (x19 : Int) (x20 : Int) (x21 : Int) (B : Bx) (X : Xx) (k : List D → Prop) : rrFRn1 C L n0 s1 x2 x3 x4 x5 x6 x7 x8 x9 x10 x11 x12 x13 x14 x15 x16 x17 x18 x19 x20 x21 B X k =
 (bcase (decide (0 < (↑n0 : Int)))
 (bcase (decide (0 < (↑n0 : Int)))
 (∃ s2 : ByteArray,
 ((Says C 38 [(D.val (vI x12))] [(D.val (Value.string (s2)))]) ∧
 (bcase (decide (ByteArray.size s1 + ByteArray.size s2 ≤ 9223372036854775807))
 (B [(Prod.mk 1 (Pt 1000 0)), (Prod.mk 3 (Sl 1001 (n0) (n0))), (Prod.mk 4 (Value.string (s1 ++ s2))), (Prod.mk 5 (vI 1))] [(Prod.mk 1000 (AObj.cells [(vI x2), (vI x3), (vI x4), (vI x5), (vI x6), (vI x7), (Value.slice none 0 0), (vI x8), (vI x9), (vI x10), (vI x11)] 26 false 1)), (Prod.mk 1001 (AObj.cells [(vI x12), (vI x13), (vI x14), (vI x15), (vI x16), (vI x17), (vI x18), (vI x19), (vI x20), (vI x21)] 3 false 1))])
 False)))
 False)
 (X 0 [(Prod.mk 1 (Pt 1000 0)), (Prod.mk 4 (Value.string (s1)))] [(Prod.mk 1000 (AObj.cells [(vI x2), (vI x3), (vI x4), (vI x5), (vI x6), (vI x7), (Value.slice none 0 0), (vI x8), (vI x9), (vI x10), (vI x11)] 26 false 1))])) := by kernel_rfl
abbrev zrFRn2 (n0 : Nat) (s1 : ByteArray) (x2 : Int) (x3 : Int) (x4 : Int) (x5 : Int) (x6 : Int) (x7 : Int) (x8 : Int) (x9 : Int) (x10 : Int) (x11 : Int) (x12 : Int) (x13 : Int) (x14 : Int) (x15 : Int) (x16 : Int) (x17 : Int) (x18 : Int) (x19 : Int) (x20 : Int) (x21 : Int) : Slots × Blocks := ([(1, (Value.pointer (some ⟨1000, 0, none⟩))), (3, (Value.slice (some ⟨1001, 0, none⟩) n0 n0)), (4, (Value.string s1)), (5, (Value.int .i64 (1)))], [(1000, (AObj.cells [(Value.int .i64 x2), (Value.int .i64 x3), (Value.int .i64 x4), (Value.int .i64 x5), (Value.int .i64 x6), (Value.int .i64 x7), (Value.slice none 0 0), (Value.int .i64 x8), (Value.int .i64 x9), (Value.int .i64 x10), (Value.int .i64 x11)] 26 false 1)), (1001, (AObj.cells [(Value.int .i64 x12), (Value.int .i64 x13), (Value.int .i64 x14), (Value.int .i64 x15), (Value.int .i64 x16), (Value.int .i64 x17), (Value.int .i64 x18), (Value.int .i64 x19), (Value.int .i64 x20), (Value.int .i64 x21)] 3 false 1))])
def rrFRn2 (C : Ct) (L : AtLoop) (n0 : Nat) (s1 : ByteArray) (x2 : Int) (x3 : Int) (x4 : Int) (x5 : Int) (x6 : Int) (x7 : Int) (x8 : Int) (x9 : Int) (x10 : Int) (x11 : Int) (x12 : Int) (x13 : Int) (x14 : Int) (x15 : Int) (x16 : Int) (x17 : Int) (x18 : Int) (x19 : Int) (x20 : Int) (x21 : Int) (B : Bx) (X : Xx) (k : List D → Prop) : Prop := wpRound Tryz.prog (hX C) L 12 0 [(1, (Value.pointer (some ⟨1000, 0, none⟩))), (3, (Value.slice (some ⟨1001, 0, none⟩) n0 n0)), (4, (Value.string s1)), (5, (Value.int .i64 (1)))] [(1000, (AObj.cells [(Value.int .i64 x2), (Value.int .i64 x3), (Value.int .i64 x4), (Value.int .i64 x5), (Value.int .i64 x6), (Value.int .i64 x7), (Value.slice none 0 0), (Value.int .i64 x8), (Value.int .i64 x9), (Value.int .i64 x10), (Value.int .i64 x11)] 26 false 1)), (1001, (AObj.cells [(Value.int .i64 x12), (Value.int .i64 x13), (Value.int .i64 x14), (Value.int .i64 x15), (Value.int .i64 x16), (Value.int .i64 x17), (Value.int .i64 x18), (Value.int .i64 x19), (Value.int .i64 x20), (Value.int .i64 x21)] 3 false 1))] B X (dataK k)
theorem rrFRn2_text (C : Ct) (L : AtLoop) (n0 : Nat) (s1 : ByteArray) (x2 : Int) (x3 : Int) (x4 : Int) (x5 : Int) (x6 : Int) (x7 : Int) (x8 : Int) (x9 : Int) (x10 : Int) (x11 : Int) (x12 : Int) (x13 : Int) (x14 : Int) (x15 : Int) (x16 : Int) (x17 : Int) (x18 : Int) (x19 : Int) (x20 : Int) (x21 : Int) (B : Bx) (X : Xx) (k : List D → Prop) : rrFRn2 C L n0 s1 x2 x3 x4 x5 x6 x7 x8 x9 x10 x11 x12 x13 x14 x15 x16 x17 x18 x19 x20 x21 B X k =
 (bcase (decide (1 < (↑n0 : Int)))
 (bcase (decide (ByteArray.size s1 + 1 ≤ 9223372036854775807))
 (bcase (decide (1 < (↑n0 : Int)))
 (∃ s2 : ByteArray,
 ((Says C 38 [(D.val (vI x13))] [(D.val (Value.string (s2)))]) ∧
 (bcase (decide (ByteArray.size (s1 ++ { data := #[32] }) + ByteArray.size s2 ≤ 9223372036854775807))
 (B [(Prod.mk 1 (Pt 1000 0)), (Prod.mk 3 (Sl 1001 (n0) (n0))), (Prod.mk 4 (Value.string (s1 ++ { data := #[32] } ++ s2))), (Prod.mk 5 (vI 2))] [(Prod.mk 1000 (AObj.cells [(vI x2), (vI x3), (vI x4), (vI x5), (vI x6), (vI x7), (Value.slice none 0 0), (vI x8), (vI x9), (vI x10), (vI x11)] 26 false 1)), (Prod.mk 1001 (AObj.cells [(vI x12), (vI x13), (vI x14), (vI x15), (vI x16), (vI x17), (vI x18), (vI x19), (vI x20), (vI x21)] 3 false 1))])
 False)))
 False)
 False)
 (X 0 [(Prod.mk 1 (Pt 1000 0)), (Prod.mk 4 (Value.string (s1)))] [(Prod.mk 1000 (AObj.cells [(vI x2), (vI x3), (vI x4), (vI x5), (vI x6), (vI x7), (Value.slice none 0 0), (vI x8), (vI x9), (vI x10), (vI x11)] 26 false 1))])) := by kernel_rfl
def nrFRn3 (C : Ct) (L : AtLoop) (s0 : ByteArray) (x1 : Int) (x2 : Int) (x3 : Int) (x4 : Int) (x5 : Int) (x6 : Int) (x7 : Int) (x8 : Int) (x9 : Int) (x10 : Int) (k : List D → Prop) : Prop := wpNext Tryz.prog (hX C) L 12 0 .normal [(1, (Value.pointer (some ⟨1000, 0, none⟩))), (4, (Value.string s0))] [(1000, (AObj.cells [(Value.int .i64 x1), (Value.int .i64 x2), (Value.int .i64 x3), (Value.int .i64 x4), (Value.int .i64 x5), (Value.int .i64 x6), (Value.slice none 0 0), (Value.int .i64 x7), (Value.int .i64 x8), (Value.int .i64 x9), (Value.int .i64 x10)] 26 false 1))] (dataK k)
theorem nrFRn3_text (C : Ct) (L : AtLoop) (s0 : ByteArray) (x1 : Int) (x2 : Int) (x3 : Int) (x4 : Int) (x5 : Int) (x6 : Int) (x7 : Int) (x8 : Int) (x9 : Int) (x10 : Int) (k : List D → Prop) : nrFRn3 C L s0 x1 x2 x3 x4 x5 x6 x7 x8 x9 x10 k =
 (L 2 [(Prod.mk 1 (Pt 1000 0)), (Prod.mk 4 (Value.string (s0))), (Prod.mk 6 (vI 0))] [(Prod.mk 1000 (AObj.cells [(vI x1), (vI x2), (vI x3), (vI x4), (vI x5), (vI x6), (Value.slice none 0 0), (vI x7), (vI x8), (vI x9), (vI x10)] 26 false 1))]) := by kernel_rfl
abbrev zrFRn4 (n0 : Nat) (s1 : ByteArray) (x2 : Int) (x3 : Int) (x4 : Int) (x5 : Int) (x6 : Int) (x7 : Int) (x8 : Int) (x9 : Int) (x10 : Int) (x11 : Int) (x12 : Int) (x13 : Int) (x14 : Int) (x15 : Int) (x16 : Int) (x17 : Int) (x18 : Int) (x19 : Int) (x20 : Int) (x21 : Int) : Slots × Blocks := ([(1, (Value.pointer (some ⟨1000, 0, none⟩))), (3, (Value.slice (some ⟨1001, 0, none⟩) n0 n0)), (4, (Value.string s1)), (5, (Value.int .i64 (2)))], [(1000, (AObj.cells [(Value.int .i64 x2), (Value.int .i64 x3), (Value.int .i64 x4), (Value.int .i64 x5), (Value.int .i64 x6), (Value.int .i64 x7), (Value.slice none 0 0), (Value.int .i64 x8), (Value.int .i64 x9), (Value.int .i64 x10), (Value.int .i64 x11)] 26 false 1)), (1001, (AObj.cells [(Value.int .i64 x12), (Value.int .i64 x13), (Value.int .i64 x14), (Value.int .i64 x15), (Value.int .i64 x16), (Value.int .i64 x17), (Value.int .i64 x18), (Value.int .i64 x19), (Value.int .i64 x20), (Value.int .i64 x21)] 3 false 1))])
def rrFRn4 (C : Ct) (L : AtLoop) (n0 : Nat) (s1 : ByteArray) (x2 : Int) (x3 : Int) (x4 : Int) (x5 : Int) (x6 : Int) (x7 : Int) (x8 : Int) (x9 : Int) (x10 : Int) (x11 : Int) (x12 : Int) (x13 : Int) (x14 : Int) (x15 : Int) (x16 : Int) (x17 : Int) (x18 : Int) (x19 : Int) (x20 : Int) (x21 : Int) (B : Bx) (X : Xx) (k : List D → Prop) : Prop := wpRound Tryz.prog (hX C) L 12 0 [(1, (Value.pointer (some ⟨1000, 0, none⟩))), (3, (Value.slice (some ⟨1001, 0, none⟩) n0 n0)), (4, (Value.string s1)), (5, (Value.int .i64 (2)))] [(1000, (AObj.cells [(Value.int .i64 x2), (Value.int .i64 x3), (Value.int .i64 x4), (Value.int .i64 x5), (Value.int .i64 x6), (Value.int .i64 x7), (Value.slice none 0 0), (Value.int .i64 x8), (Value.int .i64 x9), (Value.int .i64 x10), (Value.int .i64 x11)] 26 false 1)), (1001, (AObj.cells [(Value.int .i64 x12), (Value.int .i64 x13), (Value.int .i64 x14), (Value.int .i64 x15), (Value.int .i64 x16), (Value.int .i64 x17), (Value.int .i64 x18), (Value.int .i64 x19), (Value.int .i64 x20), (Value.int .i64 x21)] 3 false 1))] B X (dataK k)
theorem rrFRn4_text (C : Ct) (L : AtLoop) (n0 : Nat) (s1 : ByteArray) (x2 : Int) (x3 : Int) (x4 : Int) (x5 : Int) (x6 : Int) (x7 : Int) (x8 : Int) (x9 : Int) (x10 : Int) (x11 : Int) (x12 : Int) (x13 : Int) (x14 : Int) (x15 : Int) (x16 : Int) (x17 : Int) (x18 : Int) (x19 : Int) (x20 : Int) (x21 : Int) (B : Bx) (X : Xx) (k : List D → Prop) : rrFRn4 C L n0 s1 x2 x3 x4 x5 x6 x7 x8 x9 x10 x11 x12 x13 x14 x15 x16 x17 x18 x19 x20 x21 B X k =
 (bcase (decide (2 < (↑n0 : Int)))
 (bcase (decide (ByteArray.size s1 + 1 ≤ 9223372036854775807))
 (bcase (decide (2 < (↑n0 : Int)))
 (∃ s2 : ByteArray,
 ((Says C 38 [(D.val (vI x14))] [(D.val (Value.string (s2)))]) ∧
 (bcase (decide (ByteArray.size (s1 ++ { data := #[32] }) + ByteArray.size s2 ≤ 9223372036854775807))
 (B [(Prod.mk 1 (Pt 1000 0)), (Prod.mk 3 (Sl 1001 (n0) (n0))), (Prod.mk 4 (Value.string (s1 ++ { data := #[32] } ++ s2))), (Prod.mk 5 (vI 3))] [(Prod.mk 1000 (AObj.cells [(vI x2), (vI x3), (vI x4), (vI x5), (vI x6), (vI x7), (Value.slice none 0 0), (vI x8), (vI x9), (vI x10), (vI x11)] 26 false 1)), (Prod.mk 1001 (AObj.cells [(vI x12), (vI x13), (vI x14), (vI x15), (vI x16), (vI x17), (vI x18), (vI x19), (vI x20), (vI x21)] 3 false 1))])
 False)))
 False)
 False)
 (X 0 [(Prod.mk 1 (Pt 1000 0)), (Prod.mk 4 (Value.string (s1)))] [(Prod.mk 1000 (AObj.cells [(vI x2), (vI x3), (vI x4), (vI x5), (vI x6), (vI x7), (Value.slice none 0 0), (vI x8), (vI x9), (vI x10), (vI x11)] 26 false 1))])) := by kernel_rfl
abbrev zrFRn5 (s0 : ByteArray) (x1 : Int) (x2 : Int) (x3 : Int) (x4 : Int) (x5 : Int) (x6 : Int) (x7 : Int) (x8 : Int) (x9 : Int) (x10 : Int) (x11 : Int) : Slots × Blocks := ([(1, (Value.pointer (some ⟨1000, 0, none⟩))), (4, (Value.string s0)), (6, (Value.int .i64 x1))], [(1000, (AObj.cells [(Value.int .i64 x2), (Value.int .i64 x3), (Value.int .i64 x4), (Value.int .i64 x5), (Value.int .i64 x6), (Value.int .i64 x7), (Value.slice none 0 0), (Value.int .i64 x8), (Value.int .i64 x9), (Value.int .i64 x10), (Value.int .i64 x11)] 26 false 1))])
def rrFRn5 (C : Ct) (L : AtLoop) (s0 : ByteArray) (x1 : Int) (x2 : Int) (x3 : Int) (x4 : Int) (x5 : Int) (x6 : Int) (x7 : Int) (x8 : Int) (x9 : Int) (x10 : Int) (x11 : Int) (B : Bx) (X : Xx) (k : List D → Prop) : Prop := wpRound Tryz.prog (hX C) L 12 2 [(1, (Value.pointer (some ⟨1000, 0, none⟩))), (4, (Value.string s0)), (6, (Value.int .i64 x1))] [(1000, (AObj.cells [(Value.int .i64 x2), (Value.int .i64 x3), (Value.int .i64 x4), (Value.int .i64 x5), (Value.int .i64 x6), (Value.int .i64 x7), (Value.slice none 0 0), (Value.int .i64 x8), (Value.int .i64 x9), (Value.int .i64 x10), (Value.int .i64 x11)] 26 false 1))] B X (dataK k)
theorem rrFRn5_text (C : Ct) (L : AtLoop) (s0 : ByteArray) (x1 : Int) (x2 : Int) (x3 : Int) (x4 : Int) (x5 : Int) (x6 : Int) (x7 : Int) (x8 : Int) (x9 : Int) (x10 : Int) (x11 : Int) (B : Bx) (X : Xx) (k : List D → Prop) : rrFRn5 C L s0 x1 x2 x3 x4 x5 x6 x7 x8 x9 x10 x11 B X k =
 (bcase (decide (x1 < (↑0 : Int)))
 False
 (X 2 [(Prod.mk 4 (Value.string (s0)))] [])) := by kernel_rfl
abbrev zrFRn6 (n0 : Nat) (s1 : ByteArray) (x2 : Int) (x3 : Int) (x4 : Int) (x5 : Int) (x6 : Int) (x7 : Int) (x8 : Int) (x9 : Int) (x10 : Int) (x11 : Int) (x12 : Int) (x13 : Int) (x14 : Int) (x15 : Int) (x16 : Int) (x17 : Int) (x18 : Int) (x19 : Int) (x20 : Int) (x21 : Int) : Slots × Blocks := ([(1, (Value.pointer (some ⟨1000, 0, none⟩))), (3, (Value.slice (some ⟨1001, 0, none⟩) n0 n0)), (4, (Value.string s1)), (5, (Value.int .i64 (3)))], [(1000, (AObj.cells [(Value.int .i64 x2), (Value.int .i64 x3), (Value.int .i64 x4), (Value.int .i64 x5), (Value.int .i64 x6), (Value.int .i64 x7), (Value.slice none 0 0), (Value.int .i64 x8), (Value.int .i64 x9), (Value.int .i64 x10), (Value.int .i64 x11)] 26 false 1)), (1001, (AObj.cells [(Value.int .i64 x12), (Value.int .i64 x13), (Value.int .i64 x14), (Value.int .i64 x15), (Value.int .i64 x16), (Value.int .i64 x17), (Value.int .i64 x18), (Value.int .i64 x19), (Value.int .i64 x20), (Value.int .i64 x21)] 3 false 1))])
def rrFRn6 (C : Ct) (L : AtLoop) (n0 : Nat) (s1 : ByteArray) (x2 : Int) (x3 : Int) (x4 : Int) (x5 : Int) (x6 : Int) (x7 : Int) (x8 : Int) (x9 : Int) (x10 : Int) (x11 : Int) (x12 : Int) (x13 : Int) (x14 : Int) (x15 : Int) (x16 : Int) (x17 : Int) (x18 : Int) (x19 : Int) (x20 : Int) (x21 : Int) (B : Bx) (X : Xx) (k : List D → Prop) : Prop := wpRound Tryz.prog (hX C) L 12 0 [(1, (Value.pointer (some ⟨1000, 0, none⟩))), (3, (Value.slice (some ⟨1001, 0, none⟩) n0 n0)), (4, (Value.string s1)), (5, (Value.int .i64 (3)))] [(1000, (AObj.cells [(Value.int .i64 x2), (Value.int .i64 x3), (Value.int .i64 x4), (Value.int .i64 x5), (Value.int .i64 x6), (Value.int .i64 x7), (Value.slice none 0 0), (Value.int .i64 x8), (Value.int .i64 x9), (Value.int .i64 x10), (Value.int .i64 x11)] 26 false 1)), (1001, (AObj.cells [(Value.int .i64 x12), (Value.int .i64 x13), (Value.int .i64 x14), (Value.int .i64 x15), (Value.int .i64 x16), (Value.int .i64 x17), (Value.int .i64 x18), (Value.int .i64 x19), (Value.int .i64 x20), (Value.int .i64 x21)] 3 false 1))] B X (dataK k)
theorem rrFRn6_text (C : Ct) (L : AtLoop) (n0 : Nat) (s1 : ByteArray) (x2 : Int) (x3 : Int) (x4 : Int) (x5 : Int) (x6 : Int) (x7 : Int) (x8 : Int) (x9 : Int) (x10 : Int) (x11 : Int) (x12 : Int) (x13 : Int) (x14 : Int) (x15 : Int) (x16 : Int) (x17 : Int) (x18 : Int) (x19 : Int) (x20 : Int) (x21 : Int) (B : Bx) (X : Xx) (k : List D → Prop) : rrFRn6 C L n0 s1 x2 x3 x4 x5 x6 x7 x8 x9 x10 x11 x12 x13 x14 x15 x16 x17 x18 x19 x20 x21 B X k =
 (bcase (decide (3 < (↑n0 : Int)))
 (bcase (decide (ByteArray.size s1 + 1 ≤ 9223372036854775807))
 (bcase (decide (3 < (↑n0 : Int)))
 (∃ s2 : ByteArray,
 ((Says C 38 [(D.val (vI x15))] [(D.val (Value.string (s2)))]) ∧
 (bcase (decide (ByteArray.size (s1 ++ { data := #[32] }) + ByteArray.size s2 ≤ 9223372036854775807))
 (B [(Prod.mk 1 (Pt 1000 0)), (Prod.mk 3 (Sl 1001 (n0) (n0))), (Prod.mk 4 (Value.string (s1 ++ { data := #[32] } ++ s2))), (Prod.mk 5 (vI 4))] [(Prod.mk 1000 (AObj.cells [(vI x2), (vI x3), (vI x4), (vI x5), (vI x6), (vI x7), (Value.slice none 0 0), (vI x8), (vI x9), (vI x10), (vI x11)] 26 false 1)), (Prod.mk 1001 (AObj.cells [(vI x12), (vI x13), (vI x14), (vI x15), (vI x16), (vI x17), (vI x18), (vI x19), (vI x20), (vI x21)] 3 false 1))])
 False)))
 False)
 False)
 (X 0 [(Prod.mk 1 (Pt 1000 0)), (Prod.mk 4 (Value.string (s1)))] [(Prod.mk 1000 (AObj.cells [(vI x2), (vI x3), (vI x4), (vI x5), (vI x6), (vI x7), (Value.slice none 0 0), (vI x8), (vI x9), (vI x10), (vI x11)] 26 false 1))])) := by kernel_rfl
def nrFRn7 (C : Ct) (L : AtLoop) (s0 : ByteArray) (k : List D → Prop) : Prop := wpNext Tryz.prog (hX C) L 12 2 .normal [(4, (Value.string s0))] [] (dataK k)
theorem nrFRn7_text (C : Ct) (L : AtLoop) (s0 : ByteArray) (k : List D → Prop) : nrFRn7 C L s0 k =
 (k [(D.val (Value.string (s0)))]) := by kernel_rfl
abbrev zrFRn8 (n0 : Nat) (s1 : ByteArray) (x2 : Int) (x3 : Int) (x4 : Int) (x5 : Int) (x6 : Int) (x7 : Int) (x8 : Int) (x9 : Int) (x10 : Int) (x11 : Int) (x12 : Int) (x13 : Int) (x14 : Int) (x15 : Int) (x16 : Int) (x17 : Int) (x18 : Int) (x19 : Int) (x20 : Int) (x21 : Int) : Slots × Blocks := ([(1, (Value.pointer (some ⟨1000, 0, none⟩))), (3, (Value.slice (some ⟨1001, 0, none⟩) n0 n0)), (4, (Value.string s1)), (5, (Value.int .i64 (4)))], [(1000, (AObj.cells [(Value.int .i64 x2), (Value.int .i64 x3), (Value.int .i64 x4), (Value.int .i64 x5), (Value.int .i64 x6), (Value.int .i64 x7), (Value.slice none 0 0), (Value.int .i64 x8), (Value.int .i64 x9), (Value.int .i64 x10), (Value.int .i64 x11)] 26 false 1)), (1001, (AObj.cells [(Value.int .i64 x12), (Value.int .i64 x13), (Value.int .i64 x14), (Value.int .i64 x15), (Value.int .i64 x16), (Value.int .i64 x17), (Value.int .i64 x18), (Value.int .i64 x19), (Value.int .i64 x20), (Value.int .i64 x21)] 3 false 1))])
def rrFRn8 (C : Ct) (L : AtLoop) (n0 : Nat) (s1 : ByteArray) (x2 : Int) (x3 : Int) (x4 : Int) (x5 : Int) (x6 : Int) (x7 : Int) (x8 : Int) (x9 : Int) (x10 : Int) (x11 : Int) (x12 : Int) (x13 : Int) (x14 : Int) (x15 : Int) (x16 : Int) (x17 : Int) (x18 : Int) (x19 : Int) (x20 : Int) (x21 : Int) (B : Bx) (X : Xx) (k : List D → Prop) : Prop := wpRound Tryz.prog (hX C) L 12 0 [(1, (Value.pointer (some ⟨1000, 0, none⟩))), (3, (Value.slice (some ⟨1001, 0, none⟩) n0 n0)), (4, (Value.string s1)), (5, (Value.int .i64 (4)))] [(1000, (AObj.cells [(Value.int .i64 x2), (Value.int .i64 x3), (Value.int .i64 x4), (Value.int .i64 x5), (Value.int .i64 x6), (Value.int .i64 x7), (Value.slice none 0 0), (Value.int .i64 x8), (Value.int .i64 x9), (Value.int .i64 x10), (Value.int .i64 x11)] 26 false 1)), (1001, (AObj.cells [(Value.int .i64 x12), (Value.int .i64 x13), (Value.int .i64 x14), (Value.int .i64 x15), (Value.int .i64 x16), (Value.int .i64 x17), (Value.int .i64 x18), (Value.int .i64 x19), (Value.int .i64 x20), (Value.int .i64 x21)] 3 false 1))] B X (dataK k)
theorem rrFRn8_text (C : Ct) (L : AtLoop) (n0 : Nat) (s1 : ByteArray) (x2 : Int) (x3 : Int) (x4 : Int) (x5 : Int) (x6 : Int) (x7 : Int) (x8 : Int) (x9 : Int) (x10 : Int) (x11 : Int) (x12 : Int) (x13 : Int) (x14 : Int) (x15 : Int) (x16 : Int) (x17 : Int) (x18 : Int) (x19 : Int) (x20 : Int) (x21 : Int) (B : Bx) (X : Xx) (k : List D → Prop) : rrFRn8 C L n0 s1 x2 x3 x4 x5 x6 x7 x8 x9 x10 x11 x12 x13 x14 x15 x16 x17 x18 x19 x20 x21 B X k =
 (bcase (decide (4 < (↑n0 : Int)))
 (bcase (decide (ByteArray.size s1 + 1 ≤ 9223372036854775807))
 (bcase (decide (4 < (↑n0 : Int)))
 (∃ s2 : ByteArray,
 ((Says C 38 [(D.val (vI x16))] [(D.val (Value.string (s2)))]) ∧
 (bcase (decide (ByteArray.size (s1 ++ { data := #[32] }) + ByteArray.size s2 ≤ 9223372036854775807))
 (B [(Prod.mk 1 (Pt 1000 0)), (Prod.mk 3 (Sl 1001 (n0) (n0))), (Prod.mk 4 (Value.string (s1 ++ { data := #[32] } ++ s2))), (Prod.mk 5 (vI 5))] [(Prod.mk 1000 (AObj.cells [(vI x2), (vI x3), (vI x4), (vI x5), (vI x6), (vI x7), (Value.slice none 0 0), (vI x8), (vI x9), (vI x10), (vI x11)] 26 false 1)), (Prod.mk 1001 (AObj.cells [(vI x12), (vI x13), (vI x14), (vI x15), (vI x16), (vI x17), (vI x18), (vI x19), (vI x20), (vI x21)] 3 false 1))])
 False)))
 False)
 False)
 (X 0 [(Prod.mk 1 (Pt 1000 0)), (Prod.mk 4 (Value.string (s1)))] [(Prod.mk 1000 (AObj.cells [(vI x2), (vI x3), (vI x4), (vI x5), (vI x6), (vI x7), (Value.slice none 0 0), (vI x8), (vI x9), (vI x10), (vI x11)] 26 false 1))])) := by kernel_rfl
abbrev zrFRn9 (n0 : Nat) (s1 : ByteArray) (x2 : Int) (x3 : Int) (x4 : Int) (x5 : Int) (x6 : Int) (x7 : Int) (x8 : Int) (x9 : Int) (x10 : Int) (x11 : Int) (x12 : Int) (x13 : Int) (x14 : Int) (x15 : Int) (x16 : Int) (x17 : Int) (x18 : Int) (x19 : Int) (x20 : Int) (x21 : Int) : Slots × Blocks := ([(1, (Value.pointer (some ⟨1000, 0, none⟩))), (3, (Value.slice (some ⟨1001, 0, none⟩) n0 n0)), (4, (Value.string s1)), (5, (Value.int .i64 (5)))], [(1000, (AObj.cells [(Value.int .i64 x2), (Value.int .i64 x3), (Value.int .i64 x4), (Value.int .i64 x5), (Value.int .i64 x6), (Value.int .i64 x7), (Value.slice none 0 0), (Value.int .i64 x8), (Value.int .i64 x9), (Value.int .i64 x10), (Value.int .i64 x11)] 26 false 1)), (1001, (AObj.cells [(Value.int .i64 x12), (Value.int .i64 x13), (Value.int .i64 x14), (Value.int .i64 x15), (Value.int .i64 x16), (Value.int .i64 x17), (Value.int .i64 x18), (Value.int .i64 x19), (Value.int .i64 x20), (Value.int .i64 x21)] 3 false 1))])
def rrFRn9 (C : Ct) (L : AtLoop) (n0 : Nat) (s1 : ByteArray) (x2 : Int) (x3 : Int) (x4 : Int) (x5 : Int) (x6 : Int) (x7 : Int) (x8 : Int) (x9 : Int) (x10 : Int) (x11 : Int) (x12 : Int) (x13 : Int) (x14 : Int) (x15 : Int) (x16 : Int) (x17 : Int) (x18 : Int) (x19 : Int) (x20 : Int) (x21 : Int) (B : Bx) (X : Xx) (k : List D → Prop) : Prop := wpRound Tryz.prog (hX C) L 12 0 [(1, (Value.pointer (some ⟨1000, 0, none⟩))), (3, (Value.slice (some ⟨1001, 0, none⟩) n0 n0)), (4, (Value.string s1)), (5, (Value.int .i64 (5)))] [(1000, (AObj.cells [(Value.int .i64 x2), (Value.int .i64 x3), (Value.int .i64 x4), (Value.int .i64 x5), (Value.int .i64 x6), (Value.int .i64 x7), (Value.slice none 0 0), (Value.int .i64 x8), (Value.int .i64 x9), (Value.int .i64 x10), (Value.int .i64 x11)] 26 false 1)), (1001, (AObj.cells [(Value.int .i64 x12), (Value.int .i64 x13), (Value.int .i64 x14), (Value.int .i64 x15), (Value.int .i64 x16), (Value.int .i64 x17), (Value.int .i64 x18), (Value.int .i64 x19), (Value.int .i64 x20), (Value.int .i64 x21)] 3 false 1))] B X (dataK k)
theorem rrFRn9_text (C : Ct) (L : AtLoop) (n0 : Nat) (s1 : ByteArray) (x2 : Int) (x3 : Int) (x4 : Int) (x5 : Int) (x6 : Int) (x7 : Int) (x8 : Int) (x9 : Int) (x10 : Int) (x11 : Int) (x12 : Int) (x13 : Int) (x14 : Int) (x15 : Int) (x16 : Int) (x17 : Int) (x18 : Int) (x19 : Int) (x20 : Int) (x21 : Int) (B : Bx) (X : Xx) (k : List D → Prop) : rrFRn9 C L n0 s1 x2 x3 x4 x5 x6 x7 x8 x9 x10 x11 x12 x13 x14 x15 x16 x17 x18 x19 x20 x21 B X k =
 (bcase (decide (5 < (↑n0 : Int)))
 (bcase (decide (ByteArray.size s1 + 1 ≤ 9223372036854775807))
 (bcase (decide (5 < (↑n0 : Int)))
 (∃ s2 : ByteArray,
 ((Says C 38 [(D.val (vI x17))] [(D.val (Value.string (s2)))]) ∧
 (bcase (decide (ByteArray.size (s1 ++ { data := #[32] }) + ByteArray.size s2 ≤ 9223372036854775807))
 (B [(Prod.mk 1 (Pt 1000 0)), (Prod.mk 3 (Sl 1001 (n0) (n0))), (Prod.mk 4 (Value.string (s1 ++ { data := #[32] } ++ s2))), (Prod.mk 5 (vI 6))] [(Prod.mk 1000 (AObj.cells [(vI x2), (vI x3), (vI x4), (vI x5), (vI x6), (vI x7), (Value.slice none 0 0), (vI x8), (vI x9), (vI x10), (vI x11)] 26 false 1)), (Prod.mk 1001 (AObj.cells [(vI x12), (vI x13), (vI x14), (vI x15), (vI x16), (vI x17), (vI x18), (vI x19), (vI x20), (vI x21)] 3 false 1))])
 False)))
 False)
 False)
 (X 0 [(Prod.mk 1 (Pt 1000 0)), (Prod.mk 4 (Value.string (s1)))] [(Prod.mk 1000 (AObj.cells [(vI x2), (vI x3), (vI x4), (vI x5), (vI x6), (vI x7), (Value.slice none 0 0), (vI x8), (vI x9), (vI x10), (vI x11)] 26 false 1))])) := by kernel_rfl
abbrev zrFRn10 (n0 : Nat) (s1 : ByteArray) (x2 : Int) (x3 : Int) (x4 : Int) (x5 : Int) (x6 : Int) (x7 : Int) (x8 : Int) (x9 : Int) (x10 : Int) (x11 : Int) (x12 : Int) (x13 : Int) (x14 : Int) (x15 : Int) (x16 : Int) (x17 : Int) (x18 : Int) (x19 : Int) (x20 : Int) (x21 : Int) : Slots × Blocks := ([(1, (Value.pointer (some ⟨1000, 0, none⟩))), (3, (Value.slice (some ⟨1001, 0, none⟩) n0 n0)), (4, (Value.string s1)), (5, (Value.int .i64 (6)))], [(1000, (AObj.cells [(Value.int .i64 x2), (Value.int .i64 x3), (Value.int .i64 x4), (Value.int .i64 x5), (Value.int .i64 x6), (Value.int .i64 x7), (Value.slice none 0 0), (Value.int .i64 x8), (Value.int .i64 x9), (Value.int .i64 x10), (Value.int .i64 x11)] 26 false 1)), (1001, (AObj.cells [(Value.int .i64 x12), (Value.int .i64 x13), (Value.int .i64 x14), (Value.int .i64 x15), (Value.int .i64 x16), (Value.int .i64 x17), (Value.int .i64 x18), (Value.int .i64 x19), (Value.int .i64 x20), (Value.int .i64 x21)] 3 false 1))])
def rrFRn10 (C : Ct) (L : AtLoop) (n0 : Nat) (s1 : ByteArray) (x2 : Int) (x3 : Int) (x4 : Int) (x5 : Int) (x6 : Int) (x7 : Int) (x8 : Int) (x9 : Int) (x10 : Int) (x11 : Int) (x12 : Int) (x13 : Int) (x14 : Int) (x15 : Int) (x16 : Int) (x17 : Int) (x18 : Int) (x19 : Int) (x20 : Int) (x21 : Int) (B : Bx) (X : Xx) (k : List D → Prop) : Prop := wpRound Tryz.prog (hX C) L 12 0 [(1, (Value.pointer (some ⟨1000, 0, none⟩))), (3, (Value.slice (some ⟨1001, 0, none⟩) n0 n0)), (4, (Value.string s1)), (5, (Value.int .i64 (6)))] [(1000, (AObj.cells [(Value.int .i64 x2), (Value.int .i64 x3), (Value.int .i64 x4), (Value.int .i64 x5), (Value.int .i64 x6), (Value.int .i64 x7), (Value.slice none 0 0), (Value.int .i64 x8), (Value.int .i64 x9), (Value.int .i64 x10), (Value.int .i64 x11)] 26 false 1)), (1001, (AObj.cells [(Value.int .i64 x12), (Value.int .i64 x13), (Value.int .i64 x14), (Value.int .i64 x15), (Value.int .i64 x16), (Value.int .i64 x17), (Value.int .i64 x18), (Value.int .i64 x19), (Value.int .i64 x20), (Value.int .i64 x21)] 3 false 1))] B X (dataK k)
theorem rrFRn10_text (C : Ct) (L : AtLoop) (n0 : Nat) (s1 : ByteArray) (x2 : Int) (x3 : Int) (x4 : Int) (x5 : Int) (x6 : Int) (x7 : Int) (x8 : Int) (x9 : Int) (x10 : Int) (x11 : Int) (x12 : Int) (x13 : Int) (x14 : Int) (x15 : Int) (x16 : Int) (x17 : Int) (x18 : Int) (x19 : Int) (x20 : Int) (x21 : Int) (B : Bx) (X : Xx) (k : List D → Prop) : rrFRn10 C L n0 s1 x2 x3 x4 x5 x6 x7 x8 x9 x10 x11 x12 x13 x14 x15 x16 x17 x18 x19 x20 x21 B X k =
 (bcase (decide (6 < (↑n0 : Int)))
 (bcase (decide (ByteArray.size s1 + 1 ≤ 9223372036854775807))
 (bcase (decide (6 < (↑n0 : Int)))
 (∃ s2 : ByteArray,
 ((Says C 38 [(D.val (vI x18))] [(D.val (Value.string (s2)))]) ∧
 (bcase (decide (ByteArray.size (s1 ++ { data := #[32] }) + ByteArray.size s2 ≤ 9223372036854775807))
 (B [(Prod.mk 1 (Pt 1000 0)), (Prod.mk 3 (Sl 1001 (n0) (n0))), (Prod.mk 4 (Value.string (s1 ++ { data := #[32] } ++ s2))), (Prod.mk 5 (vI 7))] [(Prod.mk 1000 (AObj.cells [(vI x2), (vI x3), (vI x4), (vI x5), (vI x6), (vI x7), (Value.slice none 0 0), (vI x8), (vI x9), (vI x10), (vI x11)] 26 false 1)), (Prod.mk 1001 (AObj.cells [(vI x12), (vI x13), (vI x14), (vI x15), (vI x16), (vI x17), (vI x18), (vI x19), (vI x20), (vI x21)] 3 false 1))])
 False)))
 False)
 False)
 (X 0 [(Prod.mk 1 (Pt 1000 0)), (Prod.mk 4 (Value.string (s1)))] [(Prod.mk 1000 (AObj.cells [(vI x2), (vI x3), (vI x4), (vI x5), (vI x6), (vI x7), (Value.slice none 0 0), (vI x8), (vI x9), (vI x10), (vI x11)] 26 false 1))])) := by kernel_rfl
abbrev zrFRn11 (n0 : Nat) (s1 : ByteArray) (x2 : Int) (x3 : Int) (x4 : Int) (x5 : Int) (x6 : Int) (x7 : Int) (x8 : Int) (x9 : Int) (x10 : Int) (x11 : Int) (x12 : Int) (x13 : Int) (x14 : Int) (x15 : Int) (x16 : Int) (x17 : Int) (x18 : Int) (x19 : Int) (x20 : Int) (x21 : Int) : Slots × Blocks := ([(1, (Value.pointer (some ⟨1000, 0, none⟩))), (3, (Value.slice (some ⟨1001, 0, none⟩) n0 n0)), (4, (Value.string s1)), (5, (Value.int .i64 (7)))], [(1000, (AObj.cells [(Value.int .i64 x2), (Value.int .i64 x3), (Value.int .i64 x4), (Value.int .i64 x5), (Value.int .i64 x6), (Value.int .i64 x7), (Value.slice none 0 0), (Value.int .i64 x8), (Value.int .i64 x9), (Value.int .i64 x10), (Value.int .i64 x11)] 26 false 1)), (1001, (AObj.cells [(Value.int .i64 x12), (Value.int .i64 x13), (Value.int .i64 x14), (Value.int .i64 x15), (Value.int .i64 x16), (Value.int .i64 x17), (Value.int .i64 x18), (Value.int .i64 x19), (Value.int .i64 x20), (Value.int .i64 x21)] 3 false 1))])
def rrFRn11 (C : Ct) (L : AtLoop) (n0 : Nat) (s1 : ByteArray) (x2 : Int) (x3 : Int) (x4 : Int) (x5 : Int) (x6 : Int) (x7 : Int) (x8 : Int) (x9 : Int) (x10 : Int) (x11 : Int) (x12 : Int) (x13 : Int) (x14 : Int) (x15 : Int) (x16 : Int) (x17 : Int) (x18 : Int) (x19 : Int) (x20 : Int) (x21 : Int) (B : Bx) (X : Xx) (k : List D → Prop) : Prop := wpRound Tryz.prog (hX C) L 12 0 [(1, (Value.pointer (some ⟨1000, 0, none⟩))), (3, (Value.slice (some ⟨1001, 0, none⟩) n0 n0)), (4, (Value.string s1)), (5, (Value.int .i64 (7)))] [(1000, (AObj.cells [(Value.int .i64 x2), (Value.int .i64 x3), (Value.int .i64 x4), (Value.int .i64 x5), (Value.int .i64 x6), (Value.int .i64 x7), (Value.slice none 0 0), (Value.int .i64 x8), (Value.int .i64 x9), (Value.int .i64 x10), (Value.int .i64 x11)] 26 false 1)), (1001, (AObj.cells [(Value.int .i64 x12), (Value.int .i64 x13), (Value.int .i64 x14), (Value.int .i64 x15), (Value.int .i64 x16), (Value.int .i64 x17), (Value.int .i64 x18), (Value.int .i64 x19), (Value.int .i64 x20), (Value.int .i64 x21)] 3 false 1))] B X (dataK k)
theorem rrFRn11_text (C : Ct) (L : AtLoop) (n0 : Nat) (s1 : ByteArray) (x2 : Int) (x3 : Int) (x4 : Int) (x5 : Int) (x6 : Int) (x7 : Int) (x8 : Int) (x9 : Int) (x10 : Int) (x11 : Int) (x12 : Int) (x13 : Int) (x14 : Int) (x15 : Int) (x16 : Int) (x17 : Int) (x18 : Int) (x19 : Int) (x20 : Int) (x21 : Int) (B : Bx) (X : Xx) (k : List D → Prop) : rrFRn11 C L n0 s1 x2 x3 x4 x5 x6 x7 x8 x9 x10 x11 x12 x13 x14 x15 x16 x17 x18 x19 x20 x21 B X k =
 (bcase (decide (7 < (↑n0 : Int)))
 (bcase (decide (ByteArray.size s1 + 1 ≤ 9223372036854775807))
 (bcase (decide (7 < (↑n0 : Int)))
 (∃ s2 : ByteArray,
 ((Says C 38 [(D.val (vI x19))] [(D.val (Value.string (s2)))]) ∧
 (bcase (decide (ByteArray.size (s1 ++ { data := #[32] }) + ByteArray.size s2 ≤ 9223372036854775807))
 (B [(Prod.mk 1 (Pt 1000 0)), (Prod.mk 3 (Sl 1001 (n0) (n0))), (Prod.mk 4 (Value.string (s1 ++ { data := #[32] } ++ s2))), (Prod.mk 5 (vI 8))] [(Prod.mk 1000 (AObj.cells [(vI x2), (vI x3), (vI x4), (vI x5), (vI x6), (vI x7), (Value.slice none 0 0), (vI x8), (vI x9), (vI x10), (vI x11)] 26 false 1)), (Prod.mk 1001 (AObj.cells [(vI x12), (vI x13), (vI x14), (vI x15), (vI x16), (vI x17), (vI x18), (vI x19), (vI x20), (vI x21)] 3 false 1))])
 False)))
 False)
 False)
 (X 0 [(Prod.mk 1 (Pt 1000 0)), (Prod.mk 4 (Value.string (s1)))] [(Prod.mk 1000 (AObj.cells [(vI x2), (vI x3), (vI x4), (vI x5), (vI x6), (vI x7), (Value.slice none 0 0), (vI x8), (vI x9), (vI x10), (vI x11)] 26 false 1))])) := by kernel_rfl
abbrev zrFRn12 (n0 : Nat) (s1 : ByteArray) (x2 : Int) (x3 : Int) (x4 : Int) (x5 : Int) (x6 : Int) (x7 : Int) (x8 : Int) (x9 : Int) (x10 : Int) (x11 : Int) (x12 : Int) (x13 : Int) (x14 : Int) (x15 : Int) (x16 : Int) (x17 : Int) (x18 : Int) (x19 : Int) (x20 : Int) (x21 : Int) : Slots × Blocks := ([(1, (Value.pointer (some ⟨1000, 0, none⟩))), (3, (Value.slice (some ⟨1001, 0, none⟩) n0 n0)), (4, (Value.string s1)), (5, (Value.int .i64 (8)))], [(1000, (AObj.cells [(Value.int .i64 x2), (Value.int .i64 x3), (Value.int .i64 x4), (Value.int .i64 x5), (Value.int .i64 x6), (Value.int .i64 x7), (Value.slice none 0 0), (Value.int .i64 x8), (Value.int .i64 x9), (Value.int .i64 x10), (Value.int .i64 x11)] 26 false 1)), (1001, (AObj.cells [(Value.int .i64 x12), (Value.int .i64 x13), (Value.int .i64 x14), (Value.int .i64 x15), (Value.int .i64 x16), (Value.int .i64 x17), (Value.int .i64 x18), (Value.int .i64 x19), (Value.int .i64 x20), (Value.int .i64 x21)] 3 false 1))])
def rrFRn12 (C : Ct) (L : AtLoop) (n0 : Nat) (s1 : ByteArray) (x2 : Int) (x3 : Int) (x4 : Int) (x5 : Int) (x6 : Int) (x7 : Int) (x8 : Int) (x9 : Int) (x10 : Int) (x11 : Int) (x12 : Int) (x13 : Int) (x14 : Int) (x15 : Int) (x16 : Int) (x17 : Int) (x18 : Int) (x19 : Int) (x20 : Int) (x21 : Int) (B : Bx) (X : Xx) (k : List D → Prop) : Prop := wpRound Tryz.prog (hX C) L 12 0 [(1, (Value.pointer (some ⟨1000, 0, none⟩))), (3, (Value.slice (some ⟨1001, 0, none⟩) n0 n0)), (4, (Value.string s1)), (5, (Value.int .i64 (8)))] [(1000, (AObj.cells [(Value.int .i64 x2), (Value.int .i64 x3), (Value.int .i64 x4), (Value.int .i64 x5), (Value.int .i64 x6), (Value.int .i64 x7), (Value.slice none 0 0), (Value.int .i64 x8), (Value.int .i64 x9), (Value.int .i64 x10), (Value.int .i64 x11)] 26 false 1)), (1001, (AObj.cells [(Value.int .i64 x12), (Value.int .i64 x13), (Value.int .i64 x14), (Value.int .i64 x15), (Value.int .i64 x16), (Value.int .i64 x17), (Value.int .i64 x18), (Value.int .i64 x19), (Value.int .i64 x20), (Value.int .i64 x21)] 3 false 1))] B X (dataK k)
theorem rrFRn12_text (C : Ct) (L : AtLoop) (n0 : Nat) (s1 : ByteArray) (x2 : Int) (x3 : Int) (x4 : Int) (x5 : Int) (x6 : Int) (x7 : Int) (x8 : Int) (x9 : Int) (x10 : Int) (x11 : Int) (x12 : Int) (x13 : Int) (x14 : Int) (x15 : Int) (x16 : Int) (x17 : Int) (x18 : Int) (x19 : Int) (x20 : Int) (x21 : Int) (B : Bx) (X : Xx) (k : List D → Prop) : rrFRn12 C L n0 s1 x2 x3 x4 x5 x6 x7 x8 x9 x10 x11 x12 x13 x14 x15 x16 x17 x18 x19 x20 x21 B X k =
 (bcase (decide (8 < (↑n0 : Int)))
 (bcase (decide (ByteArray.size s1 + 1 ≤ 9223372036854775807))
 (bcase (decide (8 < (↑n0 : Int)))
 (∃ s2 : ByteArray,
 ((Says C 38 [(D.val (vI x20))] [(D.val (Value.string (s2)))]) ∧
 (bcase (decide (ByteArray.size (s1 ++ { data := #[32] }) + ByteArray.size s2 ≤ 9223372036854775807))
 (B [(Prod.mk 1 (Pt 1000 0)), (Prod.mk 3 (Sl 1001 (n0) (n0))), (Prod.mk 4 (Value.string (s1 ++ { data := #[32] } ++ s2))), (Prod.mk 5 (vI 9))] [(Prod.mk 1000 (AObj.cells [(vI x2), (vI x3), (vI x4), (vI x5), (vI x6), (vI x7), (Value.slice none 0 0), (vI x8), (vI x9), (vI x10), (vI x11)] 26 false 1)), (Prod.mk 1001 (AObj.cells [(vI x12), (vI x13), (vI x14), (vI x15), (vI x16), (vI x17), (vI x18), (vI x19), (vI x20), (vI x21)] 3 false 1))])
 False)))
 False)
 False)
 (X 0 [(Prod.mk 1 (Pt 1000 0)), (Prod.mk 4 (Value.string (s1)))] [(Prod.mk 1000 (AObj.cells [(vI x2), (vI x3), (vI x4), (vI x5), (vI x6), (vI x7), (Value.slice none 0 0), (vI x8), (vI x9), (vI x10), (vI x11)] 26 false 1))])) := by kernel_rfl
abbrev zrFRn13 (n0 : Nat) (s1 : ByteArray) (x2 : Int) (x3 : Int) (x4 : Int) (x5 : Int) (x6 : Int) (x7 : Int) (x8 : Int) (x9 : Int) (x10 : Int) (x11 : Int) (x12 : Int) (x13 : Int) (x14 : Int) (x15 : Int) (x16 : Int) (x17 : Int) (x18 : Int) (x19 : Int) (x20 : Int) (x21 : Int) : Slots × Blocks := ([(1, (Value.pointer (some ⟨1000, 0, none⟩))), (3, (Value.slice (some ⟨1001, 0, none⟩) n0 n0)), (4, (Value.string s1)), (5, (Value.int .i64 (9)))], [(1000, (AObj.cells [(Value.int .i64 x2), (Value.int .i64 x3), (Value.int .i64 x4), (Value.int .i64 x5), (Value.int .i64 x6), (Value.int .i64 x7), (Value.slice none 0 0), (Value.int .i64 x8), (Value.int .i64 x9), (Value.int .i64 x10), (Value.int .i64 x11)] 26 false 1)), (1001, (AObj.cells [(Value.int .i64 x12), (Value.int .i64 x13), (Value.int .i64 x14), (Value.int .i64 x15), (Value.int .i64 x16), (Value.int .i64 x17), (Value.int .i64 x18), (Value.int .i64 x19), (Value.int .i64 x20), (Value.int .i64 x21)] 3 false 1))])
def rrFRn13 (C : Ct) (L : AtLoop) (n0 : Nat) (s1 : ByteArray) (x2 : Int) (x3 : Int) (x4 : Int) (x5 : Int) (x6 : Int) (x7 : Int) (x8 : Int) (x9 : Int) (x10 : Int) (x11 : Int) (x12 : Int) (x13 : Int) (x14 : Int) (x15 : Int) (x16 : Int) (x17 : Int) (x18 : Int) (x19 : Int) (x20 : Int) (x21 : Int) (B : Bx) (X : Xx) (k : List D → Prop) : Prop := wpRound Tryz.prog (hX C) L 12 0 [(1, (Value.pointer (some ⟨1000, 0, none⟩))), (3, (Value.slice (some ⟨1001, 0, none⟩) n0 n0)), (4, (Value.string s1)), (5, (Value.int .i64 (9)))] [(1000, (AObj.cells [(Value.int .i64 x2), (Value.int .i64 x3), (Value.int .i64 x4), (Value.int .i64 x5), (Value.int .i64 x6), (Value.int .i64 x7), (Value.slice none 0 0), (Value.int .i64 x8), (Value.int .i64 x9), (Value.int .i64 x10), (Value.int .i64 x11)] 26 false 1)), (1001, (AObj.cells [(Value.int .i64 x12), (Value.int .i64 x13), (Value.int .i64 x14), (Value.int .i64 x15), (Value.int .i64 x16), (Value.int .i64 x17), (Value.int .i64 x18), (Value.int .i64 x19), (Value.int .i64 x20), (Value.int .i64 x21)] 3 false 1))] B X (dataK k)
theorem rrFRn13_text (C : Ct) (L : AtLoop) (n0 : Nat) (s1 : ByteArray) (x2 : Int) (x3 : Int) (x4 : Int) (x5 : Int) (x6 : Int) (x7 : Int) (x8 : Int) (x9 : Int) (x10 : Int) (x11 : Int) (x12 : Int) (x13 : Int) (x14 : Int) (x15 : Int) (x16 : Int) (x17 : Int) (x18 : Int) (x19 : Int) (x20 : Int) (x21 : Int) (B : Bx) (X : Xx) (k : List D → Prop) : rrFRn13 C L n0 s1 x2 x3 x4 x5 x6 x7 x8 x9 x10 x11 x12 x13 x14 x15 x16 x17 x18 x19 x20 x21 B X k =
 (bcase (decide (9 < (↑n0 : Int)))
 (bcase (decide (ByteArray.size s1 + 1 ≤ 9223372036854775807))
 (bcase (decide (9 < (↑n0 : Int)))
 (∃ s2 : ByteArray,
 ((Says C 38 [(D.val (vI x21))] [(D.val (Value.string (s2)))]) ∧
 (bcase (decide (ByteArray.size (s1 ++ { data := #[32] }) + ByteArray.size s2 ≤ 9223372036854775807))
 (B [(Prod.mk 1 (Pt 1000 0)), (Prod.mk 3 (Sl 1001 (n0) (n0))), (Prod.mk 4 (Value.string (s1 ++ { data := #[32] } ++ s2))), (Prod.mk 5 (vI 10))] [(Prod.mk 1000 (AObj.cells [(vI x2), (vI x3), (vI x4), (vI x5), (vI x6), (vI x7), (Value.slice none 0 0), (vI x8), (vI x9), (vI x10), (vI x11)] 26 false 1)), (Prod.mk 1001 (AObj.cells [(vI x12), (vI x13), (vI x14), (vI x15), (vI x16), (vI x17), (vI x18), (vI x19), (vI x20), (vI x21)] 3 false 1))])
 False)))
 False)
 False)
 (X 0 [(Prod.mk 1 (Pt 1000 0)), (Prod.mk 4 (Value.string (s1)))] [(Prod.mk 1000 (AObj.cells [(vI x2), (vI x3), (vI x4), (vI x5), (vI x6), (vI x7), (Value.slice none 0 0), (vI x8), (vI x9), (vI x10), (vI x11)] 26 false 1))])) := by kernel_rfl
abbrev zrFRn14 (n0 : Nat) (s1 : ByteArray) (x2 : Int) (x3 : Int) (x4 : Int) (x5 : Int) (x6 : Int) (x7 : Int) (x8 : Int) (x9 : Int) (x10 : Int) (x11 : Int) (x12 : Int) (x13 : Int) (x14 : Int) (x15 : Int) (x16 : Int) (x17 : Int) (x18 : Int) (x19 : Int) (x20 : Int) (x21 : Int) : Slots × Blocks := ([(1, (Value.pointer (some ⟨1000, 0, none⟩))), (3, (Value.slice (some ⟨1001, 0, none⟩) n0 n0)), (4, (Value.string s1)), (5, (Value.int .i64 (10)))], [(1000, (AObj.cells [(Value.int .i64 x2), (Value.int .i64 x3), (Value.int .i64 x4), (Value.int .i64 x5), (Value.int .i64 x6), (Value.int .i64 x7), (Value.slice none 0 0), (Value.int .i64 x8), (Value.int .i64 x9), (Value.int .i64 x10), (Value.int .i64 x11)] 26 false 1)), (1001, (AObj.cells [(Value.int .i64 x12), (Value.int .i64 x13), (Value.int .i64 x14), (Value.int .i64 x15), (Value.int .i64 x16), (Value.int .i64 x17), (Value.int .i64 x18), (Value.int .i64 x19), (Value.int .i64 x20), (Value.int .i64 x21)] 3 false 1))])
def rrFRn14 (C : Ct) (L : AtLoop) (n0 : Nat) (s1 : ByteArray) (x2 : Int) (x3 : Int) (x4 : Int) (x5 : Int) (x6 : Int) (x7 : Int) (x8 : Int) (x9 : Int) (x10 : Int) (x11 : Int) (x12 : Int) (x13 : Int) (x14 : Int) (x15 : Int) (x16 : Int) (x17 : Int) (x18 : Int) (x19 : Int) (x20 : Int) (x21 : Int) (B : Bx) (X : Xx) (k : List D → Prop) : Prop := wpRound Tryz.prog (hX C) L 12 0 [(1, (Value.pointer (some ⟨1000, 0, none⟩))), (3, (Value.slice (some ⟨1001, 0, none⟩) n0 n0)), (4, (Value.string s1)), (5, (Value.int .i64 (10)))] [(1000, (AObj.cells [(Value.int .i64 x2), (Value.int .i64 x3), (Value.int .i64 x4), (Value.int .i64 x5), (Value.int .i64 x6), (Value.int .i64 x7), (Value.slice none 0 0), (Value.int .i64 x8), (Value.int .i64 x9), (Value.int .i64 x10), (Value.int .i64 x11)] 26 false 1)), (1001, (AObj.cells [(Value.int .i64 x12), (Value.int .i64 x13), (Value.int .i64 x14), (Value.int .i64 x15), (Value.int .i64 x16), (Value.int .i64 x17), (Value.int .i64 x18), (Value.int .i64 x19), (Value.int .i64 x20), (Value.int .i64 x21)] 3 false 1))] B X (dataK k)
theorem rrFRn14_text (C : Ct) (L : AtLoop) (n0 : Nat) (s1 : ByteArray) (x2 : Int) (x3 : Int) (x4 : Int) (x5 : Int) (x6 : Int) (x7 : Int) (x8 : Int) (x9 : Int) (x10 : Int) (x11 : Int) (x12 : Int) (x13 : Int) (x14 : Int) (x15 : Int) (x16 : Int) (x17 : Int) (x18 : Int) (x19 : Int) (x20 : Int) (x21 : Int) (B : Bx) (X : Xx) (k : List D → Prop) : rrFRn14 C L n0 s1 x2 x3 x4 x5 x6 x7 x8 x9 x10 x11 x12 x13 x14 x15 x16 x17 x18 x19 x20 x21 B X k =
 (bcase (decide (10 < (↑n0 : Int)))
 (bcase (decide (ByteArray.size s1 + 1 ≤ 9223372036854775807))
 (bcase (decide (10 < (↑n0 : Int)))
 False
 False)
 False)
 (X 0 [(Prod.mk 1 (Pt 1000 0)), (Prod.mk 4 (Value.string (s1)))] [(Prod.mk 1000 (AObj.cells [(vI x2), (vI x3), (vI x4), (vI x5), (vI x6), (vI x7), (Value.slice none 0 0), (vI x8), (vI x9), (vI x10), (vI x11)] 26 false 1))])) := by kernel_rfl
end Go.Proofs.G5x

/- Chapter 3, strings: what the reference formats, in data. -/
namespace Go.Proofs.G5x
open Go Go.Abs Go.Proofs Go.Str
set_option maxRecDepth 100000
theorem e32 : ({ data := #[32] } : ByteArray) = bs [32] := rfl
theorem e3 : ({ data := #[32, 59, 32] } : ByteArray) = bs [32, 59, 32] := rfl
theorem conrFS (nm : List UInt8) (th : List Int) (h8 : th.length ≤ 8) (hn : nm.length ≤ 30) (hr : ∀ n ∈ th, R64 n) : C5 11 [scD nm th] [dS (fS nm th)] := by
  let T : Nat → List UInt8 := fun i => fS nm (th.take i)
  have lT : ∀ i, (T i).length ≤ 300 := fun i => by
    have := join_le (c := 32) (k := 30) (xs := nm :: (th.take i).map Lib.itoa) (fun x hx => by
      rcases List.mem_cons.1 hx with rfl | hx
      · exact hn
      · obtain ⟨n, hn', rfl⟩ := List.mem_map.1 hx; have := itoa_le (hr n (List.mem_of_mem_take hn')); omega)
    simp only [List.length_cons, List.length_map, List.length_take] at this
    show (Lib.join (nm :: (th.take i).map Lib.itoa) [32]).length ≤ _; omega
  have sT : ∀ i (h : i < th.length), T (i + 1) = T i ++ 32 :: Lib.itoa th[i] := fun i h => by
    show jn (nm :: (th.take (i + 1)).map Lib.itoa) = jn (nm :: (th.take i).map Lib.itoa) ++ _
    rw [List.take_succ_eq_append_getElem h, List.map_append]
    exact join_snoc (c := 32) (xs := nm :: (th.take i).map Lib.itoa) (by simp)
  let inv : Nat × Nat → Prop := fun x => x.1 ≤ th.length
  let st : Nat × Nat → Slots × Blocks := fun x => zrFS1 (bs (T x.1)) (x.1 : Int) (bs nm) th.length x.2 (vi th)
  refine con_of (L := fun _ s b => ∃ x, inv x ∧ st x = (s, b)) hokX mixed Tryz.func11 rfl (by show 1 ≤ 400; omega) rfl (ids := [0]) (by kernel_rfl) rfl (fun caps => ?_) (fun id hid => ?_)
  · show grFS _ _ (bs nm) th.length (caps 500) (vi th) _
    rw [grFS_text]
    refine ⟨(0, caps 500), Nat.zero_le _, ?_⟩
    have e : T 0 = nm := by show jn [nm] = nm; exact Lib.join_one _ _
    show zrFS1 (bs (T 0)) _ _ _ _ _ = _
    rw [e]; rfl
  · obtain rfl := List.mem_singleton.1 hid
    refine ⟨_, st, inv, fun x => th.length - x.1, ⟨fun s b h => h, by kernel_rfl, ?_⟩⟩
    rintro ⟨i, c⟩ hi
    have hi : i ≤ th.length := hi
    show rrFS1 _ _ (bs (T i)) (i : Int) (bs nm) th.length c (vi th) _ _ _
    rw [rrFS1_text]
    refine bc_dec (fun h => ?_) (fun h => ?_)
    · have h1 : i < th.length := by omega
      have hrr := hr _ (List.getElem_mem h1)
      have l1 := lT i
      have l2 := itoa_le hrr
      simp only [bc_t (show (0 : Int) ≤ (i : Int) by omega), bc_t h, Int.toNat_natCast, at1 (vi_at th i h1), e32, bs_append, bs_size]
      refine bc_yes (by omega) ⟨_, ⟨conDe th[i] hrr.1 hrr.2⟩, bc_yes (by rw [bs_size]; simp only [List.length_append, List.length_cons, List.length_nil]; omega) ?_⟩
      refine ⟨(i + 1, c), h1, by show th.length - (i + 1) < th.length - i; omega, ?_⟩
      show zrFS1 (bs (T (i + 1))) _ _ _ _ _ = _
      rw [sT i h1, w64 (by omega) (by omega), bs_append, List.append_assoc]; rfl
    · show (if 0 = 0 then _ else _)
      rw [if_pos rfl]
      show nrFS2 _ _ (bs (T i)) _
      rw [nrFS2_text]
      have e : i = th.length := by omega
      show [D.val (.string (bs (fS nm (th.take i))))] = _
      rw [e, List.take_length]
theorem conrFSn (nm : List UInt8) : C5 11 [.agg [dS nm, .nil]] [dS (fS nm [])] := by
  refine con_of (L := fun _ s b => zrFSn1 (bs nm) 0 (bs nm) = (s, b)) hokX mixed Tryz.func11 rfl (by show 0 ≤ 400; omega) rfl (ids := [0]) (by kernel_rfl) rfl (fun caps => ?_) (fun id hid => ?_)
  · show grFSn _ _ (bs nm) _
    rw [grFSn_text]
  · obtain rfl := List.mem_singleton.1 hid
    refine ⟨Unit, fun _ => zrFSn1 (bs nm) 0 (bs nm), fun _ => True, fun _ => 0, ⟨fun s b h => ⟨(), trivial, h⟩, by kernel_rfl, ?_⟩⟩
    intro _ _
    show rrFSn1 _ _ (bs nm) 0 (bs nm) _ _ _
    rw [rrFSn1_text]
    refine bc_no (by decide) ?_
    show (if 0 = 0 then _ else _)
    rw [if_pos rfl]
    show nrFSn2 _ _ (bs nm) _
    rw [nrFSn2_text]
    show _ = [dS (jn [nm])]
    rw [jn, Lib.join_one]
theorem jn_take {l : List Int} {k : Nat} (h : k < l.length) (h1 : 1 ≤ k) : jn ((l.take (k + 1)).map Lib.itoa) = jn ((l.take k).map Lib.itoa) ++ 32 :: Lib.itoa l[k] := by
  rw [List.take_succ_eq_append_getElem h, List.map_append]
  refine join_snoc (c := 32) (xs := (l.take k).map Lib.itoa) ?_
  intro e
  have := congrArg List.length e
  simp only [List.length_map, List.length_take, List.length_nil] at this
  omega
theorem j3_snoc {xs : List (List UInt8)} {y : List UInt8} (h : xs ≠ []) : j3 (xs ++ [y]) = j3 xs ++ 32 :: 59 :: 32 :: y := by
  induction xs with
  | nil => exact absurd rfl h
  | cons a r ih =>
    cases r with
    | nil => rfl
    | cons b q =>
      have e := ih (by simp)
      rw [List.cons_append, List.cons_append, j3, ← List.cons_append, e, j3]
      simp
theorem pSt_eq (s : Fv) : pSt s = Lib.itoa s.a ++ 32 :: (Lib.itoa s.b ++ 32 :: (Lib.itoa s.c ++ 32 :: (Lib.itoa s.d ++ 32 :: Lib.itoa s.e))) := by
  show Lib.join [Lib.itoa s.a, Lib.itoa s.b, Lib.itoa s.c, Lib.itoa s.d, Lib.itoa s.e] [32] = _
  rw [Lib.join_cons]; simp [Lib.joinTail]
theorem conrFR (r : Ru) (h8 : r.ss.length ≤ 8) (hr : R64R r) : C5 12 [r.d] [dS (fR r)] := by
  let T : Nat → List UInt8 := fun k => jn (((rNs r).take k).map Lib.itoa)
  let U : Nat → List UInt8 := fun i => j3 (T 10 :: (r.ss.take i).map pSt)
  have lT : ∀ k, (T k).length ≤ 220 := fun k => by
    have := jn_itoa (l := (rNs r).take k) (fun n hn => hr.head n (List.mem_of_mem_take hn))
    have h2 : ((rNs r).take k).length ≤ 10 := by rw [List.length_take]; simp only [rNs, List.length_cons, List.length_nil]; omega
    show (jn _).length ≤ _; omega
  have hps : ∀ s ∈ r.ss, (pSt s).length ≤ 110 := fun s hs => by have := jn_itoa (hr.all s hs); show (jn _).length ≤ _; simp only [sNs, List.length_cons, List.length_nil] at this ⊢; omega
  have lU : ∀ i, (U i).length ≤ 2100 := fun i => by
    have := j3_le (k := 220) (xs := T 10 :: (r.ss.take i).map pSt) (fun x hx => by
      rcases List.mem_cons.1 hx with rfl | hx
      · exact lT 10
      · obtain ⟨s, hs, rfl⟩ := List.mem_map.1 hx; have := hps s (List.mem_of_mem_take hs); omega)
    simp only [List.length_cons, List.length_map, List.length_take] at this
    show (j3 _).length ≤ _; omega
  have sU : ∀ i (h : i < r.ss.length), U (i + 1) = U i ++ 32 :: 59 :: 32 :: pSt r.ss[i] := fun i h => by
    show j3 (T 10 :: (r.ss.take (i + 1)).map pSt) = _
    rw [List.take_succ_eq_append_getElem h, List.map_append]
    exact j3_snoc (xs := T 10 :: (r.ss.take i).map pSt) (by simp)
  have cD : ∀ {n : Int}, R64 n → C5 38 [dI n] [dS (Lib.itoa n)] := fun h => conDe _ h.1 h.2
  have hh := hr.head
  simp only [rNs, List.forall_mem_cons] at hh
  obtain ⟨g0, g1, g2, g3, g4, g5, g6, g7, g8, g9, -⟩ := hh
  let st0 : Nat × Nat → Slots × Blocks := fun x => let c := x.2; match x.1 with
    | 0 => zrFR1 10 (bs (T 0)) 0 r.w r.st r.fi r.hlo r.hhi r.co r.ss.length c r.slo r.shi r.flo r.fhi r.w r.st r.fi r.hlo r.hhi r.co r.slo r.shi r.flo r.fhi (vs5 r.ss)
    | 1 => zrFR2 10 (bs (T 1)) r.w r.st r.fi r.hlo r.hhi r.co r.ss.length c r.slo r.shi r.flo r.fhi r.w r.st r.fi r.hlo r.hhi r.co r.slo r.shi r.flo r.fhi (vs5 r.ss)
    | 2 => zrFR4 10 (bs (T 2)) r.w r.st r.fi r.hlo r.hhi r.co r.ss.length c r.slo r.shi r.flo r.fhi r.w r.st r.fi r.hlo r.hhi r.co r.slo r.shi r.flo r.fhi (vs5 r.ss)
    | 3 => zrFR6 10 (bs (T 3)) r.w r.st r.fi r.hlo r.hhi r.co r.ss.length c r.slo r.shi r.flo r.fhi r.w r.st r.fi r.hlo r.hhi r.co r.slo r.shi r.flo r.fhi (vs5 r.ss)
    | 4 => zrFR8 10 (bs (T 4)) r.w r.st r.fi r.hlo r.hhi r.co r.ss.length c r.slo r.shi r.flo r.fhi r.w r.st r.fi r.hlo r.hhi r.co r.slo r.shi r.flo r.fhi (vs5 r.ss)
    | 5 => zrFR9 10 (bs (T 5)) r.w r.st r.fi r.hlo r.hhi r.co r.ss.length c r.slo r.shi r.flo r.fhi r.w r.st r.fi r.hlo r.hhi r.co r.slo r.shi r.flo r.fhi (vs5 r.ss)
    | 6 => zrFR10 10 (bs (T 6)) r.w r.st r.fi r.hlo r.hhi r.co r.ss.length c r.slo r.shi r.flo r.fhi r.w r.st r.fi r.hlo r.hhi r.co r.slo r.shi r.flo r.fhi (vs5 r.ss)
    | 7 => zrFR11 10 (bs (T 7)) r.w r.st r.fi r.hlo r.hhi r.co r.ss.length c r.slo r.shi r.flo r.fhi r.w r.st r.fi r.hlo r.hhi r.co r.slo r.shi r.flo r.fhi (vs5 r.ss)
    | 8 => zrFR12 10 (bs (T 8)) r.w r.st r.fi r.hlo r.hhi r.co r.ss.length c r.slo r.shi r.flo r.fhi r.w r.st r.fi r.hlo r.hhi r.co r.slo r.shi r.flo r.fhi (vs5 r.ss)
    | 9 => zrFR13 10 (bs (T 9)) r.w r.st r.fi r.hlo r.hhi r.co r.ss.length c r.slo r.shi r.flo r.fhi r.w r.st r.fi r.hlo r.hhi r.co r.slo r.shi r.flo r.fhi (vs5 r.ss)
    | _ => zrFR14 10 (bs (T 10)) r.w r.st r.fi r.hlo r.hhi r.co r.ss.length c r.slo r.shi r.flo r.fhi r.w r.st r.fi r.hlo r.hhi r.co r.slo r.shi r.flo r.fhi (vs5 r.ss)
  let st2 : Nat × Nat → Slots × Blocks := fun x => let c := x.2; zrFR5 (bs (U x.1)) (x.1 : Int) r.w r.st r.fi r.hlo r.hhi r.co r.ss.length c r.slo r.shi r.flo r.fhi (vs5 r.ss)
  let LL : AtLoop := fun id s b => match id with
    | 0 => ∃ x, x.1 ≤ 10 ∧ st0 x = (s, b)
    | 2 => ∃ x, x.1 ≤ r.ss.length ∧ st2 x = (s, b)
    | _ => False
  refine con_of (L := LL) hokX mixed Tryz.func12 rfl (by show 1 ≤ 400; omega) rfl (ids := [0, 2]) (by kernel_rfl) rfl (fun caps => ?_) (fun id hid => ?_)
  · show grFR _ _ r.w r.st r.fi r.hlo r.hhi r.co r.ss.length (caps 500) (vs5 r.ss) r.slo r.shi r.flo r.fhi _
    rw [grFR_text]
    exact ⟨(0, caps 500), by omega, rfl⟩
  · simp only [List.mem_cons, List.not_mem_nil, or_false] at hid
    rcases hid with rfl | rfl
    · refine ⟨_, st0, fun x => x.1 ≤ 10, fun x => 11 - x.1, ⟨fun s b h => h, by kernel_rfl, ?_⟩⟩
      rintro ⟨k, c⟩ hk
      match k, hk with
      | 0, _ =>
        show rrFR1 _ _ 10 (bs (T 0)) r.w r.st r.fi r.hlo r.hhi r.co r.ss.length c r.slo r.shi r.flo r.fhi r.w r.st r.fi r.hlo r.hhi r.co r.slo r.shi r.flo r.fhi (vs5 r.ss) _ _ _
        rw [rrFR1_text]
        have l1 := lT 0
        have l2 := itoa_le g0
        refine bc_yes (by decide) (bc_yes (by decide) ⟨_, ⟨cD g0⟩, bc_yes (by rw [bs_size, bs_size]; omega) ?_⟩)
        refine ⟨(1, c), by show 1 ≤ 10; omega, by show 11 - 1 < 11 - 0; omega, ?_⟩
        show zrFR2 10 (bs (T 1)) r.w r.st r.fi r.hlo r.hhi r.co r.ss.length c r.slo r.shi r.flo r.fhi r.w r.st r.fi r.hlo r.hhi r.co r.slo r.shi r.flo r.fhi (vs5 r.ss) = _
        have e : bs (T 0) ++ bs (Lib.itoa r.w) = bs (T 1) := by
          rw [bs_append]; congr 1
          show [] ++ Lib.itoa r.w = Lib.join [Lib.itoa r.w] [32]
          rw [Lib.join_one]; rfl
        rw [e]
      | 1, _ =>
        show rrFR2 _ _ 10 (bs (T 1)) r.w r.st r.fi r.hlo r.hhi r.co r.ss.length c r.slo r.shi r.flo r.fhi r.w r.st r.fi r.hlo r.hhi r.co r.slo r.shi r.flo r.fhi (vs5 r.ss) _ _ _
        rw [rrFR2_text]
        have l1 := lT 1
        have l2 := itoa_le g1
        refine bc_yes (by decide) (bc_yes (by rw [bs_size]; omega) (bc_yes (by decide) ⟨_, ⟨cD g1⟩, bc_yes (by rw [e32, bs_append, bs_size, bs_size]; simp only [List.length_append, List.length_cons, List.length_nil]; omega) ?_⟩))
        refine ⟨(2, c), by show 2 ≤ 10; omega, by show 11 - 2 < 11 - 1; omega, ?_⟩
        show zrFR4 10 (bs (T 2)) r.w r.st r.fi r.hlo r.hhi r.co r.ss.length c r.slo r.shi r.flo r.fhi r.w r.st r.fi r.hlo r.hhi r.co r.slo r.shi r.flo r.fhi (vs5 r.ss) = _
        have e : bs (T 1) ++ { data := #[32] } ++ bs (Lib.itoa r.st) = bs (T 2) := by
          rw [e32, bs_append, bs_append, List.append_assoc]
          have := jn_take (l := rNs r) (k := 1) (by simp [rNs]) (by decide)
          exact congrArg bs this.symm
        rw [e]
      | 2, _ =>
        show rrFR4 _ _ 10 (bs (T 2)) r.w r.st r.fi r.hlo r.hhi r.co r.ss.length c r.slo r.shi r.flo r.fhi r.w r.st r.fi r.hlo r.hhi r.co r.slo r.shi r.flo r.fhi (vs5 r.ss) _ _ _
        rw [rrFR4_text]
        have l1 := lT 2
        have l2 := itoa_le g2
        refine bc_yes (by decide) (bc_yes (by rw [bs_size]; omega) (bc_yes (by decide) ⟨_, ⟨cD g2⟩, bc_yes (by rw [e32, bs_append, bs_size, bs_size]; simp only [List.length_append, List.length_cons, List.length_nil]; omega) ?_⟩))
        refine ⟨(3, c), by show 3 ≤ 10; omega, by show 11 - 3 < 11 - 2; omega, ?_⟩
        show zrFR6 10 (bs (T 3)) r.w r.st r.fi r.hlo r.hhi r.co r.ss.length c r.slo r.shi r.flo r.fhi r.w r.st r.fi r.hlo r.hhi r.co r.slo r.shi r.flo r.fhi (vs5 r.ss) = _
        have e : bs (T 2) ++ { data := #[32] } ++ bs (Lib.itoa r.fi) = bs (T 3) := by
          rw [e32, bs_append, bs_append, List.append_assoc]
          have := jn_take (l := rNs r) (k := 2) (by simp [rNs]) (by decide)
          exact congrArg bs this.symm
        rw [e]
      | 3, _ =>
        show rrFR6 _ _ 10 (bs (T 3)) r.w r.st r.fi r.hlo r.hhi r.co r.ss.length c r.slo r.shi r.flo r.fhi r.w r.st r.fi r.hlo r.hhi r.co r.slo r.shi r.flo r.fhi (vs5 r.ss) _ _ _
        rw [rrFR6_text]
        have l1 := lT 3
        have l2 := itoa_le g3
        refine bc_yes (by decide) (bc_yes (by rw [bs_size]; omega) (bc_yes (by decide) ⟨_, ⟨cD g3⟩, bc_yes (by rw [e32, bs_append, bs_size, bs_size]; simp only [List.length_append, List.length_cons, List.length_nil]; omega) ?_⟩))
        refine ⟨(4, c), by show 4 ≤ 10; omega, by show 11 - 4 < 11 - 3; omega, ?_⟩
        show zrFR8 10 (bs (T 4)) r.w r.st r.fi r.hlo r.hhi r.co r.ss.length c r.slo r.shi r.flo r.fhi r.w r.st r.fi r.hlo r.hhi r.co r.slo r.shi r.flo r.fhi (vs5 r.ss) = _
        have e : bs (T 3) ++ { data := #[32] } ++ bs (Lib.itoa r.hlo) = bs (T 4) := by
          rw [e32, bs_append, bs_append, List.append_assoc]
          have := jn_take (l := rNs r) (k := 3) (by simp [rNs]) (by decide)
          exact congrArg bs this.symm
        rw [e]
      | 4, _ =>
        show rrFR8 _ _ 10 (bs (T 4)) r.w r.st r.fi r.hlo r.hhi r.co r.ss.length c r.slo r.shi r.flo r.fhi r.w r.st r.fi r.hlo r.hhi r.co r.slo r.shi r.flo r.fhi (vs5 r.ss) _ _ _
        rw [rrFR8_text]
        have l1 := lT 4
        have l2 := itoa_le g4
        refine bc_yes (by decide) (bc_yes (by rw [bs_size]; omega) (bc_yes (by decide) ⟨_, ⟨cD g4⟩, bc_yes (by rw [e32, bs_append, bs_size, bs_size]; simp only [List.length_append, List.length_cons, List.length_nil]; omega) ?_⟩))
        refine ⟨(5, c), by show 5 ≤ 10; omega, by show 11 - 5 < 11 - 4; omega, ?_⟩
        show zrFR9 10 (bs (T 5)) r.w r.st r.fi r.hlo r.hhi r.co r.ss.length c r.slo r.shi r.flo r.fhi r.w r.st r.fi r.hlo r.hhi r.co r.slo r.shi r.flo r.fhi (vs5 r.ss) = _
        have e : bs (T 4) ++ { data := #[32] } ++ bs (Lib.itoa r.hhi) = bs (T 5) := by
          rw [e32, bs_append, bs_append, List.append_assoc]
          have := jn_take (l := rNs r) (k := 4) (by simp [rNs]) (by decide)
          exact congrArg bs this.symm
        rw [e]
      | 5, _ =>
        show rrFR9 _ _ 10 (bs (T 5)) r.w r.st r.fi r.hlo r.hhi r.co r.ss.length c r.slo r.shi r.flo r.fhi r.w r.st r.fi r.hlo r.hhi r.co r.slo r.shi r.flo r.fhi (vs5 r.ss) _ _ _
        rw [rrFR9_text]
        have l1 := lT 5
        have l2 := itoa_le g5
        refine bc_yes (by decide) (bc_yes (by rw [bs_size]; omega) (bc_yes (by decide) ⟨_, ⟨cD g5⟩, bc_yes (by rw [e32, bs_append, bs_size, bs_size]; simp only [List.length_append, List.length_cons, List.length_nil]; omega) ?_⟩))
        refine ⟨(6, c), by show 6 ≤ 10; omega, by show 11 - 6 < 11 - 5; omega, ?_⟩
        show zrFR10 10 (bs (T 6)) r.w r.st r.fi r.hlo r.hhi r.co r.ss.length c r.slo r.shi r.flo r.fhi r.w r.st r.fi r.hlo r.hhi r.co r.slo r.shi r.flo r.fhi (vs5 r.ss) = _
        have e : bs (T 5) ++ { data := #[32] } ++ bs (Lib.itoa r.co) = bs (T 6) := by
          rw [e32, bs_append, bs_append, List.append_assoc]
          have := jn_take (l := rNs r) (k := 5) (by simp [rNs]) (by decide)
          exact congrArg bs this.symm
        rw [e]
      | 6, _ =>
        show rrFR10 _ _ 10 (bs (T 6)) r.w r.st r.fi r.hlo r.hhi r.co r.ss.length c r.slo r.shi r.flo r.fhi r.w r.st r.fi r.hlo r.hhi r.co r.slo r.shi r.flo r.fhi (vs5 r.ss) _ _ _
        rw [rrFR10_text]
        have l1 := lT 6
        have l2 := itoa_le g6
        refine bc_yes (by decide) (bc_yes (by rw [bs_size]; omega) (bc_yes (by decide) ⟨_, ⟨cD g6⟩, bc_yes (by rw [e32, bs_append, bs_size, bs_size]; simp only [List.length_append, List.length_cons, List.length_nil]; omega) ?_⟩))
        refine ⟨(7, c), by show 7 ≤ 10; omega, by show 11 - 7 < 11 - 6; omega, ?_⟩
        show zrFR11 10 (bs (T 7)) r.w r.st r.fi r.hlo r.hhi r.co r.ss.length c r.slo r.shi r.flo r.fhi r.w r.st r.fi r.hlo r.hhi r.co r.slo r.shi r.flo r.fhi (vs5 r.ss) = _
        have e : bs (T 6) ++ { data := #[32] } ++ bs (Lib.itoa r.slo) = bs (T 7) := by
          rw [e32, bs_append, bs_append, List.append_assoc]
          have := jn_take (l := rNs r) (k := 6) (by simp [rNs]) (by decide)
          exact congrArg bs this.symm
        rw [e]
      | 7, _ =>
        show rrFR11 _ _ 10 (bs (T 7)) r.w r.st r.fi r.hlo r.hhi r.co r.ss.length c r.slo r.shi r.flo r.fhi r.w r.st r.fi r.hlo r.hhi r.co r.slo r.shi r.flo r.fhi (vs5 r.ss) _ _ _
        rw [rrFR11_text]
        have l1 := lT 7
        have l2 := itoa_le g7
        refine bc_yes (by decide) (bc_yes (by rw [bs_size]; omega) (bc_yes (by decide) ⟨_, ⟨cD g7⟩, bc_yes (by rw [e32, bs_append, bs_size, bs_size]; simp only [List.length_append, List.length_cons, List.length_nil]; omega) ?_⟩))
        refine ⟨(8, c), by show 8 ≤ 10; omega, by show 11 - 8 < 11 - 7; omega, ?_⟩
        show zrFR12 10 (bs (T 8)) r.w r.st r.fi r.hlo r.hhi r.co r.ss.length c r.slo r.shi r.flo r.fhi r.w r.st r.fi r.hlo r.hhi r.co r.slo r.shi r.flo r.fhi (vs5 r.ss) = _
        have e : bs (T 7) ++ { data := #[32] } ++ bs (Lib.itoa r.shi) = bs (T 8) := by
          rw [e32, bs_append, bs_append, List.append_assoc]
          have := jn_take (l := rNs r) (k := 7) (by simp [rNs]) (by decide)
          exact congrArg bs this.symm
        rw [e]
      | 8, _ =>
        show rrFR12 _ _ 10 (bs (T 8)) r.w r.st r.fi r.hlo r.hhi r.co r.ss.length c r.slo r.shi r.flo r.fhi r.w r.st r.fi r.hlo r.hhi r.co r.slo r.shi r.flo r.fhi (vs5 r.ss) _ _ _
        rw [rrFR12_text]
        have l1 := lT 8
        have l2 := itoa_le g8
        refine bc_yes (by decide) (bc_yes (by rw [bs_size]; omega) (bc_yes (by decide) ⟨_, ⟨cD g8⟩, bc_yes (by rw [e32, bs_append, bs_size, bs_size]; simp only [List.length_append, List.length_cons, List.length_nil]; omega) ?_⟩))
        refine ⟨(9, c), by show 9 ≤ 10; omega, by show 11 - 9 < 11 - 8; omega, ?_⟩
        show zrFR13 10 (bs (T 9)) r.w r.st r.fi r.hlo r.hhi r.co r.ss.length c r.slo r.shi r.flo r.fhi r.w r.st r.fi r.hlo r.hhi r.co r.slo r.shi r.flo r.fhi (vs5 r.ss) = _
        have e : bs (T 8) ++ { data := #[32] } ++ bs (Lib.itoa r.flo) = bs (T 9) := by
          rw [e32, bs_append, bs_append, List.append_assoc]
          have := jn_take (l := rNs r) (k := 8) (by simp [rNs]) (by decide)
          exact congrArg bs this.symm
        rw [e]
      | 9, _ =>
        show rrFR13 _ _ 10 (bs (T 9)) r.w r.st r.fi r.hlo r.hhi r.co r.ss.length c r.slo r.shi r.flo r.fhi r.w r.st r.fi r.hlo r.hhi r.co r.slo r.shi r.flo r.fhi (vs5 r.ss) _ _ _
        rw [rrFR13_text]
        have l1 := lT 9
        have l2 := itoa_le g9
        refine bc_yes (by decide) (bc_yes (by rw [bs_size]; omega) (bc_yes (by decide) ⟨_, ⟨cD g9⟩, bc_yes (by rw [e32, bs_append, bs_size, bs_size]; simp only [List.length_append, List.length_cons, List.length_nil]; omega) ?_⟩))
        refine ⟨(10, c), by show 10 ≤ 10; omega, by show 11 - 10 < 11 - 9; omega, ?_⟩
        show zrFR14 10 (bs (T 10)) r.w r.st r.fi r.hlo r.hhi r.co r.ss.length c r.slo r.shi r.flo r.fhi r.w r.st r.fi r.hlo r.hhi r.co r.slo r.shi r.flo r.fhi (vs5 r.ss) = _
        have e : bs (T 9) ++ { data := #[32] } ++ bs (Lib.itoa r.fhi) = bs (T 10) := by
          rw [e32, bs_append, bs_append, List.append_assoc]
          have := jn_take (l := rNs r) (k := 9) (by simp [rNs]) (by decide)
          exact congrArg bs this.symm
        rw [e]
      | 10, _ =>
        show rrFR14 _ _ 10 (bs (T 10)) r.w r.st r.fi r.hlo r.hhi r.co r.ss.length c r.slo r.shi r.flo r.fhi r.w r.st r.fi r.hlo r.hhi r.co r.slo r.shi r.flo r.fhi (vs5 r.ss) _ _ _
        rw [rrFR14_text]
        refine bc_no (by decide) ?_
        show (if 0 = 0 then _ else _)
        rw [if_pos rfl]
        show nrFR3 _ _ (bs (T 10)) r.w r.st r.fi r.hlo r.hhi r.co r.ss.length c r.slo r.shi r.flo r.fhi (vs5 r.ss) _
        rw [nrFR3_text]
        exact ⟨(0, c), Nat.zero_le _, by show zrFR5 (bs (j3 [T 10])) _ _ _ _ _ _ _ _ _ _ _ _ _ _ = _; rfl⟩
      | k + 11, hk => exact absurd hk (by show ¬ (k + 11 ≤ 10); omega)
    · refine ⟨_, st2, fun x => x.1 ≤ r.ss.length, fun x => r.ss.length - x.1, ⟨fun s b h => h, by kernel_rfl, ?_⟩⟩
      rintro ⟨i, c⟩ hi
      have hi : i ≤ r.ss.length := hi
      show rrFR5 _ _ (bs (U i)) (i : Int) r.w r.st r.fi r.hlo r.hhi r.co r.ss.length c r.slo r.shi r.flo r.fhi (vs5 r.ss) _ _ _
      rw [rrFR5_text]
      refine bc_dec (fun h => ?_) (fun h => ?_)
      · have h1 : i < r.ss.length := by omega
        have ha := hr.all _ (List.getElem_mem h1)
        simp only [sNs, List.forall_mem_cons] at ha
        obtain ⟨a0, a1, a2, a3, a4, -⟩ := ha
        have l1 := lU i
        have k0 := itoa_le a0
        have k1 := itoa_le a1
        have k2 := itoa_le a2
        have k3 := itoa_le a3
        have k4 := itoa_le a4
        simp only [bc_t (show (0 : Int) ≤ (i : Int) by omega), bc_t h, Int.toNat_natCast, at5 (vs5_all r.ss i h1), e3, e32, bs_append, bs_size]
        have z0 : (U i).length + 3 ≤ 9223372036854775807 := by omega
        simp only [bc_t z0, Qv, eq_self, true_and, and_true]
        refine ⟨_, ⟨cD a0⟩, ?_⟩
        simp only [bs_append, bs_size]
        have z1 : (U i ++ [32, 59, 32]).length + (Lib.itoa r.ss[i].a).length ≤ 9223372036854775807 := by simp only [List.length_append, List.length_cons, List.length_nil]; omega
        have z2 : (U i ++ [32, 59, 32] ++ Lib.itoa r.ss[i].a).length + 1 ≤ 9223372036854775807 := by simp only [List.length_append, List.length_cons, List.length_nil]; omega
        simp only [bc_t z0, bc_t z1, bc_t z2, Qv, eq_self, true_and, and_true]
        refine ⟨_, ⟨cD a1⟩, ?_⟩
        simp only [bs_append, bs_size]
        have z3 : (U i ++ [32, 59, 32] ++ Lib.itoa r.ss[i].a ++ [32]).length + (Lib.itoa r.ss[i].b).length ≤ 9223372036854775807 := by simp only [List.length_append, List.length_cons, List.length_nil]; omega
        have z4 : (U i ++ [32, 59, 32] ++ Lib.itoa r.ss[i].a ++ [32] ++ Lib.itoa r.ss[i].b).length + 1 ≤ 9223372036854775807 := by simp only [List.length_append, List.length_cons, List.length_nil]; omega
        simp only [bc_t z0, bc_t z1, bc_t z2, bc_t z3, bc_t z4, Qv, eq_self, true_and, and_true]
        refine ⟨_, ⟨cD a2⟩, ?_⟩
        simp only [bs_append, bs_size]
        have z5 : (U i ++ [32, 59, 32] ++ Lib.itoa r.ss[i].a ++ [32] ++ Lib.itoa r.ss[i].b ++ [32]).length + (Lib.itoa r.ss[i].c).length ≤ 9223372036854775807 := by simp only [List.length_append, List.length_cons, List.length_nil]; omega
        have z6 : (U i ++ [32, 59, 32] ++ Lib.itoa r.ss[i].a ++ [32] ++ Lib.itoa r.ss[i].b ++ [32] ++ Lib.itoa r.ss[i].c).length + 1 ≤ 9223372036854775807 := by simp only [List.length_append, List.length_cons, List.length_nil]; omega
        simp only [bc_t z0, bc_t z1, bc_t z2, bc_t z3, bc_t z4, bc_t z5, bc_t z6, Qv, eq_self, true_and, and_true]
        refine ⟨_, ⟨cD a3⟩, ?_⟩
        simp only [bs_append, bs_size]
        have z7 : (U i ++ [32, 59, 32] ++ Lib.itoa r.ss[i].a ++ [32] ++ Lib.itoa r.ss[i].b ++ [32] ++ Lib.itoa r.ss[i].c ++ [32]).length + (Lib.itoa r.ss[i].d).length ≤ 9223372036854775807 := by simp only [List.length_append, List.length_cons, List.length_nil]; omega
        have z8 : (U i ++ [32, 59, 32] ++ Lib.itoa r.ss[i].a ++ [32] ++ Lib.itoa r.ss[i].b ++ [32] ++ Lib.itoa r.ss[i].c ++ [32] ++ Lib.itoa r.ss[i].d).length + 1 ≤ 9223372036854775807 := by simp only [List.length_append, List.length_cons, List.length_nil]; omega
        simp only [bc_t z0, bc_t z1, bc_t z2, bc_t z3, bc_t z4, bc_t z5, bc_t z6, bc_t z7, bc_t z8, Qv, eq_self, true_and, and_true]
        refine ⟨_, ⟨cD a4⟩, ?_⟩
        simp only [bs_append, bs_size]
        have z9 : (U i ++ [32, 59, 32] ++ Lib.itoa r.ss[i].a ++ [32] ++ Lib.itoa r.ss[i].b ++ [32] ++ Lib.itoa r.ss[i].c ++ [32] ++ Lib.itoa r.ss[i].d ++ [32]).length + (Lib.itoa r.ss[i].e).length ≤ 9223372036854775807 := by simp only [List.length_append, List.length_cons, List.length_nil]; omega
        simp only [bc_t z0, bc_t z1, bc_t z2, bc_t z3, bc_t z4, bc_t z5, bc_t z6, bc_t z7, bc_t z8, bc_t z9, Qv, eq_self, true_and, and_true]
        refine ⟨(i + 1, c), h1, by show r.ss.length - (i + 1) < r.ss.length - i; omega, ?_⟩
        show zrFR5 (bs (U (i + 1))) _ _ _ _ _ _ _ _ _ _ _ _ _ _ = _
        rw [sU i h1, pSt_eq, w64 (by omega) (by omega)]
        simp only [List.append_assoc, List.cons_append, List.nil_append]; rfl
      · show (if 2 = 2 then _ else _)
        rw [if_pos rfl]
        show nrFR7 _ _ (bs (U i)) _
        rw [nrFR7_text]
        have e : i = r.ss.length := by omega
        show [D.val (.string (bs (j3 (T 10 :: (r.ss.take i).map pSt))))] = _
        rw [e, List.take_length]; rfl
theorem conrFRn (r : Ru) (h8 : r.ss.length ≤ 8) (hr : R64R r) (hnil : r.ss = []) : C5 12 [r.dn] [dS (fR r)] := by
  let T : Nat → List UInt8 := fun k => jn (((rNs r).take k).map Lib.itoa)
  let U : Nat → List UInt8 := fun i => j3 (T 10 :: (r.ss.take i).map pSt)
  have lT : ∀ k, (T k).length ≤ 220 := fun k => by
    have := jn_itoa (l := (rNs r).take k) (fun n hn => hr.head n (List.mem_of_mem_take hn))
    have h2 : ((rNs r).take k).length ≤ 10 := by rw [List.length_take]; simp only [rNs, List.length_cons, List.length_nil]; omega
    show (jn _).length ≤ _; omega
  have hps : ∀ s ∈ r.ss, (pSt s).length ≤ 110 := fun s hs => by have := jn_itoa (hr.all s hs); show (jn _).length ≤ _; simp only [sNs, List.length_cons, List.length_nil] at this ⊢; omega
  have lU : ∀ i, (U i).length ≤ 2100 := fun i => by
    have := j3_le (k := 220) (xs := T 10 :: (r.ss.take i).map pSt) (fun x hx => by
      rcases List.mem_cons.1 hx with rfl | hx
      · exact lT 10
      · obtain ⟨s, hs, rfl⟩ := List.mem_map.1 hx; have := hps s (List.mem_of_mem_take hs); omega)
    simp only [List.length_cons, List.length_map, List.length_take] at this
    show (j3 _).length ≤ _; omega
  have sU : ∀ i (h : i < r.ss.length), U (i + 1) = U i ++ 32 :: 59 :: 32 :: pSt r.ss[i] := fun i h => by
    show j3 (T 10 :: (r.ss.take (i + 1)).map pSt) = _
    rw [List.take_succ_eq_append_getElem h, List.map_append]
    exact j3_snoc (xs := T 10 :: (r.ss.take i).map pSt) (by simp)
  have cD : ∀ {n : Int}, R64 n → C5 38 [dI n] [dS (Lib.itoa n)] := fun h => conDe _ h.1 h.2
  have hh := hr.head
  simp only [rNs, List.forall_mem_cons] at hh
  obtain ⟨g0, g1, g2, g3, g4, g5, g6, g7, g8, g9, -⟩ := hh
  let st0 : Nat × Nat → Slots × Blocks := fun x => let c := x.2; match x.1 with
    | 0 => zrFRn1 10 (bs (T 0)) 0 r.w r.st r.fi r.hlo r.hhi r.co r.slo r.shi r.flo r.fhi r.w r.st r.fi r.hlo r.hhi r.co r.slo r.shi r.flo r.fhi
    | 1 => zrFRn2 10 (bs (T 1)) r.w r.st r.fi r.hlo r.hhi r.co r.slo r.shi r.flo r.fhi r.w r.st r.fi r.hlo r.hhi r.co r.slo r.shi r.flo r.fhi
    | 2 => zrFRn4 10 (bs (T 2)) r.w r.st r.fi r.hlo r.hhi r.co r.slo r.shi r.flo r.fhi r.w r.st r.fi r.hlo r.hhi r.co r.slo r.shi r.flo r.fhi
    | 3 => zrFRn6 10 (bs (T 3)) r.w r.st r.fi r.hlo r.hhi r.co r.slo r.shi r.flo r.fhi r.w r.st r.fi r.hlo r.hhi r.co r.slo r.shi r.flo r.fhi
    | 4 => zrFRn8 10 (bs (T 4)) r.w r.st r.fi r.hlo r.hhi r.co r.slo r.shi r.flo r.fhi r.w r.st r.fi r.hlo r.hhi r.co r.slo r.shi r.flo r.fhi
    | 5 => zrFRn9 10 (bs (T 5)) r.w r.st r.fi r.hlo r.hhi r.co r.slo r.shi r.flo r.fhi r.w r.st r.fi r.hlo r.hhi r.co r.slo r.shi r.flo r.fhi
    | 6 => zrFRn10 10 (bs (T 6)) r.w r.st r.fi r.hlo r.hhi r.co r.slo r.shi r.flo r.fhi r.w r.st r.fi r.hlo r.hhi r.co r.slo r.shi r.flo r.fhi
    | 7 => zrFRn11 10 (bs (T 7)) r.w r.st r.fi r.hlo r.hhi r.co r.slo r.shi r.flo r.fhi r.w r.st r.fi r.hlo r.hhi r.co r.slo r.shi r.flo r.fhi
    | 8 => zrFRn12 10 (bs (T 8)) r.w r.st r.fi r.hlo r.hhi r.co r.slo r.shi r.flo r.fhi r.w r.st r.fi r.hlo r.hhi r.co r.slo r.shi r.flo r.fhi
    | 9 => zrFRn13 10 (bs (T 9)) r.w r.st r.fi r.hlo r.hhi r.co r.slo r.shi r.flo r.fhi r.w r.st r.fi r.hlo r.hhi r.co r.slo r.shi r.flo r.fhi
    | _ => zrFRn14 10 (bs (T 10)) r.w r.st r.fi r.hlo r.hhi r.co r.slo r.shi r.flo r.fhi r.w r.st r.fi r.hlo r.hhi r.co r.slo r.shi r.flo r.fhi
  let st2 : Nat × Nat → Slots × Blocks := fun x => let c := x.2; zrFRn5 (bs (U x.1)) (x.1 : Int) r.w r.st r.fi r.hlo r.hhi r.co r.slo r.shi r.flo r.fhi
  let LL : AtLoop := fun id s b => match id with
    | 0 => ∃ x, x.1 ≤ 10 ∧ st0 x = (s, b)
    | 2 => ∃ x, x.1 ≤ r.ss.length ∧ st2 x = (s, b)
    | _ => False
  refine con_of (L := LL) hokX mixed Tryz.func12 rfl (by show 0 ≤ 400; omega) rfl (ids := [0, 2]) (by kernel_rfl) rfl (fun caps => ?_) (fun id hid => ?_)
  · show grFRn _ _ r.w r.st r.fi r.hlo r.hhi r.co r.slo r.shi r.flo r.fhi _
    rw [grFRn_text]
    exact ⟨(0, 0), by omega, rfl⟩
  · simp only [List.mem_cons, List.not_mem_nil, or_false] at hid
    rcases hid with rfl | rfl
    · refine ⟨_, st0, fun x => x.1 ≤ 10, fun x => 11 - x.1, ⟨fun s b h => h, by kernel_rfl, ?_⟩⟩
      rintro ⟨k, c⟩ hk
      match k, hk with
      | 0, _ =>
        show rrFRn1 _ _ 10 (bs (T 0)) r.w r.st r.fi r.hlo r.hhi r.co r.slo r.shi r.flo r.fhi r.w r.st r.fi r.hlo r.hhi r.co r.slo r.shi r.flo r.fhi _ _ _
        rw [rrFRn1_text]
        have l1 := lT 0
        have l2 := itoa_le g0
        refine bc_yes (by decide) (bc_yes (by decide) ⟨_, ⟨cD g0⟩, bc_yes (by rw [bs_size, bs_size]; omega) ?_⟩)
        refine ⟨(1, c), by show 1 ≤ 10; omega, by show 11 - 1 < 11 - 0; omega, ?_⟩
        show zrFRn2 10 (bs (T 1)) r.w r.st r.fi r.hlo r.hhi r.co r.slo r.shi r.flo r.fhi r.w r.st r.fi r.hlo r.hhi r.co r.slo r.shi r.flo r.fhi = _
        have e : bs (T 0) ++ bs (Lib.itoa r.w) = bs (T 1) := by
          rw [bs_append]; congr 1
          show [] ++ Lib.itoa r.w = Lib.join [Lib.itoa r.w] [32]
          rw [Lib.join_one]; rfl
        rw [e]
      | 1, _ =>
        show rrFRn2 _ _ 10 (bs (T 1)) r.w r.st r.fi r.hlo r.hhi r.co r.slo r.shi r.flo r.fhi r.w r.st r.fi r.hlo r.hhi r.co r.slo r.shi r.flo r.fhi _ _ _
        rw [rrFRn2_text]
        have l1 := lT 1
        have l2 := itoa_le g1
        refine bc_yes (by decide) (bc_yes (by rw [bs_size]; omega) (bc_yes (by decide) ⟨_, ⟨cD g1⟩, bc_yes (by rw [e32, bs_append, bs_size, bs_size]; simp only [List.length_append, List.length_cons, List.length_nil]; omega) ?_⟩))
        refine ⟨(2, c), by show 2 ≤ 10; omega, by show 11 - 2 < 11 - 1; omega, ?_⟩
        show zrFRn4 10 (bs (T 2)) r.w r.st r.fi r.hlo r.hhi r.co r.slo r.shi r.flo r.fhi r.w r.st r.fi r.hlo r.hhi r.co r.slo r.shi r.flo r.fhi = _
        have e : bs (T 1) ++ { data := #[32] } ++ bs (Lib.itoa r.st) = bs (T 2) := by
          rw [e32, bs_append, bs_append, List.append_assoc]
          have := jn_take (l := rNs r) (k := 1) (by simp [rNs]) (by decide)
          exact congrArg bs this.symm
        rw [e]
      | 2, _ =>
        show rrFRn4 _ _ 10 (bs (T 2)) r.w r.st r.fi r.hlo r.hhi r.co r.slo r.shi r.flo r.fhi r.w r.st r.fi r.hlo r.hhi r.co r.slo r.shi r.flo r.fhi _ _ _
        rw [rrFRn4_text]
        have l1 := lT 2
        have l2 := itoa_le g2
        refine bc_yes (by decide) (bc_yes (by rw [bs_size]; omega) (bc_yes (by decide) ⟨_, ⟨cD g2⟩, bc_yes (by rw [e32, bs_append, bs_size, bs_size]; simp only [List.length_append, List.length_cons, List.length_nil]; omega) ?_⟩))
        refine ⟨(3, c), by show 3 ≤ 10; omega, by show 11 - 3 < 11 - 2; omega, ?_⟩
        show zrFRn6 10 (bs (T 3)) r.w r.st r.fi r.hlo r.hhi r.co r.slo r.shi r.flo r.fhi r.w r.st r.fi r.hlo r.hhi r.co r.slo r.shi r.flo r.fhi = _
        have e : bs (T 2) ++ { data := #[32] } ++ bs (Lib.itoa r.fi) = bs (T 3) := by
          rw [e32, bs_append, bs_append, List.append_assoc]
          have := jn_take (l := rNs r) (k := 2) (by simp [rNs]) (by decide)
          exact congrArg bs this.symm
        rw [e]
      | 3, _ =>
        show rrFRn6 _ _ 10 (bs (T 3)) r.w r.st r.fi r.hlo r.hhi r.co r.slo r.shi r.flo r.fhi r.w r.st r.fi r.hlo r.hhi r.co r.slo r.shi r.flo r.fhi _ _ _
        rw [rrFRn6_text]
        have l1 := lT 3
        have l2 := itoa_le g3
        refine bc_yes (by decide) (bc_yes (by rw [bs_size]; omega) (bc_yes (by decide) ⟨_, ⟨cD g3⟩, bc_yes (by rw [e32, bs_append, bs_size, bs_size]; simp only [List.length_append, List.length_cons, List.length_nil]; omega) ?_⟩))
        refine ⟨(4, c), by show 4 ≤ 10; omega, by show 11 - 4 < 11 - 3; omega, ?_⟩
        show zrFRn8 10 (bs (T 4)) r.w r.st r.fi r.hlo r.hhi r.co r.slo r.shi r.flo r.fhi r.w r.st r.fi r.hlo r.hhi r.co r.slo r.shi r.flo r.fhi = _
        have e : bs (T 3) ++ { data := #[32] } ++ bs (Lib.itoa r.hlo) = bs (T 4) := by
          rw [e32, bs_append, bs_append, List.append_assoc]
          have := jn_take (l := rNs r) (k := 3) (by simp [rNs]) (by decide)
          exact congrArg bs this.symm
        rw [e]
      | 4, _ =>
        show rrFRn8 _ _ 10 (bs (T 4)) r.w r.st r.fi r.hlo r.hhi r.co r.slo r.shi r.flo r.fhi r.w r.st r.fi r.hlo r.hhi r.co r.slo r.shi r.flo r.fhi _ _ _
        rw [rrFRn8_text]
        have l1 := lT 4
        have l2 := itoa_le g4
        refine bc_yes (by decide) (bc_yes (by rw [bs_size]; omega) (bc_yes (by decide) ⟨_, ⟨cD g4⟩, bc_yes (by rw [e32, bs_append, bs_size, bs_size]; simp only [List.length_append, List.length_cons, List.length_nil]; omega) ?_⟩))
        refine ⟨(5, c), by show 5 ≤ 10; omega, by show 11 - 5 < 11 - 4; omega, ?_⟩
        show zrFRn9 10 (bs (T 5)) r.w r.st r.fi r.hlo r.hhi r.co r.slo r.shi r.flo r.fhi r.w r.st r.fi r.hlo r.hhi r.co r.slo r.shi r.flo r.fhi = _
        have e : bs (T 4) ++ { data := #[32] } ++ bs (Lib.itoa r.hhi) = bs (T 5) := by
          rw [e32, bs_append, bs_append, List.append_assoc]
          have := jn_take (l := rNs r) (k := 4) (by simp [rNs]) (by decide)
          exact congrArg bs this.symm
        rw [e]
      | 5, _ =>
        show rrFRn9 _ _ 10 (bs (T 5)) r.w r.st r.fi r.hlo r.hhi r.co r.slo r.shi r.flo r.fhi r.w r.st r.fi r.hlo r.hhi r.co r.slo r.shi r.flo r.fhi _ _ _
        rw [rrFRn9_text]
        have l1 := lT 5
        have l2 := itoa_le g5
        refine bc_yes (by decide) (bc_yes (by rw [bs_size]; omega) (bc_yes (by decide) ⟨_, ⟨cD g5⟩, bc_yes (by rw [e32, bs_append, bs_size, bs_size]; simp only [List.length_append, List.length_cons, List.length_nil]; omega) ?_⟩))
        refine ⟨(6, c), by show 6 ≤ 10; omega, by show 11 - 6 < 11 - 5; omega, ?_⟩
        show zrFRn10 10 (bs (T 6)) r.w r.st r.fi r.hlo r.hhi r.co r.slo r.shi r.flo r.fhi r.w r.st r.fi r.hlo r.hhi r.co r.slo r.shi r.flo r.fhi = _
        have e : bs (T 5) ++ { data := #[32] } ++ bs (Lib.itoa r.co) = bs (T 6) := by
          rw [e32, bs_append, bs_append, List.append_assoc]
          have := jn_take (l := rNs r) (k := 5) (by simp [rNs]) (by decide)
          exact congrArg bs this.symm
        rw [e]
      | 6, _ =>
        show rrFRn10 _ _ 10 (bs (T 6)) r.w r.st r.fi r.hlo r.hhi r.co r.slo r.shi r.flo r.fhi r.w r.st r.fi r.hlo r.hhi r.co r.slo r.shi r.flo r.fhi _ _ _
        rw [rrFRn10_text]
        have l1 := lT 6
        have l2 := itoa_le g6
        refine bc_yes (by decide) (bc_yes (by rw [bs_size]; omega) (bc_yes (by decide) ⟨_, ⟨cD g6⟩, bc_yes (by rw [e32, bs_append, bs_size, bs_size]; simp only [List.length_append, List.length_cons, List.length_nil]; omega) ?_⟩))
        refine ⟨(7, c), by show 7 ≤ 10; omega, by show 11 - 7 < 11 - 6; omega, ?_⟩
        show zrFRn11 10 (bs (T 7)) r.w r.st r.fi r.hlo r.hhi r.co r.slo r.shi r.flo r.fhi r.w r.st r.fi r.hlo r.hhi r.co r.slo r.shi r.flo r.fhi = _
        have e : bs (T 6) ++ { data := #[32] } ++ bs (Lib.itoa r.slo) = bs (T 7) := by
          rw [e32, bs_append, bs_append, List.append_assoc]
          have := jn_take (l := rNs r) (k := 6) (by simp [rNs]) (by decide)
          exact congrArg bs this.symm
        rw [e]
      | 7, _ =>
        show rrFRn11 _ _ 10 (bs (T 7)) r.w r.st r.fi r.hlo r.hhi r.co r.slo r.shi r.flo r.fhi r.w r.st r.fi r.hlo r.hhi r.co r.slo r.shi r.flo r.fhi _ _ _
        rw [rrFRn11_text]
        have l1 := lT 7
        have l2 := itoa_le g7
        refine bc_yes (by decide) (bc_yes (by rw [bs_size]; omega) (bc_yes (by decide) ⟨_, ⟨cD g7⟩, bc_yes (by rw [e32, bs_append, bs_size, bs_size]; simp only [List.length_append, List.length_cons, List.length_nil]; omega) ?_⟩))
        refine ⟨(8, c), by show 8 ≤ 10; omega, by show 11 - 8 < 11 - 7; omega, ?_⟩
        show zrFRn12 10 (bs (T 8)) r.w r.st r.fi r.hlo r.hhi r.co r.slo r.shi r.flo r.fhi r.w r.st r.fi r.hlo r.hhi r.co r.slo r.shi r.flo r.fhi = _
        have e : bs (T 7) ++ { data := #[32] } ++ bs (Lib.itoa r.shi) = bs (T 8) := by
          rw [e32, bs_append, bs_append, List.append_assoc]
          have := jn_take (l := rNs r) (k := 7) (by simp [rNs]) (by decide)
          exact congrArg bs this.symm
        rw [e]
      | 8, _ =>
        show rrFRn12 _ _ 10 (bs (T 8)) r.w r.st r.fi r.hlo r.hhi r.co r.slo r.shi r.flo r.fhi r.w r.st r.fi r.hlo r.hhi r.co r.slo r.shi r.flo r.fhi _ _ _
        rw [rrFRn12_text]
        have l1 := lT 8
        have l2 := itoa_le g8
        refine bc_yes (by decide) (bc_yes (by rw [bs_size]; omega) (bc_yes (by decide) ⟨_, ⟨cD g8⟩, bc_yes (by rw [e32, bs_append, bs_size, bs_size]; simp only [List.length_append, List.length_cons, List.length_nil]; omega) ?_⟩))
        refine ⟨(9, c), by show 9 ≤ 10; omega, by show 11 - 9 < 11 - 8; omega, ?_⟩
        show zrFRn13 10 (bs (T 9)) r.w r.st r.fi r.hlo r.hhi r.co r.slo r.shi r.flo r.fhi r.w r.st r.fi r.hlo r.hhi r.co r.slo r.shi r.flo r.fhi = _
        have e : bs (T 8) ++ { data := #[32] } ++ bs (Lib.itoa r.flo) = bs (T 9) := by
          rw [e32, bs_append, bs_append, List.append_assoc]
          have := jn_take (l := rNs r) (k := 8) (by simp [rNs]) (by decide)
          exact congrArg bs this.symm
        rw [e]
      | 9, _ =>
        show rrFRn13 _ _ 10 (bs (T 9)) r.w r.st r.fi r.hlo r.hhi r.co r.slo r.shi r.flo r.fhi r.w r.st r.fi r.hlo r.hhi r.co r.slo r.shi r.flo r.fhi _ _ _
        rw [rrFRn13_text]
        have l1 := lT 9
        have l2 := itoa_le g9
        refine bc_yes (by decide) (bc_yes (by rw [bs_size]; omega) (bc_yes (by decide) ⟨_, ⟨cD g9⟩, bc_yes (by rw [e32, bs_append, bs_size, bs_size]; simp only [List.length_append, List.length_cons, List.length_nil]; omega) ?_⟩))
        refine ⟨(10, c), by show 10 ≤ 10; omega, by show 11 - 10 < 11 - 9; omega, ?_⟩
        show zrFRn14 10 (bs (T 10)) r.w r.st r.fi r.hlo r.hhi r.co r.slo r.shi r.flo r.fhi r.w r.st r.fi r.hlo r.hhi r.co r.slo r.shi r.flo r.fhi = _
        have e : bs (T 9) ++ { data := #[32] } ++ bs (Lib.itoa r.fhi) = bs (T 10) := by
          rw [e32, bs_append, bs_append, List.append_assoc]
          have := jn_take (l := rNs r) (k := 9) (by simp [rNs]) (by decide)
          exact congrArg bs this.symm
        rw [e]
      | 10, _ =>
        show rrFRn14 _ _ 10 (bs (T 10)) r.w r.st r.fi r.hlo r.hhi r.co r.slo r.shi r.flo r.fhi r.w r.st r.fi r.hlo r.hhi r.co r.slo r.shi r.flo r.fhi _ _ _
        rw [rrFRn14_text]
        refine bc_no (by decide) ?_
        show (if 0 = 0 then _ else _)
        rw [if_pos rfl]
        show nrFRn3 _ _ (bs (T 10)) r.w r.st r.fi r.hlo r.hhi r.co r.slo r.shi r.flo r.fhi _
        rw [nrFRn3_text]
        exact ⟨(0, c), Nat.zero_le _, by show zrFRn5 (bs (j3 [T 10])) _ _ _ _ _ _ _ _ _ _ _ = _; rfl⟩
      | k + 11, hk => exact absurd hk (by show ¬ (k + 11 ≤ 10); omega)
    · refine ⟨_, st2, fun x => x.1 ≤ r.ss.length, fun x => r.ss.length - x.1, ⟨fun s b h => h, by kernel_rfl, ?_⟩⟩
      rintro ⟨i, c⟩ hi
      have hi : i ≤ r.ss.length := hi
      show rrFRn5 _ _ (bs (U i)) (i : Int) r.w r.st r.fi r.hlo r.hhi r.co r.slo r.shi r.flo r.fhi _ _ _
      rw [rrFRn5_text]
      have h0 : r.ss.length = 0 := by rw [hnil]; rfl
      refine bc_no (by omega) ?_
      show (if 2 = 2 then _ else _)
      rw [if_pos rfl]
      show nrFRn7 _ _ (bs (U i)) _
      rw [nrFRn7_text]
      have e : i = r.ss.length := by omega
      show [D.val (.string (bs (j3 (T 10 :: (r.ss.take i).map pSt))))] = _
      rw [e, List.take_length]; rfl
end Go.Proofs.G5x

/- What is left to show of each function, written out; the kernel reckons it. -/
namespace Go.Proofs.G5x
open Go Go.Abs Go.Proofs
set_option maxRecDepth 100000
set_option linter.unusedVariables false
end Go.Proofs.G5x

/- Chapter 3, strings: the rules of a string, by the reference, in data. -/
namespace Go.Proofs.G5x
open Go Go.Abs Go.Proofs Go.Str
set_option maxRecDepth 100000
set_option maxHeartbeats 1000000
abbrev curW (ws : W) (f i : Nat) : W := (ws.drop f).take (i - f)
/-- where the reference stands: groups up to f, words up to i -/
structure RPI (ws : W) (f i : Nat) (R : Ru) : Prop where
  le : f ≤ i
  few : R.ss.length ≤ i
  done : ∃ G : List W, ((f = 0 ∧ G = [] ∧ R = zeroR) ∨ (0 < f ∧ synG G = some R)) ∧ ((i ≤ ws.length ∧ grp [] ws = G ++ grp (curW ws f i) (ws.drop i)) ∨ (i = ws.length + 1 ∧ 0 < f ∧ grp [] ws = G))
theorem bcF' {x y : Prop} : bcase false x y = y := rfl
end Go.Proofs.G5x

/- Chapter 3, strings: equal rules, equal schedules. -/
namespace Go.Proofs.G5x
open Go Go.Abs Go.Proofs Go.Str
set_option maxRecDepth 100000
theorem preYOK : PreOK Tryz.prog (preY C5) := by
  intro g h he args ats H k hk
  unfold preY at he
  rcases ite_so he with ⟨e, rfl⟩ | he
  · exact saidH_ok (fun _ _ _ h => h) _ _ _ _ _ hk
  · exact preXOK g h he args ats H k hk
theorem hokY : HandlerOK Tryz.prog (hY C5) := handlerX_ok mixed preYOK (by decide) 6
theorem conIn (l m : List Int) (hl : l.length < 1000000000) : C5 48 [.sl l.length 1 (vi l), .sl m.length 1 (vi m)] [.val (.bool (decide (l = m)))] := by
  let inv : Nat × Nat × Nat → Prop := fun x => x.1 ≤ l.length ∧ l.length = m.length ∧ (l = m ↔ l.drop x.1 = m.drop x.1)
  let st : Nat × Nat × Nat → Slots × Blocks := fun x => zIn1 l.length x.2.1 m.length x.2.2 x.1 (vi l) (vi m)
  refine con_of (L := fun _ s b => ∃ x, inv x ∧ st x = (s, b)) hokE mixed Tryz.func48 rfl (by show 2 ≤ 400; omega) rfl (ids := [0]) (by kernel_rfl) rfl (fun caps => ?_) (fun id hid => ?_)
  · show gIn _ _ l.length (caps 500) (vi l) m.length (caps 501) (vi m) _
    rw [gIn_text]
    refine bc_bne (fun h => ?_) (fun h => ?_)
    · show _ = _
      rw [decide_eq_false (fun e => h (by rw [e]))]
    · exact ⟨(0, caps 500, caps 501), ⟨Nat.zero_le _, by show l.length = m.length; omega, Iff.rfl⟩, rfl⟩
  · obtain rfl := List.mem_singleton.1 hid
    refine ⟨Nat × Nat × Nat, st, inv, fun x => l.length - x.1, ⟨fun s b h => h, by kernel_rfl, ?_⟩⟩
    rintro ⟨i, c1, c2⟩ ⟨hi, hlm, hr⟩
    simp only at hi hr
    show rIn1 _ _ l.length c1 m.length c2 (i : Int) (vi l) (vi m) _ _ _
    rw [rIn1_text]
    refine bc_dec (fun h => ?_) (fun h => ?_)
    · have h1 : i < l.length := by omega
      have h2 : i < m.length := by omega
      rw [List.drop_eq_getElem_cons h1, List.drop_eq_getElem_cons h2] at hr
      simp only [bc_t h, bc_t (show (i : Int) < (m.length : Int) by omega), bc_t (show (0 : Int) ≤ (i : Int) by omega), Int.toNat_natCast, at1 (vi_at l i h1), at1 (vi_at m i h2), eq_self, true_and, and_true]
      refine bc_bne (fun hc => ?_) (fun hc => ?_)
      · rw [bc_n hc]
        refine ⟨trivial, ?_⟩
        show _ = _
        rw [decide_eq_false (fun e => hc (List.cons.inj (hr.1 e)).1)]
      · refine ⟨bc_bne (fun h' => absurd hc h') (fun _ => trivial), ⟨i + 1, c1, c2⟩, ⟨by show i + 1 ≤ l.length; omega, hlm, ?_⟩, by show l.length - (i + 1) < l.length - i; omega, ?_⟩
        · show l = m ↔ l.drop (i + 1) = m.drop (i + 1)
          refine hr.trans ?_
          rw [hc]
          exact ⟨fun e => (List.cons.inj e).2, fun e => by rw [e]⟩
        · rw [w64 (by omega) (by omega)]; rfl
    · show (if 0 = 0 then _ else _)
      rw [if_pos rfl]
      show nIn2 _ _ _
      rw [nIn2_text]
      show _ = _
      have e1 : l.drop i = [] := List.drop_eq_nil_of_le (by omega)
      have e2 : m.drop i = [] := List.drop_eq_nil_of_le (by omega)
      rw [decide_eq_true (hr.2 (by rw [e1, e2]))]
theorem conSS (nm : List UInt8) (l : List Int) (hl : l.length < 1000000000) : C5 18 [scD nm l, scD nm l] [dB true] := by
  refine con_flat hokY mixed Tryz.func18 rfl (by show 2 ≤ 400; omega) rfl (by kernel_rfl) (fun caps => ?_)
  show gSS _ _ (bs nm) l.length (caps 500) (vi l) (bs nm) l.length (caps 501) (vi l) _
  rw [gSS_text]
  have c := conIn l l hl
  rw [decide_eq_true rfl] at c
  simp only [beq_self_eq_true, bcT', vi_whole, bc_t (v1le l)]
  exact .inl ⟨⟨c⟩, trivial⟩
theorem conSR (r : Ru) (hl : r.ss.length < 1000000000) : C5 15 [r.d, r.d] [dB true] := by
  let inv : Nat × Nat × Nat → Prop := fun x => x.1 ≤ r.ss.length
  let st : Nat × Nat × Nat → Slots × Blocks := fun x => zSR1 x.1 r.w r.st r.fi r.hlo r.hhi r.co r.ss.length x.2.1 r.slo r.shi r.flo r.fhi r.w r.st r.fi r.hlo r.hhi r.co r.ss.length x.2.2 r.slo r.shi r.flo r.fhi (vs5 r.ss) (vs5 r.ss)
  refine con_of (L := fun _ s b => ∃ x, inv x ∧ st x = (s, b)) hokX mixed Tryz.func15 rfl (by show 2 ≤ 400; omega) rfl (ids := [0]) (by kernel_rfl) rfl (fun caps => ?_) (fun id hid => ?_)
  · show gSR _ _ r.w r.st r.fi r.hlo r.hhi r.co r.ss.length (caps 500) (vs5 r.ss) r.slo r.shi r.flo r.fhi r.w r.st r.fi r.hlo r.hhi r.co r.ss.length (caps 501) (vs5 r.ss) r.slo r.shi r.flo r.fhi _
    rw [gSR_text]
    simp only [bc_nf, beq_self_eq_true, Bool.and_self, Bool.not_true, if_true, bcF', Qv, eq_self, true_and, and_true]
    exact ⟨(0, caps 500, caps 501), Nat.zero_le _, rfl⟩
  · obtain rfl := List.mem_singleton.1 hid
    refine ⟨_, st, inv, fun x => r.ss.length - x.1, ⟨fun s b h => h, by kernel_rfl, ?_⟩⟩
    rintro ⟨i, c1, c2⟩ hi
    have hi : i ≤ r.ss.length := hi
    show rSR1 _ _ (i : Int) r.w r.st r.fi r.hlo r.hhi r.co r.ss.length c1 r.slo r.shi r.flo r.fhi r.w r.st r.fi r.hlo r.hhi r.co r.ss.length c2 r.slo r.shi r.flo r.fhi (vs5 r.ss) (vs5 r.ss) _ _ _
    rw [rSR1_text]
    refine bc_dec (fun h => ?_) (fun h => ?_)
    · have h2 : i < r.ss.length := by omega
      simp only [bc_t (show (0 : Int) ≤ (i : Int) by omega), bc_t h, Int.toNat_natCast, at5 (vs5_all r.ss i h2), beq_self_eq_true, Bool.and_self, Bool.not_true, if_true, bcF', Qv, Qft, Qtf, eq_self, true_and, and_true]
      refine ⟨(i + 1, c1, c2), h2, by show r.ss.length - (i + 1) < r.ss.length - i; omega, ?_⟩
      rw [w64 (by omega) (by omega)]; rfl
    · show (if 0 = 0 then _ else _)
      rw [if_pos rfl]
      show nSR2 _ _ _
      rw [nSR2_text]
end Go.Proofs.G5x
