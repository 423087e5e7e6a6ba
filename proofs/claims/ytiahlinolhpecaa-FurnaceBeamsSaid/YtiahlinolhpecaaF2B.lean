/- Beams, whatever they are: contracts. -/
import Derived.Test.YtiahlinolhpecaaF2Bt2
import Derived.Test.YtiahlinolhpecaaF2In
import Derived.Test.YtiahlinolhpecaaF2P
namespace Go.Proofs.B
open Go Go.Abs Go.Proofs
set_option maxRecDepth 100000
theorem hokB : HandlerOK Try.prog (hN (Con Try.prog)) := handlerN_ok mixed (fun _ _ _ h => h) (by decide) 6
theorem hokF : HandlerOK Try.prog (hF (Con Try.prog)) := handlerF_ok (fun _ _ _ h => h) hokB

theorem con61g (ps : List Int) (beat : Int) (hlen : ps.length < 1000000000) : Con Try.prog 61 [dBeam ps beat] (beamRes ps beat) := by
  let inv : Nat × Nat → Prop := fun x => x.1 ≤ ps.length ∧ beamRes ps beat = chk (ps.drop x.1) x.1
  let st : Nat × Nat → Slots × Blocks := fun x => (Proofs.s61 ps.length x.2 x.1, [Proofs.A500 (vi ps)])
  refine con_of (L := fun _ s b => ∃ x, inv x ∧ st x = (s, b)) hok mixed Try.func61 rfl (by show 1 ≤ 500; omega) rfl (ids := [1]) (by kernel_rfl) rfl (fun caps => ?_) (fun id hid => ?_)
  · show Proofs.g61 _ _ ps.length (caps 500) (vi ps) beat _
    rw [Proofs.g61_text]
    simp only [true_and, and_true]
    refine bc_beq (fun h => ?_) (fun h0 => bc_dec (fun h => ?_) (fun h5 => bc_dec (fun h1 => ?_) (fun h1 => bc_dec (fun h2 => ?_) (fun h2 => ?_))))
    · rw [beamRes, if_pos (by omega)]
    · rw [beamRes, if_neg (by omega), if_pos (by omega)]
    · rw [beamRes, if_neg (by omega), if_neg (by omega), if_neg (by omega)]
    · rw [beamRes, if_neg (by omega), if_neg (by omega), if_neg (by omega)]
    · exact ⟨(0, caps 500), ⟨by simp, by rw [beamRes, if_neg (by omega), if_neg (by omega), if_pos ⟨by omega, by omega⟩]; rfl⟩, rfl⟩
  · obtain rfl := List.mem_singleton.1 hid
    refine ⟨Nat × Nat, st, inv, fun x => ps.length - x.1, ⟨fun s b h => h, by kernel_rfl, ?_⟩⟩
    rintro ⟨i, cap⟩ ⟨hi, hr⟩
    simp only at hi hr
    show Proofs.r61 _ _ ps.length cap (vi ps) i _ _ _
    rw [Proofs.r61_text]
    refine bc_dec (fun h => ?_) (fun h => ?_)
    · have hi' : i < ps.length := by omega
      have hd : ps.drop i = ps[i] :: ps.drop (i + 1) := List.drop_eq_getElem_cons hi'
      rw [hd, chk] at hr
      refine bc_yes (by omega) (bc_yes h ⟨ps[i], vi_at ps i hi', bc_dec (fun h1 => ?_) (fun h1 => bc_dec (fun h2 => ?_) (fun h2 => ?_))⟩)
      · rw [if_neg (by omega)] at hr; exact hr.symm
      · rw [if_neg (by omega)] at hr; exact hr.symm
      · rw [if_pos (by omega)] at hr
        refine ⟨(i + 1, cap), ⟨hi', by rw [hr]; rfl⟩, by show ps.length - (i + 1) < ps.length - i; omega, ?_⟩
        rw [w64 (by omega) (by omega)]; rfl
    · show (if 1 = 1 then _ else _)
      rw [if_pos rfl]
      show Proofs.n61 _ _ _
      rw [Proofs.n61_text]
      have : i = ps.length := by omega
      rw [this, List.drop_length] at hr
      exact hr.symm
theorem con37n : Con Try.prog 37 [.nil] [.sl 0 1 []] := by
  refine con_flat hokB mixed Try.func37 rfl (by show 0 ≤ 500; omega) rfl (by kernel_rfl) (fun caps => ?_)
  show g37n _ _ _
  rw [g37n_text]
  trivial

/-- the error of some temperatures -/
def tE (l : List Int) : Int := if ∀ x ∈ l, 0 ≤ x ∧ x ≤ 20000 then 0 else 2
theorem con89l : ∀ (l : List Int), l ≠ [] → l.length ≤ 5 → Con Try.prog 89 [.sl l.length 1 (vi l)] [dI (tE l)]
  | [], h, _ => absurd rfl h
  | [a], _, _ => by
    refine con_flat hokB mixed Try.func89 rfl (by show 1 ≤ 500; omega) rfl (by kernel_rfl) (fun caps => ?_)
    show g891 _ _ (caps 500) a _
    rw [g891_text]
    refine ⟨a, ⟨by simp, rfl⟩, ?_⟩
    simp only [tE, List.mem_cons, List.not_mem_nil, or_false, forall_eq]
    repeat' first
      | refine bc_dec (fun _ => ?_) (fun _ => ?_)
      | (rw [if_pos (by omega)]; done)
      | (rw [if_neg (by omega)]; done)
  | [a, b], _, _ => by
    refine con_flat hokB mixed Try.func89 rfl (by show 1 ≤ 500; omega) rfl (by kernel_rfl) (fun caps => ?_)
    show g892 _ _ (caps 500) a b _
    rw [g892_text]
    simp only [tE, List.mem_cons, List.not_mem_nil, or_false, forall_eq_or_imp, forall_eq]
    refine ⟨a, ⟨by simp, rfl⟩, ?_⟩
    repeat' first
      | refine bc_dec (fun _ => ?_) (fun _ => ?_)
      | refine ⟨b, ⟨by simp, rfl⟩, ?_⟩
      | (rw [if_pos (by omega)]; done)
      | (rw [if_neg (by omega)]; done)
  | [a, b, c], _, _ => by
    refine con_flat hokB mixed Try.func89 rfl (by show 1 ≤ 500; omega) rfl (by kernel_rfl) (fun caps => ?_)
    show g893 _ _ (caps 500) a b c _
    rw [g893_text]
    simp only [tE, List.mem_cons, List.not_mem_nil, or_false, forall_eq_or_imp, forall_eq]
    refine ⟨a, ⟨by simp, rfl⟩, bc_dec (fun _ => by rw [if_neg (by omega)]) (fun _ => bc_dec (fun _ => by rw [if_neg (by omega)]) (fun _ => ?_))⟩
    refine ⟨b, ⟨by simp, rfl⟩, bc_dec (fun _ => by rw [if_neg (by omega)]) (fun _ => bc_dec (fun _ => by rw [if_neg (by omega)]) (fun _ => ?_))⟩
    refine ⟨c, ⟨by simp, rfl⟩, bc_dec (fun _ => by rw [if_neg (by omega)]) (fun _ => bc_dec (fun _ => by rw [if_neg (by omega)]) (fun _ => by rw [if_pos (by omega)]))⟩
  | [a, b, c, d], _, _ => by
    refine con_flat hokB mixed Try.func89 rfl (by show 1 ≤ 500; omega) rfl (by kernel_rfl) (fun caps => ?_)
    show g894 _ _ (caps 500) a b c d _
    rw [g894_text]
    simp only [tE, List.mem_cons, List.not_mem_nil, or_false, forall_eq_or_imp, forall_eq]
    refine ⟨a, ⟨by simp, rfl⟩, bc_dec (fun _ => by rw [if_neg (by omega)]) (fun _ => bc_dec (fun _ => by rw [if_neg (by omega)]) (fun _ => ?_))⟩
    refine ⟨b, ⟨by simp, rfl⟩, bc_dec (fun _ => by rw [if_neg (by omega)]) (fun _ => bc_dec (fun _ => by rw [if_neg (by omega)]) (fun _ => ?_))⟩
    refine ⟨c, ⟨by simp, rfl⟩, bc_dec (fun _ => by rw [if_neg (by omega)]) (fun _ => bc_dec (fun _ => by rw [if_neg (by omega)]) (fun _ => ?_))⟩
    refine ⟨d, ⟨by simp, rfl⟩, bc_dec (fun _ => by rw [if_neg (by omega)]) (fun _ => bc_dec (fun _ => by rw [if_neg (by omega)]) (fun _ => by rw [if_pos (by omega)]))⟩
  | [a, b, c, d, e], _, _ => by
    refine con_flat hokB mixed Try.func89 rfl (by show 1 ≤ 500; omega) rfl (by kernel_rfl) (fun caps => ?_)
    show g895 _ _ (caps 500) a b c d e _
    rw [g895_text]
    simp only [tE, List.mem_cons, List.not_mem_nil, or_false, forall_eq_or_imp, forall_eq]
    refine ⟨a, ⟨by simp, rfl⟩, bc_dec (fun _ => by rw [if_neg (by omega)]) (fun _ => bc_dec (fun _ => by rw [if_neg (by omega)]) (fun _ => ?_))⟩
    refine ⟨b, ⟨by simp, rfl⟩, bc_dec (fun _ => by rw [if_neg (by omega)]) (fun _ => bc_dec (fun _ => by rw [if_neg (by omega)]) (fun _ => ?_))⟩
    refine ⟨c, ⟨by simp, rfl⟩, bc_dec (fun _ => by rw [if_neg (by omega)]) (fun _ => bc_dec (fun _ => by rw [if_neg (by omega)]) (fun _ => ?_))⟩
    refine ⟨d, ⟨by simp, rfl⟩, bc_dec (fun _ => by rw [if_neg (by omega)]) (fun _ => bc_dec (fun _ => by rw [if_neg (by omega)]) (fun _ => ?_))⟩
    refine ⟨e, ⟨by simp, rfl⟩, bc_dec (fun _ => by rw [if_neg (by omega)]) (fun _ => bc_dec (fun _ => by rw [if_neg (by omega)]) (fun _ => by rw [if_pos (by omega)]))⟩
  | _ :: _ :: _ :: _ :: _ :: _ :: _, _, h => by simp only [List.length_cons] at h; omega
abbrev tick (a : Int) : Prop := 0 ≤ a ∧ a ≤ 1000000000000
theorem con122a (a : Int) : Con Try.prog 122 [.sl 1 1 [.int .i64 a]] [dI (if tick a then 0 else 2)] := by
  refine con_flat hokB mixed Try.func122 rfl (by show 1 ≤ 500; omega) rfl (by kernel_rfl) (fun caps => ?_)
  show g1221 _ _ (caps 500) a _
  rw [g1221_text]
  refine ⟨a, ⟨by simp, rfl⟩, bc_dec (fun _ => by rw [if_neg (by omega)]) (fun _ => bc_dec (fun _ => by rw [if_neg (by omega)]) (fun _ => by rw [if_pos (by omega)]))⟩
theorem con122b (a b : Int) : Con Try.prog 122 [.sl 2 1 [.int .i64 a, .int .i64 b]] [dI (if tick a ∧ tick b then 0 else 2)] := by
  refine con_flat hokB mixed Try.func122 rfl (by show 1 ≤ 500; omega) rfl (by kernel_rfl) (fun caps => ?_)
  show g1222 _ _ (caps 500) a b _
  rw [g1222_text]
  refine ⟨a, ⟨by simp, rfl⟩, bc_dec (fun _ => by rw [if_neg (by omega)]) (fun _ => bc_dec (fun _ => by rw [if_neg (by omega)]) (fun _ => ?_))⟩
  refine ⟨b, ⟨by simp, rfl⟩, bc_dec (fun _ => by rw [if_neg (by omega)]) (fun _ => bc_dec (fun _ => by rw [if_neg (by omega)]) (fun _ => by rw [if_pos (by omega)]))⟩
theorem con88b (a b : Int) : Con Try.prog 88 [.sl 2 1 [.int .i64 a, .int .i64 b]] [dI (if a ≠ 0 then a else b)] := by
  have h := con88 [a, b] (by simp)
  have e : fst0 [a, b] = if a ≠ 0 then a else b := by
    simp only [fst0]
    by_cases h : a = 0
    · by_cases h2 : b = 0
      · simp [h, h2]
      · simp [h, h2]
    · simp [h]
  rw [e] at h
  exact h
end Go.Proofs.B
