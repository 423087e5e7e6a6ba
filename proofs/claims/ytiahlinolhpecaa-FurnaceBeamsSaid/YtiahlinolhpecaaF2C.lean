/- Contracts of chapter 2. -/
import Derived.Test.YtiahlinolhpecaaF2T
import Derived.Test.YtiahlinolhpecaaAbsUse
namespace Go.Proofs
open Go Go.Abs
set_option maxRecDepth 100000
theorem mixed : Try.prog.follows .mixedOrders = true := by kernel_rfl
theorem hok : HandlerOK Try.prog (hB (Con Try.prog)) := handlerN_ok mixed (fun _ _ _ h => h) (by decide) 5
abbrev dI (n : Int) : D := .val (.int .i64 n)
/-- The first bad number of a list, from an index on. -/
def chk : List Int → Int → List D
  | [], _ => [dI 0, dI 0]
  | p :: r, i => if 1 ≤ p ∧ p ≤ 200 then chk r (i + 1) else [dI i, dI 2]
def beamRes (ps : List Int) (beat : Int) : List D :=
  if ps.length = 0 then [dI 0, dI 10] else if 5 < ps.length then [dI 0, dI 8] else if 1 ≤ beat ∧ beat ≤ 1000 then chk ps 0 else [dI 0, dI 2]
abbrev dBeam (ps : List Int) (beat : Int) : D := .agg [.sl ps.length 1 (vi ps), dI beat]
theorem con66 (ps : List Int) (beat : Int) (hlen : ps.length < 1000000000) : Con Try.prog 66 [dBeam ps beat] (beamRes ps beat) := by
  let inv : Nat × Nat → Prop := fun x => x.1 ≤ ps.length ∧ beamRes ps beat = chk (ps.drop x.1) x.1
  let st : Nat × Nat → Slots × Blocks := fun x => (s66 x.1, bxB ps.length x.2 (vi ps) beat)
  refine con_of (L := fun _ s b => ∃ x, inv x ∧ st x = (s, b)) hok mixed Try.func66 rfl (by show 1 ≤ 500; omega) rfl (ids := [0]) (by kernel_rfl) rfl (fun caps => ?_) (fun id hid => ?_)
  · show g66 _ _ ps.length (caps 500) (vi ps) beat _
    rw [g66_text]
    refine bc_beq (fun h => ?_) (fun h0 => bc_dec (fun h => ?_) (fun h5 => bc_dec (fun h1 => bc_dec (fun h2 => ?_) (fun h2 => ?_)) (fun h1 => ?_)))
    · rw [beamRes, if_pos (by omega)]
    · rw [beamRes, if_neg (by omega), if_pos (by omega)]
    · exact ⟨(0, caps 500), ⟨by simp, by rw [beamRes, if_neg (by omega), if_neg (by omega), if_pos ⟨h1, h2⟩]; rfl⟩, rfl⟩
    · rw [beamRes, if_neg (by omega), if_neg (by omega), if_neg (by omega)]
    · rw [beamRes, if_neg (by omega), if_neg (by omega), if_neg (by omega)]
  · obtain rfl := List.mem_singleton.1 hid
    refine ⟨Nat × Nat, st, inv, fun x => ps.length - x.1, ⟨fun s b h => h, by kernel_rfl, ?_⟩⟩
    rintro ⟨i, cap⟩ ⟨hi, hr⟩
    show r66 _ _ ps.length cap (vi ps) beat i _ _ _
    rw [r66_text]
    refine bc_dec (fun h => ?_) (fun h => ?_)
    · have hi' : i < ps.length := by omega
      have hd : ps.drop i = ps[i] :: ps.drop (i + 1) := List.drop_eq_getElem_cons hi'
      rw [hd, chk] at hr
      refine bc_yes (by omega) (bc_yes h ⟨ps[i], vi_at ps i hi', bc_dec (fun h1 => bc_dec (fun h2 => ?_) (fun h2 => ?_)) (fun h1 => ?_)⟩)
      · rw [if_pos ⟨h1, h2⟩] at hr
        refine ⟨(i + 1, cap), ⟨by omega, ?_⟩, by omega, ?_⟩
        · rw [hr]; rfl
        · rw [w64 (by omega) (by omega)]; rfl
      · rw [if_neg (by omega)] at hr; exact hr.symm
      · rw [if_neg (by omega)] at hr; exact hr.symm
    · show (if 0 = 0 then _ else _)
      rw [if_pos rfl]
      show n66 _ _ _
      rw [n66_text]
      have : i = ps.length := by omega
      rw [this, List.drop_length] at hr
      exact hr.symm
#print axioms con66
end Go.Proofs
