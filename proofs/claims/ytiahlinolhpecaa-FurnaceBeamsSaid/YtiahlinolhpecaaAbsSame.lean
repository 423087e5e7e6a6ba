/- A call that gives back what it was handed: it holds. -/
import Derived.Test.YtiahlinolhpecaaAbsSameD
import Derived.Test.YtiahlinolhpecaaAbsCon2
namespace Go.Abs
open Go.RowKit
variable {P : Program} {H : Heap}
theorem layC_out : ∀ (ds : List D) {H : Heap} {k : List Value → Heap → Prop}, layC ds H k → ∃ vs H', LaidC H ds vs H' ∧ k vs H'
  | [], H, k, h => ⟨_, _, .nil H, h⟩
  | .nil :: r, H, k, h => by
    obtain ⟨vs, H', h1, h2⟩ := layC_out r h
    exact ⟨_, _, .nilS h1, h2⟩
  | .sl n es cs :: r, H, k, h => by
    obtain ⟨vs, H', h1, h2⟩ := layC_out r h
    exact ⟨_, _, .sl n es cs h1, h2⟩
  | .val v :: r, H, k, h => by
    unfold layC at h
    split at h
    · cases h
    · rename_i hv
      obtain ⟨vs, H', h1, h2⟩ := layC_out r h
      exact ⟨_, _, .val _ (fun cs e => hv cs e) h1, h2⟩
  | .agg _ :: _, H, k, h => by cases h
theorem layV_out : ∀ (ds : List D) {H : Heap} {k : List Value → Heap → Prop}, layV ds H k → ∃ vs H', LaidV H ds vs H' ∧ k vs H'
  | [], H, k, h => ⟨_, _, .nil H, h⟩
  | d :: r, H, k, h => by
    unfold layV at h
    split at h
    · rename_i e; cases e
    · rename_i e; cases e
      obtain ⟨vs, H1, h1, h⟩ := layC_out _ h
      obtain ⟨us, H2, h2, h3⟩ := layV_out _ h
      exact ⟨_, _, .agg h1 h2, h3⟩
    · rename_i e; cases e
      obtain ⟨vs, H1, h1, h⟩ := layC_out _ h
      split at h
      · obtain ⟨us, H2, h2, h3⟩ := layV_out _ h
        exact ⟨_, _, .one h1 h2, h3⟩
      · cases h
theorem wpSame_call {C : FuncId → List D → List D → Prop} (hC : ∀ f ds rs, C f ds rs → Con P f ds rs) {f : FuncId} {args : Array Value} {k : Value → Heap → Prop} (hk : wpSame C f args H k) : CallH P f args H k := by
  intro w0 ρ w args' n g ha
  obtain ⟨ds, hr, hs, hk⟩ := readVals_out g _ ha hk
  obtain ⟨vs, H', hl, hk⟩ := layV_out ds hk
  refine callsIn_wide.2 ((hC f ds ds hs.out w args' hr).mono ?_)
  rintro e w' ⟨⟨vs', u, rfl, hg⟩, hb⟩
  obtain ⟨ρ', g', l', e', _⟩ := laidV_sound hl (g.grow hb) g.below.size (fun i m hm => .inl (g.own i m hm).1) hg
  exact ⟨_, H', ρ', _, hk, rfl, tupleOf_R l', g', e'⟩
theorem handlerS_ok {C : FuncId → List D → List D → Prop} (hC : ∀ f ds rs, C f ds rs → Con P f ds rs) {same : FuncId → Bool} {base : Handler} (hb : HandlerOK P base) : HandlerOK P (handlerS C same base) := by
  intro g args ats H k hk
  unfold handlerS at hk
  split at hk
  · exact wpSame_call hC hk
  · exact hb g args ats H k hk
theorem wpFix_call {C : FuncId → List D → List D → Prop} (hC : ∀ f ds rs, C f ds rs → Con P f ds rs) {f : FuncId} {fix : List D → Option (List D)} {args : Array Value} {k : Value → Heap → Prop} (hk : wpFix C f fix args H k) : CallH P f args H k := by
  intro w0 ρ w args' n g ha
  obtain ⟨ds, hr, hk⟩ := readVals_out g _ ha hk
  split at hk
  · rename_i rs _
    obtain ⟨hs, hk⟩ := hk
    obtain ⟨vs, H', hl, hk⟩ := layV_out rs hk
    refine callsIn_wide.2 ((hC f ds rs hs.out w args' hr).mono ?_)
    rintro e w' ⟨⟨vs', u, rfl, hg⟩, hb⟩
    obtain ⟨ρ', g', l', e', _⟩ := laidV_sound hl (g.grow hb) g.below.size (fun i m hm => .inl (g.own i m hm).1) hg
    exact ⟨_, H', ρ', _, hk, rfl, tupleOf_R l', g', e'⟩
  · exact hk.elim
theorem handlerF_ok {C : FuncId → List D → List D → Prop} (hC : ∀ f ds rs, C f ds rs → Con P f ds rs) {fix : FuncId → Option (List D → Option (List D))} {base : Handler} (hb : HandlerOK P base) : HandlerOK P (handlerF C fix base) := by
  intro g args ats H k hk
  unfold handlerF at hk
  split at hk
  · exact wpFix_call hC hk
  · exact hb g args ats H k hk
end Go.Abs
