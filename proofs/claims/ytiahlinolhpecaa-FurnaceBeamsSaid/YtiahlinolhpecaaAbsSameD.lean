/- A call that gives back what it was handed (a copy). -/
import Derived.Test.YtiahlinolhpecaaAbsWp
namespace Go.Abs
/-- Data are laid as they are. -/
def layC : List D → Heap → (List Value → Heap → Prop) → Prop
  | [], H, k => k [] H
  | .nil :: r, H, k => layC r H fun vs H' => k (.slice none 0 0 :: vs) H'
  | .sl n es cs :: r, H, k => layC r (H.new (.sym cs true es)) fun vs H' => k (.slice (some ⟨H.next, 0, none⟩) n n :: vs) H'
  | .val v :: r, H, k => match v with
    | .agg _ => False
    | v => layC r H fun vs H' => k (v :: vs) H'
  | .agg _ :: _, _, _ => False
def layV : List D → Heap → (List Value → Heap → Prop) → Prop
  | [], H, k => k [] H
  | .agg ds :: r, H, k => layC ds H fun vs H1 => layV r H1 fun us H2 => k (.agg vs.toArray :: us) H2
  | d :: r, H, k => layC [d] H fun vs H1 => match vs with
    | [v] => layV r H1 fun us H2 => k (v :: us) H2
    | _ => False
def wpSame (C : FuncId → List D → List D → Prop) (g : FuncId) (args : Array Value) (H : Heap) (k : Value → Heap → Prop) : Prop :=
  readVals H args.toList fun ds => Says C g ds ds ∧ layV ds H fun vs H' => k (tupleOf vs) H'
def handlerS (C : FuncId → List D → List D → Prop) (same : FuncId → Bool) (base : Handler) : Handler := fun g args ats H k =>
  if same g then wpSame C g args H k else base g args ats H k
/-- A call whose result is known by the shape of what it was handed. -/
def wpFix (C : FuncId → List D → List D → Prop) (g : FuncId) (fix : List D → Option (List D)) (args : Array Value) (H : Heap) (k : Value → Heap → Prop) : Prop :=
  readVals H args.toList fun ds => match fix ds with
    | some rs => Says C g ds rs ∧ layV rs H fun vs H' => k (tupleOf vs) H'
    | none => False
def handlerF (C : FuncId → List D → List D → Prop) (fix : FuncId → Option (List D → Option (List D))) (base : Handler) : Handler := fun g args ats H k =>
  match fix g with
  | some f => wpFix C g f args H k
  | none => base g args ats H k
/-- A copy of whole numbers is never nil. -/
def copyInts : List D → Option (List D)
  | [.nil] => some [.sl 0 1 []]
  | [.sl n es cs] => some [.sl n es cs]
  | _ => none
/-- A struct that begins with a list: the list is copied. -/
def copyFirst : List D → Option (List D)
  | [.agg (.nil :: r)] => some [.agg (.sl 0 1 [] :: r)]
  | [.agg (.sl n es cs :: r)] => some [.agg (.sl n es cs :: r)]
  | _ => none
end Go.Abs
