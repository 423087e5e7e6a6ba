/- One operation: the evaluator is sound. -/
import Derived.Test.YtiahlinolhpecaaAbsMaps
namespace Go.Abs
open Go.RowKit
variable {P : Program} {ρ : Ren} {w0 w : World} {H : Heap}

inductive NxR (ρ : Ren) (w : World) : ANext → Next → Prop
  | value {v v' : Value} (h : VR ρ v v') : NxR ρ w (.value v) (.value v')
  | skip : NxR ρ w .skip .skip
  | enter {f : FuncId} {a a' : Array Value} (h : LR ρ a.toList a'.toList) : NxR ρ w (.enter f a) (.enter f a')
  | round {l : Nat} {a a' : Array Value} {m : Meta} {L : Loop} (hm : ρ l = some m) (hL : w.heap[m.b]? = some (.loop L)) (h : LR ρ a.toList a'.toList) :
      NxR ρ w (.round l a) (.round m.b L.fn ((L.params.zip a').foldl (fun tmps (t, a) => tmps.setIfInBounds t a) L.tmps) L.assign L.body)

/-- What is shown of one operation. -/
def OpS (P : Program) (w0 : World) (ρ : Ren) (H : Heap) (w : World) (nx : ANext) (H' : Heap) (e : Sem Next) : Prop :=
  ∃ ρ' nx' w', Gam w0 ρ' H' w' ∧ Ext ρ ρ' H H' ∧ NxR ρ' w' nx nx' ∧ e.run P w = .ok nx' w'

theorem OpS.val (g : Gam w0 ρ H w) {v v' : Value} (h : VR ρ v v') {e : Sem Next} (he : e.run P w = .ok (.value v') w) : OpS P w0 ρ H w (.value v) H e :=
  ⟨ρ, _, w, g, .refl _ _, .value h, he⟩

theorem pv (g : Gam w0 ρ H w) {e e' : Sem Value} {E : Sem Next} {nx : ANext} {H' : Heap} (hpr : PR P (VR ρ) e e') (h : ((pureRun P e).bind fun x => some (ANext.value x, H)) = some (nx, H'))
    (hE : E = (do pure (.value (← e')))) : OpS P w0 ρ H w nx H' E := by
  obtain ⟨x, hx, h⟩ := Option.bind_eq_some_iff.1 h
  simp only [Option.some.injEq, Prod.mk.injEq] at h
  obtain ⟨rfl, rfl⟩ := h
  obtain ⟨y, hy, hrun⟩ := hpr.sound hx
  refine .val g hy ?_
  rw [hE]
  simp only [Sem.run_bind, hrun w, Result.andThen_ok]
  rfl
theorem pp (g : Gam w0 ρ H w) {e : Sem Value} {E : Sem Next} {nx : ANext} {H' : Heap} (h : ((pureRun P e).bind fun x => if plain 8 x = true then some (ANext.value x, H) else none) = some (nx, H'))
    (hE : E = (do pure (.value (← e)))) : OpS P w0 ρ H w nx H' E := by
  obtain ⟨x, hx, h⟩ := Option.bind_eq_some_iff.1 h
  split at h
  · rename_i hp
    simp only [Option.some.injEq, Prod.mk.injEq] at h
    obtain ⟨rfl, rfl⟩ := h
    obtain ⟨y, rfl, hrun⟩ := (PR.refl (P := P) e).sound hx
    refine .val g (plain_refl ρ 8 _ hp) ?_
    rw [hE]
    simp only [Sem.run_bind, hrun w, Result.andThen_ok]
    rfl
  · cases h
/-- The same, where the two sides yield one plain value. -/
theorem pq (g : Gam w0 ρ H w) {e e' : Sem Value} {E : Sem Next} {nx : ANext} {H' : Heap} (hpr : PR P Eq e e') (h : ((pureRun P e).bind fun x => if plain 8 x = true then some (ANext.value x, H) else none) = some (nx, H'))
    (hE : E = (do pure (.value (← e')))) : OpS P w0 ρ H w nx H' E := by
  obtain ⟨x, hx, h⟩ := Option.bind_eq_some_iff.1 h
  split at h
  · rename_i hp
    simp only [Option.some.injEq, Prod.mk.injEq] at h
    obtain ⟨rfl, rfl⟩ := h
    obtain ⟨y, rfl, hrun⟩ := hpr.sound hx
    refine .val g (plain_refl ρ 8 _ hp) ?_
    rw [hE]
    simp only [Sem.run_bind, hrun w, Result.andThen_ok]
    rfl
  · cases h

theorem storeA_sound (g : Gam w0 ρ H w) {t : TypeId} {p p' v v' : Value} {H' : Heap} (hp : VR ρ p p') (hv : VR ρ v v') (h : storeA P H t p v = some H') :
    ∃ w', Gam w0 ρ H' w' ∧ Ext ρ ρ H H' ∧ (Instr.storeAt t p' v').run P w = .ok () w' := by
  unfold storeA at h
  have core : ∀ (i k : Nat) (m : Meta), ρ i = some m → (do
      let n ← sizeP P t
      if v.cells.size = n && known v then H.write i k v.cells.toList else none : Option Heap) = some H' →
      ∃ w', Gam w0 ρ H' w' ∧ Ext ρ ρ H H' ∧ (Instr.storeAt t (.pointer (some ⟨m.b, m.o + k, none⟩)) v').run P w = .ok () w' := by
    intro i k m hm h
    obtain ⟨n, hn, h⟩ := Option.bind_eq_some_iff.1 h
    split at h
    · rename_i hc
      simp only [Bool.and_eq_true, decide_eq_true_eq] at hc
      have hcl := cells_LR hv hc.2
      obtain ⟨w', hst, g', ext⟩ := g.write (P := P) hm hcl h
      refine ⟨w', g', ext, ?_⟩
      have hsz := hcl.size
      simp only [Instr.storeAt, Instr.sureAddr, storeVar, Sem.run_bind, Sem.run_pure, Result.andThen_ok, size_run hn]
      rw [if_neg (by rw [← hsz, hc.1]; simp)]
      exact hst
    · cases h
  cases hp with
  | ptr i k m hm => exact core i k m hm h
  | glob i k hi =>
    exfalso
    obtain ⟨n, hn, h⟩ := Option.bind_eq_some_iff.1 h
    split at h
    · unfold Heap.write at h
      cases ho : H.get i with
      | none => simp [ho] at h
      | some o =>
        cases o with
        | cells l ty opn es =>
          simp only [ho] at h
          split at h
          · rename_i hc2
            simp only [Bool.and_eq_true, decide_eq_true_eq] at hc2
            (unfold gbase abase at *; omega)
          · cases h
        | _ => simp [ho] at h
    · cases h
  | _ => simp at h

theorem isOpen_of (g : Gam w0 ρ H w) {i : Nat} {m : Meta} (hm : ρ i = some m) (k cap : Nat) (h : H.isOpen i k cap = false) : m.isOpen k cap = false := by
  unfold Heap.isOpen at h
  cases ho : H.get i with
  | none => simp [ho] at h
  | some o =>
    simp only [ho, Option.map_some, Option.getD_some] at h
    have hr := g.obj i m o hm ho
    cases o with
    | cells l ty opn es =>
      obtain ⟨e1, e2, e3, _⟩ := hr
      simpa [Meta.isOpen, AObj.isOpen, e1, e2, e3] using h
    | dead n opn es =>
      obtain ⟨e1, e2, e3⟩ := hr
      simpa [Meta.isOpen, AObj.isOpen, e1, e2, e3] using h
    | sym l opn es =>
      obtain ⟨⟨e1, e2, e3, _⟩, _⟩ := hr
      simpa [Meta.isOpen, AObj.isOpen, e1, e2, e3] using h
    | _ => simp [AObj.isOpen] at h

theorem sliceA_sound (g : Gam w0 ρ H w) {t : TypeId} {x x' r : Value} {lo lo' hi hi' mx mx' : Option Value} (hx : VR ρ x x') (hlo : OptR ρ lo lo') (hhi : OptR ρ hi hi') (hmx : OptR ρ mx mx')
    (h : sliceA P H t x lo hi mx = some r) : ∃ r', VR ρ r r' ∧ (Instr.sliceAt t x' lo' hi' mx').run P w = .ok r' w := by
  have viaPR : (∀ i k len cap m, x = .slice (some ⟨i, k, none⟩) len cap → ρ i = some m → m.isOpen k cap = true → mx ≠ none) → (∀ a, x = .pointer (some a) → gbase ≤ a.block) →
      pureRun P (Instr.sliceAt t x lo hi mx) = some r → ∃ r', VR ρ r r' ∧ (Instr.sliceAt t x' lo' hi' mx').run P w = .ok r' w := by
    intro h1 h2 h3
    obtain ⟨r', hr, hrun⟩ := (sliceAt_PR (P := P) hx hlo hhi hmx h1 h2).sound h3
    exact ⟨r', hr, hrun w⟩
  unfold sliceA at h
  split at h
  · rename_i i k len cap
    split at h
    · rename_i hop
      simp only [Bool.and_eq_true] at hop
      obtain ⟨hop, hmn⟩ := hop
      cases hmx with
      | some hm => simp at hmn
      | none =>
        cases hu : P.underlying t with
        | none => simp [hu] at h
        | some d =>
          cases d with
          | slice elem =>
            simp only [hu, Option.bind_eq_bind, Option.bind_some] at h
            obtain ⟨size, hsz, h⟩ := Option.bind_eq_some_iff.1 h
            obtain ⟨o, ho, h⟩ := Option.bind_eq_some_iff.1 h
            obtain ⟨es, hes, h⟩ := Option.bind_eq_some_iff.1 h
            split at h
            · rename_i hee
              obtain ⟨⟨l, hh, mm⟩, hb, h⟩ := Option.bind_eq_some_iff.1 h
              split at h
              case isFalse => cases h
              rename_i hhc
              dsimp only at hhc h
              simp only [Option.some.injEq] at h
              subst h
              obtain ⟨m, hm, off, capC, rfl, hcap, hx1, hx2⟩ := slice_inv hx
              have hrm := g.obj i m o hm ho
              have hmo : m.isOpen k cap = true ∧ m.es = es := by
                unfold Heap.isOpen at hop
                simp only [ho, Option.map_some, Option.getD_some] at hop
                cases o with
                | cells l ty opn es0 =>
                  obtain ⟨e1, e2, e3, _⟩ := hrm
                  simp only [AObj.es?, Option.some.injEq] at hes
                  exact ⟨by simpa [Meta.isOpen, AObj.isOpen, e1, e2, e3] using hop, by rw [e3, hes]⟩
                | dead n opn es0 =>
                  obtain ⟨e1, e2, e3⟩ := hrm
                  simp only [AObj.es?, Option.some.injEq] at hes
                  exact ⟨by simpa [Meta.isOpen, AObj.isOpen, e1, e2, e3] using hop, by rw [e3, hes]⟩
                | sym l opn es0 =>
                  obtain ⟨⟨e1, e2, e3, _⟩, _⟩ := hrm
                  simp only [AObj.es?, Option.some.injEq] at hes
                  exact ⟨by simpa [Meta.isOpen, AObj.isOpen, e1, e2, e3] using hop, by rw [e3, hes]⟩
                | _ => simp [AObj.es?] at hes
              obtain ⟨hmo, hmes⟩ := hmo
              obtain ⟨⟨l', h', m'⟩, hbd, hrun⟩ := (sliceBounds_PR (P := P) hlo hhi .none true len hcap).sound hb
              obtain ⟨b1, b2, b3, b4, b5, b6⟩ := hbd
              simp only at b1 b2 b3 b5
              obtain ⟨b7, b8⟩ := b3 trivial
              subst b1 b2 b7 b8
              have hopn : m.opn = true ∧ k + mm * m.es = m.known := by
                simpa [Meta.isOpen] using hmo
              obtain ⟨hopn, hko⟩ := hopn
              rw [hmes, hee] at hko
              refine ⟨.slice (if m' = l then some ⟨m.b, off, none⟩ else some ((⟨m.b, off, none⟩ : Addr).add (l * size))) (hh - l) (m' - l), ?_, ?_⟩
              · by_cases hml : m' = l
                · obtain rfl : mm = l := by omega
                  have e0 : hh - mm = 0 := by omega
                  have e1 : m' - mm = 0 := by omega
                  rw [if_pos hml, e0, e1, Nat.sub_self]
                  refine .empty i (k + mm * size) off m hm ?_ (slice_off hx hm rfl hmo)
                  simp only [Meta.isOpen, hopn, Bool.true_and, beq_iff_eq]
                  omega
                · rw [if_neg hml, addr_add]
                  have hlm : l ≤ mm := by omega
                  rcases hx2 hmo with ⟨hoff, hroom⟩ | ⟨_, c1, c2⟩
                  · rw [hoff, Nat.add_assoc]
                    have e2 : mm * size = l * size + (mm - l) * size := by rw [← Nat.add_mul]; congr 1; omega
                    have e3 : m' * size = l * size + (m' - l) * size := by rw [← Nat.add_mul]; congr 1; omega
                    rw [hmes, hee] at hroom
                    refine .opened i (k + l * size) (hh - l) (mm - l) (m' - l) m hm ?_ (by omega) ?_
                    · simp only [Meta.isOpen, hopn, Bool.true_and, beq_iff_eq, hmes, hee]
                      omega
                    · rw [hmes, hee]
                      omega
                  · exact absurd (by omega) hml
              · unfold Instr.sliceAt
                simp only [Sem.run_bind, und_run hu, Result.andThen_ok]
                unfold Instr.slice
                simp only [Sem.run_bind, und_run hu, Result.andThen_ok, hrun w, size_run hsz, Sem.run_pure, Option.map_some]
            · cases h
          | _ => simp [hu] at h
    · rename_i hop
      simp only [Bool.and_eq_true, not_and, Bool.not_eq_true] at hop
      refine viaPR ?_ (fun a e => by cases e) h
      intro i' k' len' cap' m e hm ho
      cases e
      by_cases hp : H.isOpen i k cap = true
      · have := hop hp
        intro e
        rw [e] at this
        cases this
      · have := isOpen_of g hm k cap (by simpa using hp)
        rw [this] at ho
        cases ho
  · rename_i a
    split at h
    · rename_i hg
      refine viaPR (fun _ _ _ _ _ e => by cases e) ?_ h
      intro a' e
      cases e
      exact hg
    · cases h
  · rename_i n1 n2
    refine viaPR ?_ ?_ h
    · intro i k len cap m e
      exact absurd e (n1 i k len cap)
    · intro a e
      exact absurd e (n2 a)

end Go.Abs
