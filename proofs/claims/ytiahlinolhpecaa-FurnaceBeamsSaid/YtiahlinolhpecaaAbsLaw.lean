/- A law's frame: what is read stays read; what a contract gives is the row's outcome. -/
import Derived.Test.YtiahlinolhpecaaPostBelow
import Derived.Test.YtiahlinolhpecaaAbsUse
import Derived.ReadAgain
import Derived.ChangeBears
import Derived.ChangeSlices
import Derived.ProofKit
import Derived.OpenShut
namespace Go.Abs
open Go.RowKit Go.ChangeShapes Go.WideShapes Go.ChangeAt
variable {H : Type} {enc : TypeId × Value → H} {P : Program} {W W' : World}

theorem same_below (hb : Below W.heap.size W W') {p : MemPlace} (hp : p.block < W.heap.size) : W.sameAt W' p := by
  cases p with
  | cell b o =>
    have : W'.heap[b]? = W.heap[b]? := hb.block b hp
    simp only [World.sameAt, World.cell?, this]
  | map b => exact hb.block b hp
theorem trodAll_back {T : TypeId → Prop} {sp : Nat → Bool} (K : Kids P T) (hz : ∀ t e, T t → P.underlying t = some (.slice e) → 0 < P.cellsOf e) : ∀ {ts : List TypeId} {vs : List Value} {ds : List (DataW H)} {ps : List MemPlace},
    (∀ t ∈ ts, T t) → DataW.TrodAll enc P W 0 (fun _ => true) true ts vs ds ps → (∀ p ∈ ps, W.sameAt W' p) → (∀ p ∈ ps, sp p.block = true) → DataW.TrodAll enc P W' 0 sp true ts vs ds ps
  | [], [], [], _, _, h, _, _ => h
  | _ :: _, _ :: _, _ :: _, _, hT, ⟨p, q, ⟨n, h1⟩, h2, e⟩, hs, hq =>
    ⟨p, q, ⟨n, DataW.trod_respare K hz n _ _ _ (hT _ (List.mem_cons_self ..)) (DataW.trod_carry n _ _ _ h1 (fun x hx => hs x (by rw [e]; exact List.mem_append_left _ hx))) (fun x hx => hq x (by rw [e]; exact List.mem_append_left _ hx))⟩,
      trodAll_back K hz (fun t ht => hT t (List.mem_cons_of_mem _ ht)) h2 (fun x hx => hs x (by rw [e]; exact List.mem_append_right _ hx)) (fun x hx => hq x (by rw [e]; exact List.mem_append_right _ hx)), e⟩

/-- THE FRAME OF A LAW that is known by its contract. -/
theorem law_frame {f : FuncId} {fn : Func} {s : ChangeSpec} {args : Array Value} {ds gs : List (DataW H)} {before : List MemPlace} {tb : TypeId} {rds : List D}
    (hlaid : laidOutB P = true) (hmaps : mapsRowed P = true) (hz : ∀ t e, t < P.types.size → P.underlying t = some (.slice e) → 0 < P.cellsOf e) (hts : ∀ t ∈ fn.params.toList, t < P.types.size)
    (hrt : fn.resultTypes = #[tb]) (hbool : P.underlying tb = some .bool) (hv : s.vars = [])
    (hres : (s.fn H (ds ++ gs)).results = [.lit (.bool true)]) (hargs : (s.fn H (ds ++ gs)).args = ds) (hvr : (s.fn H (ds ++ gs)).vars = [])
    (hW : DataW.Whole enc P fn.params.toList s.vars false W args.toList ds gs before)
    (hr : ReadsL W rds args.toList) (hc : Con P f rds [.val (.bool true)]) :
    Calls P f args W fun e W' => ∃ v, e = .returned v ∧ s.post enc P fn false true false false W args v W' := by
  have hW' := hW
  obtain ⟨p, q, hA, hV, rfl, hfz, hnd⟩ := hW
  rw [hv] at hV
  obtain ⟨rfl, rfl⟩ := trodVars_none hV
  refine (hc W args hr).mono ?_
  rintro e W' ⟨⟨vs, u, rfl, hg⟩, hb⟩
  have hvs : vs = [.bool true] := by
    cases hg with
    | cons h t => cases t; cases h; rfl
  subst hvs
  refine ⟨.bool true, rfl, Flat.post_of_below (pa := p) (pv := []) hW' (fun b sp hd => ?_) (fun sp hsp => ?_) (fun sp _ => ?_) rfl hb ?_⟩
  · rw [hres, hrt]
    exact trodAll_cons_mk (shut_bool hbool _) trodAll_mk0
  · rw [hargs]
    have hlt : ∀ x ∈ p ++ [], x.block < W.heap.size := fun x hx => hW'.lt x hx
    exact trodAll_back (kids_rows hlaid hmaps) hz hts hA (fun x hx => same_below hb (hlt x (by simpa using hx))) (fun x hx => hsp x (by simpa using hx))
  · rw [hv, hvr]; exact rfl
  · intro j t r h1 h2
    rw [hrt] at h1 h2
    cases j with
    | zero =>
      simp at h1 h2
      subst h1
      have : r = .bool true := by simpa [Value.resultList] using h2.symm
      subst this
      exact okWide_bool_mk hbool _
    | succ j => simp at h1
end Go.Abs
