/- Texts of the proof, put together: GoOA0, GoOA1, GoOA2, GoOA3, GoOA, AbsPasD, AbsListD, AbsShort2, GoPOT, AbsList, GoO22, AbsGood, GoOK0, GoOLK. -/
import Derived.Test.YteadiejdhplokaaGreatP6
import Derived.Test.YteadiejdhplokaaGreatP3
import Derived.Test.YteadiejdhplokaaGreatP4
import Derived.Test.YteadiejdhplokaaGreatGoPT
import Derived.Lib.LaidTab
import Derived.Lib.ItoaNum
import Derived.Test.YteadiejdhplokaaGreatRows
import Derived.Handed
import Derived.JoinedCond
/- awake of chapter 3, for every tape: by what is known of some functions. -/
namespace Go.Proofs.G5o
open Go Go.Abs Go.Proofs Go.Str
set_option maxRecDepth 100000
def unFv : List Value → Option (List Fv)
  | [] => some []
  | .int .i64 a :: .int .i64 b :: .int .i64 c :: .int .i64 d :: .int .i64 e :: r => (unFv r).map (⟨a, b, c, d, e⟩ :: ·)
  | _ => none
theorem unFv_ok : ∀ {l : List Value} {ss : List Fv}, unFv l = some ss → l = vs5 ss := by
  intro l
  induction l using unFv.induct with
  | case1 => intro ss h; rw [unFv] at h; obtain rfl := Option.some.inj h; rfl
  | case2 a b c d e r ih =>
    intro ss h
    rw [unFv] at h
    obtain ⟨t, ht, rfl⟩ := Option.map_eq_some_iff.1 h
    rw [ih ht]; rfl
  | case3 l h1 h2 => intro ss h; rw [unFv] at h <;> first | (cases h; done) | assumption
def parR : D → Option Ru
  | .agg [.val (.int .i64 w), .val (.int .i64 st), .val (.int .i64 fi), .val (.int .i64 hlo), .val (.int .i64 hhi), .val (.int .i64 co), .sl n 5 l, .val (.int .i64 slo), .val (.int .i64 shi), .val (.int .i64 flo), .val (.int .i64 fhi)] =>
    match unFv l with
    | some ss => if ss.length = n then some ⟨w, st, fi, hlo, hhi, co, ss, slo, shi, flo, fhi⟩ else none
    | none => none
  | _ => none
theorem parR_ok {d : D} {r : Ru} (h : parR d = some r) : d = r.d := by
  unfold parR at h
  split at h
  · split at h
    · rename_i e
      split at h
      · obtain rfl := Option.some.inj h
        rename_i hn; subst hn
        rw [unFv_ok e]
      · cases h
    · cases h
  · cases h
def drB (r : Ru) (k : Int) (b h : Int) : Bool := decide (rngB r) && r.ss.all (fun s => decide (stB s)) && decide (0 ≤ k) && decide (k.toNat < r.ss.length) && decide (r.ss.length ≤ 6) && decide (1 ≤ h) && decide (h ≤ b) && decide (b ≤ 1000)
theorem drB_ok {r : Ru} {k b h : Int} (e : drB r k b h = true) : DrOK r k.toNat b h ∧ k = (k.toNat : Int) := by
  simp only [drB, Bool.and_eq_true, decide_eq_true_eq, List.all_eq_true] at e
  obtain ⟨⟨⟨⟨⟨⟨⟨h1, h2⟩, h3⟩, h4⟩, h5⟩, h6⟩, h7⟩, h8⟩ := e
  exact ⟨⟨h1, h2, h4, h5, h6, h7, h8⟩, by omega⟩
def marT (d : D) (k b h : Int) : Option (List D) :=
  match parR d with
  | some r => if drB r k b h = true then some [marD (mar r k.toNat b h)] else none
  | none => none
def torT (d : D) (k b h : Int) : Option (List D) :=
  match parR d with
  | some r => if drB r k b h = true then some [.agg [dI (fl r b h * (b - h)), dI (fh r b h * (b - h))]] else none
  | none => none
def keyD : List D → Int
  | [_, .agg [.val (.int _ k), .val (.int _ b), .val (.int _ h)], _] => k * 1000000 + b * 1000 + h
  | _ => -1
def lookK : List (List D × List D) → Int → List D → Option (List D)
  | [], _, _ => none
  | p :: r, q, ds => if keyD p.1 = q then (if dsEq p.1 ds then some p.2 else lookK r q ds) else lookK r q ds
theorem lookK_ok : ∀ {t : List (List D × List D)} {q : Int} {ds rs : List D}, lookK t q ds = some rs → (ds, rs) ∈ t
  | [], _, _, _, h => by cases h
  | p :: r, q, ds, rs, h => by
    unfold lookK at h
    split at h
    · split at h
      · rename_i e
        obtain rfl := Option.some.inj h
        rw [← dsEq_ok e]; exact List.mem_cons_self
      · exact List.mem_cons_of_mem _ (lookK_ok h)
    · exact List.mem_cons_of_mem _ (lookK_ok h)
def tabP : Tab := fun f =>
  if f = 76 then some fun ds => match ds with
    | [d, .agg [.val (.int .i64 k), .val (.int .i64 b), .val (.int .i64 h)]] => marT d k b h
    | _ => none
  else if f = 66 then some fun ds => match ds with
    | [d, .agg [.val (.int .i64 k), .val (.int .i64 b), .val (.int .i64 h)]] => torT d k b h
    | _ => none
  else if f = 114 then some fun ds => match ds with
    | [d] => (match parR d with | some r => if r.ss.length ≤ 6 then some [dI (chk r).1, dI (chk r).2] else none | none => none)
    | _ => none
  else if f = 52 then some fun ds => match ds with
    | [.val (.int .i64 n), .val (.int .i64 d)] => if -4611686018427387904 ≤ n ∧ n ≤ 4611686018427387904 ∧ 0 < d ∧ d ≤ 4611686018427387904 then some [.agg [dI (low n d).1, dI (low n d).2]] else none
    | _ => none
  else none
theorem tabP_ok : TabOK Tryz.prog tabP := by
  intro f t ht ds rs h
  unfold tabP at ht
  split at ht
  · rename_i e; subst e; obtain rfl := Option.some.inj ht
    simp only at h
    split at h
    · rename_i d k b hh
      unfold marT at h
      split at h
      · rename_i r hr
        split at h
        · rename_i hd
          obtain rfl := Option.some.inj h
          obtain ⟨hv, hk⟩ := drB_ok hd
          rw [parR_ok hr]
          have := conma r k.toNat b hh hv
          unfold drD at this
          rw [← hk] at this
          exact this
        · cases h
      · cases h
    · cases h
  · split at ht
    · rename_i e; subst e; obtain rfl := Option.some.inj ht
      simp only at h
      split at h
      · rename_i d k b hh
        unfold torT at h
        split at h
        · rename_i r hr
          split at h
          · rename_i hd
            obtain rfl := Option.some.inj h
            obtain ⟨hv, hk⟩ := drB_ok hd
            rw [parR_ok hr]
            have := conto r k.toNat b hh hv
            unfold drD at this
            rw [← hk] at this
            exact this
          · cases h
        · cases h
      · cases h
    · split at ht
      · rename_i e; subst e; obtain rfl := Option.some.inj ht
        simp only at h
        split at h
        · split at h
          · rename_i r hr
            split at h
            · obtain rfl := Option.some.inj h
              rw [parR_ok hr]
              exact conKR r (by omega)
            · cases h
          · cases h
        · cases h
      · split at ht
        · rename_i e; subst e; obtain rfl := Option.some.inj ht
          simp only at h
          split at h
          · split at h
            · rename_i hb
              obtain rfl := Option.some.inj h
              exact conlT _ _ ⟨hb.1, hb.2.1⟩ hb.2.2
            · cases h
          · cases h
        · cases ht
theorem look_all {tab : Tab} (ht : TabOK Tryz.prog tab) {f : FuncId} {lk : List (List D × List D)} (h : ∀ caps, (lk.all fun p => runOK Tryz.prog tab 1000 f p.1 p.2 caps) = true) (hc : (lk.all fun p => decide (countV p.1 ≤ 400)) = true) {ds rs : List D} (hm : (ds, rs) ∈ lk) : C5 f ds rs :=
  con_run ht mixed (by simpa using List.all_eq_true.1 hc _ hm) (fun caps => List.all_eq_true.1 (h caps) _ hm)
abbrev rulD : D := .agg [dI 10, dI 100, dI 60, dI 10000, dI 10000, dI 9000, .sl 2 5 [vI 300, vI 20000, vI 400000, vI 0, vI 100, vI 300, vI 20000, vI 400000, vI 0, vI 100], dI 2, dI 3, dI 7, dI 8]
abbrev oneD : D := .agg [dI 10, dI 100, dI 60, dI 10000, dI 10000, dI 9000, .sl 1 5 [vI 300, vI 20000, vI 400000, vI 0, vI 100], dI 2, dI 3, dI 7, dI 8]
abbrev bestD : D := .agg [.val (.string ⟨#[98, 101, 115, 116]⟩), .sl 2 1 [vI 80, vI 60]]
end Go.Proofs.G5o

/- awake of chapter 3: which draughts keep which limits. -/
namespace Go.Proofs.G5o
open Go Go.Abs Go.Proofs Go.Str
set_option maxRecDepth 100000
def lk1 : List (List D × List D) := [([rulD, drD 0 100 100, .sl 4 1 [vI 0, vI 1, vI 2, vI 3]], [dB true]),
  ([rulD, drD 0 100 90, .sl 4 1 [vI 0, vI 1, vI 2, vI 3]], [dB true]),
  ([rulD, drD 0 100 80, .sl 4 1 [vI 0, vI 1, vI 2, vI 3]], [dB true]),
  ([rulD, drD 0 100 70, .sl 4 1 [vI 0, vI 1, vI 2, vI 3]], [dB false]),
  ([rulD, drD 0 100 60, .sl 4 1 [vI 0, vI 1, vI 2, vI 3]], [dB false]),
  ([rulD, drD 0 90 90, .sl 4 1 [vI 0, vI 1, vI 2, vI 3]], [dB true]),
  ([rulD, drD 0 90 80, .sl 4 1 [vI 0, vI 1, vI 2, vI 3]], [dB true]),
  ([rulD, drD 0 90 70, .sl 4 1 [vI 0, vI 1, vI 2, vI 3]], [dB true]),
  ([rulD, drD 0 90 60, .sl 4 1 [vI 0, vI 1, vI 2, vI 3]], [dB false]),
  ([rulD, drD 0 80 80, .sl 4 1 [vI 0, vI 1, vI 2, vI 3]], [dB true]),
  ([rulD, drD 0 80 70, .sl 4 1 [vI 0, vI 1, vI 2, vI 3]], [dB true]),
  ([rulD, drD 0 80 60, .sl 4 1 [vI 0, vI 1, vI 2, vI 3]], [dB true]),
  ([rulD, drD 0 70 70, .sl 4 1 [vI 0, vI 1, vI 2, vI 3]], [dB true]),
  ([rulD, drD 0 70 60, .sl 4 1 [vI 0, vI 1, vI 2, vI 3]], [dB true]),
  ([rulD, drD 0 60 60, .sl 4 1 [vI 0, vI 1, vI 2, vI 3]], [dB true]),
  ([rulD, drD 1 100 100, .sl 4 1 [vI 0, vI 1, vI 2, vI 3]], [dB true]),
  ([rulD, drD 1 100 90, .sl 4 1 [vI 0, vI 1, vI 2, vI 3]], [dB true]),
  ([rulD, drD 1 100 80, .sl 4 1 [vI 0, vI 1, vI 2, vI 3]], [dB true]),
  ([rulD, drD 1 100 70, .sl 4 1 [vI 0, vI 1, vI 2, vI 3]], [dB false]),
  ([rulD, drD 1 100 60, .sl 4 1 [vI 0, vI 1, vI 2, vI 3]], [dB false]),
  ([rulD, drD 1 90 90, .sl 4 1 [vI 0, vI 1, vI 2, vI 3]], [dB true]),
  ([rulD, drD 1 90 80, .sl 4 1 [vI 0, vI 1, vI 2, vI 3]], [dB true]),
  ([rulD, drD 1 90 70, .sl 4 1 [vI 0, vI 1, vI 2, vI 3]], [dB true]),
  ([rulD, drD 1 90 60, .sl 4 1 [vI 0, vI 1, vI 2, vI 3]], [dB false]),
  ([rulD, drD 1 80 80, .sl 4 1 [vI 0, vI 1, vI 2, vI 3]], [dB true]),
  ([rulD, drD 1 80 70, .sl 4 1 [vI 0, vI 1, vI 2, vI 3]], [dB true]),
  ([rulD, drD 1 80 60, .sl 4 1 [vI 0, vI 1, vI 2, vI 3]], [dB true]),
  ([rulD, drD 1 70 70, .sl 4 1 [vI 0, vI 1, vI 2, vI 3]], [dB true]),
  ([rulD, drD 1 70 60, .sl 4 1 [vI 0, vI 1, vI 2, vI 3]], [dB true]),
  ([rulD, drD 1 60 60, .sl 4 1 [vI 0, vI 1, vI 2, vI 3]], [dB true])]
theorem run1 : ∀ caps, (lk1.all fun p => runOK Tryz.prog tabP 1000 80 p.1 p.2 caps) = true := by intro caps; kernel_rfl
end Go.Proofs.G5o

/- awake of chapter 3: which draughts keep which limits. -/
namespace Go.Proofs.G5o
open Go Go.Abs Go.Proofs Go.Str
set_option maxRecDepth 100000
def lk2 : List (List D × List D) := [([oneD, drD 0 100 100, .sl 4 1 [vI 0, vI 1, vI 2, vI 3]], [dB true]),
  ([oneD, drD 0 100 90, .sl 4 1 [vI 0, vI 1, vI 2, vI 3]], [dB true]),
  ([oneD, drD 0 100 80, .sl 4 1 [vI 0, vI 1, vI 2, vI 3]], [dB true]),
  ([oneD, drD 0 100 70, .sl 4 1 [vI 0, vI 1, vI 2, vI 3]], [dB false]),
  ([oneD, drD 0 100 60, .sl 4 1 [vI 0, vI 1, vI 2, vI 3]], [dB false]),
  ([oneD, drD 0 90 90, .sl 4 1 [vI 0, vI 1, vI 2, vI 3]], [dB true]),
  ([oneD, drD 0 90 80, .sl 4 1 [vI 0, vI 1, vI 2, vI 3]], [dB true]),
  ([oneD, drD 0 90 70, .sl 4 1 [vI 0, vI 1, vI 2, vI 3]], [dB true]),
  ([oneD, drD 0 90 60, .sl 4 1 [vI 0, vI 1, vI 2, vI 3]], [dB false]),
  ([oneD, drD 0 80 80, .sl 4 1 [vI 0, vI 1, vI 2, vI 3]], [dB true]),
  ([oneD, drD 0 80 70, .sl 4 1 [vI 0, vI 1, vI 2, vI 3]], [dB true]),
  ([oneD, drD 0 80 60, .sl 4 1 [vI 0, vI 1, vI 2, vI 3]], [dB true]),
  ([oneD, drD 0 70 70, .sl 4 1 [vI 0, vI 1, vI 2, vI 3]], [dB true]),
  ([oneD, drD 0 70 60, .sl 4 1 [vI 0, vI 1, vI 2, vI 3]], [dB true]),
  ([oneD, drD 0 60 60, .sl 4 1 [vI 0, vI 1, vI 2, vI 3]], [dB true]),
  ([oneD, drD 0 100 100, .nil], [dB true]),
  ([oneD, drD 0 100 90, .nil], [dB true]),
  ([oneD, drD 0 100 80, .nil], [dB true]),
  ([oneD, drD 0 100 70, .nil], [dB true]),
  ([oneD, drD 0 100 60, .nil], [dB true]),
  ([oneD, drD 0 90 90, .nil], [dB true]),
  ([oneD, drD 0 90 80, .nil], [dB true]),
  ([oneD, drD 0 90 70, .nil], [dB true]),
  ([oneD, drD 0 90 60, .nil], [dB true]),
  ([oneD, drD 0 80 80, .nil], [dB true]),
  ([oneD, drD 0 80 70, .nil], [dB true]),
  ([oneD, drD 0 80 60, .nil], [dB true]),
  ([oneD, drD 0 70 70, .nil], [dB true]),
  ([oneD, drD 0 70 60, .nil], [dB true]),
  ([oneD, drD 0 60 60, .nil], [dB true]),
  ([oneD, drD 0 100 100, .sl 1 1 [vI 0]], [dB true]),
  ([oneD, drD 0 100 90, .sl 1 1 [vI 0]], [dB true]),
  ([oneD, drD 0 100 80, .sl 1 1 [vI 0]], [dB true]),
  ([oneD, drD 0 100 70, .sl 1 1 [vI 0]], [dB true]),
  ([oneD, drD 0 100 60, .sl 1 1 [vI 0]], [dB true]),
  ([oneD, drD 0 90 90, .sl 1 1 [vI 0]], [dB true]),
  ([oneD, drD 0 90 80, .sl 1 1 [vI 0]], [dB true]),
  ([oneD, drD 0 90 70, .sl 1 1 [vI 0]], [dB true]),
  ([oneD, drD 0 90 60, .sl 1 1 [vI 0]], [dB true]),
  ([oneD, drD 0 80 80, .sl 1 1 [vI 0]], [dB true]),
  ([oneD, drD 0 80 70, .sl 1 1 [vI 0]], [dB true]),
  ([oneD, drD 0 80 60, .sl 1 1 [vI 0]], [dB true]),
  ([oneD, drD 0 70 70, .sl 1 1 [vI 0]], [dB true]),
  ([oneD, drD 0 70 60, .sl 1 1 [vI 0]], [dB true]),
  ([oneD, drD 0 60 60, .sl 1 1 [vI 0]], [dB true]),
  ([oneD, drD 0 100 100, .sl 1 1 [vI 1]], [dB true]),
  ([oneD, drD 0 100 90, .sl 1 1 [vI 1]], [dB true]),
  ([oneD, drD 0 100 80, .sl 1 1 [vI 1]], [dB true]),
  ([oneD, drD 0 100 70, .sl 1 1 [vI 1]], [dB false]),
  ([oneD, drD 0 100 60, .sl 1 1 [vI 1]], [dB false]),
  ([oneD, drD 0 90 90, .sl 1 1 [vI 1]], [dB true]),
  ([oneD, drD 0 90 80, .sl 1 1 [vI 1]], [dB true]),
  ([oneD, drD 0 90 70, .sl 1 1 [vI 1]], [dB true]),
  ([oneD, drD 0 90 60, .sl 1 1 [vI 1]], [dB true]),
  ([oneD, drD 0 80 80, .sl 1 1 [vI 1]], [dB true]),
  ([oneD, drD 0 80 70, .sl 1 1 [vI 1]], [dB true]),
  ([oneD, drD 0 80 60, .sl 1 1 [vI 1]], [dB true]),
  ([oneD, drD 0 70 70, .sl 1 1 [vI 1]], [dB true]),
  ([oneD, drD 0 70 60, .sl 1 1 [vI 1]], [dB true]),
  ([oneD, drD 0 60 60, .sl 1 1 [vI 1]], [dB true])]
theorem run2 : ∀ caps, (lk2.all fun p => runOK Tryz.prog tabP 1000 80 p.1 p.2 caps) = true := by intro caps; kernel_rfl
end Go.Proofs.G5o

/- awake of chapter 3: what is known of some calls. -/
namespace Go.Proofs.G5o
open Go Go.Abs Go.Proofs Go.Str
set_option maxRecDepth 100000
def lkH : List (List D × List D) := [([rulD, bestD], [dI 2, dI 0])]
def lkR : List (List D × List D) := [([rulD, bestD, .agg [dI 2, dI 8, dI 10000, .sl 2 1 [vI 50, vI 50]]], [.sl 2 2 [vI 49752, vI 5, vI 49504, vI 5], .val (.bool true), dI 0])]
def lkT : List (List D × List D) := [([rulD, bestD, dI 300], [.sl 2 2 [vI 375, vI 1, vI 500, vI 1], dI 0])]
def lkQ : List (List D × List D) := [([rulD, dI 10], [.sl 5 1 [vI 100, vI 90, vI 80, vI 70, vI 60]]), ([oneD, dI 10], [.sl 5 1 [vI 100, vI 90, vI 80, vI 70, vI 60]])]
theorem runH : ∀ caps, (lkH.all fun p => runOK Tryz.prog tabP 1000 30 p.1 p.2 caps) = true := by intro caps; kernel_rfl
theorem runR : ∀ caps, (lkR.all fun p => runOK Tryz.prog tabP 1000 40 p.1 p.2 caps) = true := by intro caps; kernel_rfl
theorem runT : ∀ caps, (lkT.all fun p => runOK Tryz.prog tabP 1000 10 p.1 p.2 caps) = true := by intro caps; kernel_rfl
theorem runQ : ∀ caps, (lkQ.all fun p => runOK Tryz.prog tabP 1000 115 p.1 p.2 caps) = true := by intro caps; kernel_rfl
end Go.Proofs.G5o

/- awake of chapter 3, for every tape: by tables. -/
namespace Go.Proofs.G5o
open Go Go.Abs Go.Proofs Go.Str
set_option maxRecDepth 100000
theorem runP : ∀ caps, ((lk1 ++ lk2).all fun p => runOK Tryz.prog tabP 1000 80 p.1 p.2 caps) = true := fun caps => by rw [List.all_append, run1, run2]; rfl
def tabA : Tab := fun f => if f == 80 then some (fun ds => lookK (lk1 ++ lk2) (keyD ds) ds) else if f == 30 then some (tabLook lkH) else if f == 40 then some (tabLook lkR) else if f == 10 then some (tabLook lkT) else if f == 115 then some (tabLook lkQ) else tabP f
theorem tabA_ok : TabOK Tryz.prog tabA := by
  intro f t ht ds rs h
  unfold tabA at ht
  split at ht
  · rename_i e; obtain rfl := Option.some.inj ht; rw [beq_iff_eq] at e; subst e; exact look_all tabP_ok runP (by kernel_rfl) (lookK_ok h)
  · split at ht
    · rename_i e; obtain rfl := Option.some.inj ht; rw [beq_iff_eq] at e; subst e; exact look_all tabP_ok runH (by kernel_rfl) (tabLook_ok h)
    · split at ht
      · rename_i e; obtain rfl := Option.some.inj ht; rw [beq_iff_eq] at e; subst e; exact look_all tabP_ok runR (by kernel_rfl) (tabLook_ok h)
      · split at ht
        · rename_i e; obtain rfl := Option.some.inj ht; rw [beq_iff_eq] at e; subst e; exact look_all tabP_ok runT (by kernel_rfl) (tabLook_ok h)
        · split at ht
          · rename_i e; obtain rfl := Option.some.inj ht; rw [beq_iff_eq] at e; subst e; exact look_all tabP_ok runQ (by kernel_rfl) (tabLook_ok h)
          · exact tabP_ok f t ht ds rs h
theorem runA : ∀ caps, runOK Tryz.prog tabA 1000 6 [] [.val (.bool true)] caps = true := by intro caps; kernel_rfl
theorem conA : C5 6 [] [.val (.bool true)] := con_run tabA_ok mixed (by show 0 ≤ 400; omega) runA
end Go.Proofs.G5o

/- Chapter 3: copies, by the shape of what is copied. -/
namespace Go.Abs
def copyPR : List D → Option (List D)
  | [.agg [a, b, c, d, e, f, .nil, g, h, i, j]] => some [.agg [a, b, c, d, e, f, .sl 0 5 [], g, h, i, j]]
  | [.agg [a, b, c, d, e, f, .sl n es cs, g, h, i, j]] => some [.agg [a, b, c, d, e, f, .sl n es cs, g, h, i, j]]
  | _ => none
def copyPS : List D → Option (List D)
  | [.agg [a, .nil]] => some [.agg [a, .sl 0 1 []]]
  | [.agg [a, .sl n es cs]] => some [.agg [a, .sl n es cs]]
  | _ => none
end Go.Abs

/- Calls whose lists are never nil, and whose bools stay open: met by one shape. -/
namespace Go.Abs
def someScalL : List Sc → Heap → (List D → List Value → Heap → Prop) → Prop
  | [], H, k => k [] [] H
  | .int kd :: r, H, k => ∃ n : Int, someScalL r H fun ds vs H' => k (.val (.int kd n) :: ds) (.int kd n :: vs) H'
  | .bool :: r, H, k => ∃ b : Bool, someScalL r H fun ds vs H' => k (.val (.bool b) :: ds) (.bool b :: vs) H'
  | .str :: r, H, k => ∃ s : ByteArray, someScalL r H fun ds vs H' => k (.val (.string s) :: ds) (.string s :: vs) H'
  | .sl es :: r, H, k => ∃ (n : Nat) (cs : List Value), someScalL r (H.new (.sym cs true es)) fun ds vs H' => k (.sl n es cs :: ds) (.slice (some ⟨H.next, 0, none⟩) n n :: vs) H'
def someValL (P : Program) (t : TypeId) (H : Heap) (k : D → Value → Heap → Prop) : Prop :=
  match scal P 8 t with
  | none => False
  | some l =>
    match isAggP P t with
    | some true => someScalL l H fun ds vs H' => k (.agg ds) (.agg vs.toArray) H'
    | _ => someScalL l H fun ds vs H' => match ds, vs with | [d], [v] => k d v H' | _, _ => False
def someValsL (P : Program) : List TypeId → Heap → (List D → List Value → Heap → Prop) → Prop
  | [], H, k => k [] [] H
  | t :: r, H, k => someValL P t H fun d v H' => someValsL P r H' fun ds vs H'' => k (d :: ds) (v :: vs) H''
def saidL (P : Program) (C : FuncId → List D → List D → Prop) : Handler := fun g args _ H k =>
  match P.funcs[g]? with | some fn => readVals H args.toList fun ds => someValsL P fn.resultTypes.toList H fun rs vs H' => Says C g ds rs ∧ k (tupleOf vs) H' | none => False
/-! the same for calls whose lists are nil -/
def someScalN : List Sc → Heap → (List D → List Value → Heap → Prop) → Prop
  | [], H, k => k [] [] H
  | .int kd :: r, H, k => ∃ n : Int, someScalN r H fun ds vs H' => k (.val (.int kd n) :: ds) (.int kd n :: vs) H'
  | .bool :: r, H, k => ∃ b : Bool, someScalN r H fun ds vs H' => k (.val (.bool b) :: ds) (.bool b :: vs) H'
  | .str :: r, H, k => ∃ s : ByteArray, someScalN r H fun ds vs H' => k (.val (.string s) :: ds) (.string s :: vs) H'
  | .sl _ :: r, H, k => someScalN r H fun ds vs H' => k (.nil :: ds) (.slice none 0 0 :: vs) H'
def someValN (P : Program) (t : TypeId) (H : Heap) (k : D → Value → Heap → Prop) : Prop :=
  match scal P 8 t with
  | none => False
  | some l =>
    match isAggP P t with
    | some true => someScalN l H fun ds vs H' => k (.agg ds) (.agg vs.toArray) H'
    | _ => someScalN l H fun ds vs H' => match ds, vs with | [d], [v] => k d v H' | _, _ => False
def someValsN (P : Program) : List TypeId → Heap → (List D → List Value → Heap → Prop) → Prop
  | [], H, k => k [] [] H
  | t :: r, H, k => someValN P t H fun d v H' => someValsN P r H' fun ds vs H'' => k (d :: ds) (v :: vs) H''
def saidN (P : Program) (C : FuncId → List D → List D → Prop) : Handler := fun g args _ H k =>
  match P.funcs[g]? with | some fn => readVals H args.toList fun ds => someValsN P fn.resultTypes.toList H fun rs vs H' => Says C g ds rs ∧ k (tupleOf vs) H' | none => False
/-- what is never called -/
def deadH : Handler := fun _ _ _ _ _ => False
end Go.Abs

/- Short names for what stands often in printed texts of laws. -/
namespace Go.Abs
abbrev Tk (n k : Nat) (l : List Value) : List Value := List.take (n * k) (List.drop 0 l)
abbrev Dw (n k : Nat) (l : List Value) : D := .sl n k (Tk n k l)
abbrev dL (n k : Nat) (l : List Value) : Bool := decide (0 + n * k ≤ List.length l)
abbrev kT : List D := [.val (.bool true)]
abbrev kF : List D := [.val (.bool false)]
end Go.Abs

/- What is left to show of each function, written out; the kernel reckons it. -/
namespace Go.Proofs.G5o
open Go Go.Abs Go.Proofs
set_option maxRecDepth 100000
set_option linter.unusedVariables false
def preA (C : Ct) : FuncId → Option Handler := fun g => if [21, 22, 23, 25, 26, 28].contains g then some (saidL Tryz.prog C) else if g == 11 then some (fixH C copyPR) else if g == 12 then some (fixH C copyPS) else if [6, 48, 49, 137, 138, 139, 126, 119, 114, 142, 143, 125, 95, 90, 52, 104, 65, 66, 106, 69, 76, 105, 91, 77, 13, 10, 23, 30, 40, 93, 45, 94, 46, 8, 70, 999999, 999999, 71, 72, 110, 74, 999999, 999999, 999999, 42, 9, 124, 44, 57, 96, 15, 16, 999999, 80, 73, 82, 25, 26, 28, 35, 33, 34, 27, 24, 81, 21, 22, 29, 31].contains g then some (saidH Tryz.prog C) else none
def preB (C : Ct) : FuncId → Option Handler := fun g => if [21, 22, 23, 29, 31].contains g then some (saidN Tryz.prog C) else if [25, 33].contains g then some deadH else if g == 11 then some (fixH C copyPR) else if g == 12 then some (fixH C copyPS) else if [6, 48, 49, 137, 138, 139, 126, 119, 114, 142, 143, 125, 95, 90, 52, 104, 65, 66, 106, 69, 76, 105, 91, 77, 13, 10, 23, 30, 40, 93, 45, 94, 46, 8, 70, 999999, 999999, 71, 72, 110, 74, 999999, 999999, 999999, 42, 9, 124, 44, 57, 96, 15, 16, 999999, 80, 73, 82, 25, 26, 28, 35, 33, 34, 27, 24, 81, 21, 22, 29, 31].contains g then some (saidH Tryz.prog C) else none
abbrev hA2 (C : Ct) : Handler := handlerX Tryz.prog (preA C) 12 6
abbrev hB2 (C : Ct) : Handler := handlerX Tryz.prog (preB C) 12 6
def gLa (C : Ct) (L : AtLoop) (x0 : Int) (x1 : Int) (x2 : Int) (x3 : Int) (x4 : Int) (x5 : Int) (n6 : Nat) (c6 : Nat) (l6 : List Value) (x7 : Int) (x8 : Int) (x9 : Int) (x10 : Int) (s11 : ByteArray) (n12 : Nat) (c12 : Nat) (l12 : List Value) (k : List D → Prop) : Prop := wpFn Tryz.prog (hA2 C) L 0 4 #[.agg #[.int .i64 x0, .int .i64 x1, .int .i64 x2, .int .i64 x3, .int .i64 x4, .int .i64 x5, .slice (some ⟨500, 0, none⟩) n6 c6, .int .i64 x7, .int .i64 x8, .int .i64 x9, .int .i64 x10], .agg #[.string s11, .slice (some ⟨501, 0, none⟩) n12 c12]] (heapOf [(500, .sym l6 false 5), (501, .sym l12 false 1)]) (dataK k)
theorem gLa_text (C : Ct) (L : AtLoop) (x0 : Int) (x1 : Int) (x2 : Int) (x3 : Int) (x4 : Int) (x5 : Int) (n6 : Nat) (c6 : Nat) (l6 : List Go.Value) (x7 : Int) (x8 : Int) (x9 : Int) (x10 : Int) (s11 : ByteArray) (n12 : Nat) (c12 : Nat) (l12 : List Go.Value) (k : List D → Prop) : gLa C L x0 x1 x2 x3 x4 x5 n6 c6 l6 x7 x8 x9 x10 s11 n12 c12 l12 k =
 (((Says C 6 [] kT) ∧
 (bcase (decide ((↑n6 : Int) ≤ 8))
 (bcase (decide ((↑n12 : Int) ≤ 8))
 (bcase (decide ((↑(ByteArray.size s11) : Int) ≤ 30))
 (((Qv (Value.agg [(Value.string (s11)), (Sl 501 (n12) (c12))].toArray)) ∧
 ((Qv (Value.agg [(vI x0), (vI x1), (vI x2), (vI x3), (vI x4), (vI x5), (Sl 500 (n6) (c6)), (vI x7), (vI x8), (vI x9), (vI x10)].toArray)) ∧
 True)) ∧
 (bcase (dL n6 5 l6)
 ((Says C 11 [(D.agg [(dI x0), (dI x1), (dI x2), (dI x3), (dI x4), (dI x5), (Dw n6 5 l6), (dI x7), (dI x8), (dI x9), (dI x10)])] [(D.agg [(dI x0), (dI x1), (dI x2), (dI x3), (dI x4), (dI x5), (Dw n6 5 l6), (dI x7), (dI x8), (dI x9), (dI x10)])]) ∧
 (((Qv (Value.agg [(Value.string (s11)), (Sl 501 (n12) (c12))].toArray)) ∧
 True) ∧
 (bcase (dL n12 1 l12)
 ((Says C 12 [(D.agg [(D.val (Value.string (s11))), (Dw n12 1 l12)])] [(D.agg [(D.val (Value.string (s11))), (Dw n12 1 l12)])]) ∧
 (True ∧
 (bcase (dL n6 5 (Tk n6 5 l6))
 (bcase (dL n12 1 (Tk n12 1 l12))
 (∃ n1 : Nat,
 (∃ cs1 : List Go.Value,
 (∃ n2 : Int,
 ((Says C 21 [(D.agg [(dI x0), (dI x1), (dI x2), (dI x3), (dI x4), (dI x5), (Dw n6 5 (Tk n6 5 l6)), (dI x7), (dI x8), (dI x9), (dI x10)]), (D.agg [(D.val (Value.string (s11))), (Dw n12 1 (Tk n12 1 l12))])] [(D.sl (n1) 2 (cs1)), (dI n2)]) ∧
 (((Qv (vI n2)) ∧
 ((Qv (Sl 1006 (n1) (n1))) ∧
 ((Qv (Value.tuple [(Sl 1006 (n1) (n1)), (vI n2)].toArray)) ∧
 True))) ∧
 (((Qv (vI n2)) ∧
 True) ∧
 (True ∧
 (((Qv (Value.agg [(Value.string (s11)), (Sl 501 (n12) (c12))].toArray)) ∧
 ((Qv (Value.agg [(vI x0), (vI x1), (vI x2), (vI x3), (vI x4), (vI x5), (Sl 500 (n6) (c6)), (vI x7), (vI x8), (vI x9), (vI x10)].toArray)) ∧
 True)) ∧
 (bcase (dL n6 5 l6)
 ((Says C 11 [(D.agg [(dI x0), (dI x1), (dI x2), (dI x3), (dI x4), (dI x5), (Dw n6 5 l6), (dI x7), (dI x8), (dI x9), (dI x10)])] [(D.agg [(dI x0), (dI x1), (dI x2), (dI x3), (dI x4), (dI x5), (Dw n6 5 l6), (dI x7), (dI x8), (dI x9), (dI x10)])]) ∧
 (((Qv (Value.agg [(Value.string (s11)), (Sl 501 (n12) (c12))].toArray)) ∧
 True) ∧
 (bcase (dL n12 1 l12)
 ((Says C 12 [(D.agg [(D.val (Value.string (s11))), (Dw n12 1 l12)])] [(D.agg [(D.val (Value.string (s11))), (Dw n12 1 l12)])]) ∧
 (True ∧
 (bcase (dL n6 5 (Tk n6 5 l6))
 (bcase (dL n12 1 (Tk n12 1 l12))
 (∃ n3 : Nat,
 (∃ cs2 : List Go.Value,
 (∃ n4 : Int,
 ((Says C 22 [(D.agg [(dI x0), (dI x1), (dI x2), (dI x3), (dI x4), (dI x5), (Dw n6 5 (Tk n6 5 l6)), (dI x7), (dI x8), (dI x9), (dI x10)]), (D.agg [(D.val (Value.string (s11))), (Dw n12 1 (Tk n12 1 l12))])] [(D.sl (n3) 2 (cs2)), (dI n4)]) ∧
 (((Qv (vI n4)) ∧
 ((Qv (Sl 1009 (n3) (n3))) ∧
 ((Qv (Value.tuple [(Sl 1009 (n3) (n3)), (vI n4)].toArray)) ∧
 True))) ∧
 (((Qv (vI n4)) ∧
 True) ∧
 (True ∧
 (((Qv (Value.agg [(Value.string (s11)), (Sl 501 (n12) (c12))].toArray)) ∧
 ((Qv (Value.agg [(vI x0), (vI x1), (vI x2), (vI x3), (vI x4), (vI x5), (Sl 500 (n6) (c6)), (vI x7), (vI x8), (vI x9), (vI x10)].toArray)) ∧
 True)) ∧
 (bcase (dL n6 5 l6)
 ((Says C 11 [(D.agg [(dI x0), (dI x1), (dI x2), (dI x3), (dI x4), (dI x5), (Dw n6 5 l6), (dI x7), (dI x8), (dI x9), (dI x10)])] [(D.agg [(dI x0), (dI x1), (dI x2), (dI x3), (dI x4), (dI x5), (Dw n6 5 l6), (dI x7), (dI x8), (dI x9), (dI x10)])]) ∧
 (((Qv (Value.agg [(Value.string (s11)), (Sl 501 (n12) (c12))].toArray)) ∧
 True) ∧
 (bcase (dL n12 1 l12)
 ((Says C 12 [(D.agg [(D.val (Value.string (s11))), (Dw n12 1 l12)])] [(D.agg [(D.val (Value.string (s11))), (Dw n12 1 l12)])]) ∧
 (True ∧
 (bcase (dL n6 5 (Tk n6 5 l6))
 (bcase (dL n12 1 (Tk n12 1 l12))
 (∃ n5 : Nat,
 (∃ cs3 : List Go.Value,
 (∃ n7 : Int,
 ((Says C 23 [(D.agg [(dI x0), (dI x1), (dI x2), (dI x3), (dI x4), (dI x5), (Dw n6 5 (Tk n6 5 l6)), (dI x7), (dI x8), (dI x9), (dI x10)]), (D.agg [(D.val (Value.string (s11))), (Dw n12 1 (Tk n12 1 l12))])] [(D.sl (n5) 4 (cs3)), (dI n7)]) ∧
 (((Qv (vI n7)) ∧
 ((Qv (Sl 1012 (n5) (n5))) ∧
 ((Qv (Value.tuple [(Sl 1012 (n5) (n5)), (vI n7)].toArray)) ∧
 True))) ∧
 (((Qv (vI n7)) ∧
 True) ∧
 (True ∧
 (bcase (dL n6 5 l6)
 (bcase (dL n12 1 l12)
 (∃ n8 : Int,
 ((Says C 8 [(D.agg [(dI x0), (dI x1), (dI x2), (dI x3), (dI x4), (dI x5), (Dw n6 5 l6), (dI x7), (dI x8), (dI x9), (dI x10)]), (D.agg [(D.val (Value.string (s11))), (Dw n12 1 l12)])] [(dI n8)]) ∧
 (bcase (n8 != 0)
 (bcase (n2 == n8)
 (bcase (n4 == n8)
 (bcase (n7 == n8)
 (bcase (IntKind.wrap .i64 (IntKind.wrap .i64 ((↑n1 : Int) + (↑n3 : Int)) + (↑n5 : Int)) == 0)
 (k kT)
 (k kF))
 (k kF))
 (k kF))
 (k kF))
 (bcase (n2 == 0)
 (bcase (dL n6 5 l6)
 (bcase (dL n12 1 l12)
 (∃ n9 : Nat,
 (∃ cs4 : List Go.Value,
 ((Says C 25 [(D.agg [(dI x0), (dI x1), (dI x2), (dI x3), (dI x4), (dI x5), (Dw n6 5 l6), (dI x7), (dI x8), (dI x9), (dI x10)]), (D.agg [(D.val (Value.string (s11))), (Dw n12 1 l12)])] [(D.sl (n9) 2 (cs4))]) ∧
 (bcase (dL n1 2 cs1)
 (bcase (dL n9 2 cs4)
 (((Says C 24 [(Dw n1 2 cs1), (Dw n9 2 cs4)] kT) ∧
 (bcase (n4 == 0)
 (bcase (dL n6 5 l6)
 (bcase (dL n12 1 l12)
 (∃ n10 : Nat,
 (∃ cs5 : List Go.Value,
 ((Says C 26 [(D.agg [(dI x0), (dI x1), (dI x2), (dI x3), (dI x4), (dI x5), (Dw n6 5 l6), (dI x7), (dI x8), (dI x9), (dI x10)]), (D.agg [(D.val (Value.string (s11))), (Dw n12 1 l12)])] [(D.sl (n10) 2 (cs5))]) ∧
 (bcase (dL n3 2 cs2)
 (bcase (dL n10 2 cs5)
 (((Says C 24 [(Dw n3 2 cs2), (Dw n10 2 cs5)] kT) ∧
 (bcase (n7 == 0)
 (bcase (dL n6 5 l6)
 (bcase (dL n12 1 l12)
 (∃ n11 : Nat,
 (∃ cs6 : List Go.Value,
 ((Says C 28 [(D.agg [(dI x0), (dI x1), (dI x2), (dI x3), (dI x4), (dI x5), (Dw n6 5 l6), (dI x7), (dI x8), (dI x9), (dI x10)]), (D.agg [(D.val (Value.string (s11))), (Dw n12 1 l12)])] [(D.sl (n11) 4 (cs6))]) ∧
 (bcase (dL n5 4 cs3)
 (bcase (dL n11 4 cs6)
 (((Says C 27 [(Dw n5 4 cs3), (Dw n11 4 cs6)] kT) ∧
 (k kT)) ∨
 ((Says C 27 [(Dw n5 4 cs3), (Dw n11 4 cs6)] kF) ∧
 (k kF)))
 False)
 False))))
 False)
 False)
 (k kF))) ∨
 ((Says C 24 [(Dw n3 2 cs2), (Dw n10 2 cs5)] kF) ∧
 (k kF)))
 False)
 False))))
 False)
 False)
 (k kF))) ∨
 ((Says C 24 [(Dw n1 2 cs1), (Dw n9 2 cs4)] kF) ∧
 (k kF)))
 False)
 False))))
 False)
 False)
 (k kF)))))
 False)
 False))))))))
 False)
 False)))
 False)))
 False)))))))))
 False)
 False)))
 False)))
 False)))))))))
 False)
 False)))
 False)))
 False))
 (k kT))
 (k kT))
 (k kT))) ∨
 ((Says C 6 [] kF) ∧
 (k kF))) := by kernel_rfl
def gLb (C : Ct) (L : AtLoop) (x0 : Int) (x1 : Int) (x2 : Int) (x3 : Int) (x4 : Int) (x5 : Int) (n6 : Nat) (c6 : Nat) (l6 : List Value) (x7 : Int) (x8 : Int) (x9 : Int) (x10 : Int) (s11 : ByteArray) (n12 : Nat) (c12 : Nat) (l12 : List Value) (k : List D → Prop) : Prop := wpFn Tryz.prog (hB2 C) L 0 4 #[.agg #[.int .i64 x0, .int .i64 x1, .int .i64 x2, .int .i64 x3, .int .i64 x4, .int .i64 x5, .slice (some ⟨500, 0, none⟩) n6 c6, .int .i64 x7, .int .i64 x8, .int .i64 x9, .int .i64 x10], .agg #[.string s11, .slice (some ⟨501, 0, none⟩) n12 c12]] (heapOf [(500, .sym l6 false 5), (501, .sym l12 false 1)]) (dataK k)
theorem gLb_text (C : Ct) (L : AtLoop) (x0 : Int) (x1 : Int) (x2 : Int) (x3 : Int) (x4 : Int) (x5 : Int) (n6 : Nat) (c6 : Nat) (l6 : List Go.Value) (x7 : Int) (x8 : Int) (x9 : Int) (x10 : Int) (s11 : ByteArray) (n12 : Nat) (c12 : Nat) (l12 : List Go.Value) (k : List D → Prop) : gLb C L x0 x1 x2 x3 x4 x5 n6 c6 l6 x7 x8 x9 x10 s11 n12 c12 l12 k =
 (((Says C 6 [] kT) ∧
 (bcase (decide ((↑n6 : Int) ≤ 8))
 (bcase (decide ((↑n12 : Int) ≤ 8))
 (bcase (decide ((↑(ByteArray.size s11) : Int) ≤ 30))
 (((Qv (Value.agg [(Value.string (s11)), (Sl 501 (n12) (c12))].toArray)) ∧
 ((Qv (Value.agg [(vI x0), (vI x1), (vI x2), (vI x3), (vI x4), (vI x5), (Sl 500 (n6) (c6)), (vI x7), (vI x8), (vI x9), (vI x10)].toArray)) ∧
 True)) ∧
 (bcase (dL n6 5 l6)
 ((Says C 11 [(D.agg [(dI x0), (dI x1), (dI x2), (dI x3), (dI x4), (dI x5), (Dw n6 5 l6), (dI x7), (dI x8), (dI x9), (dI x10)])] [(D.agg [(dI x0), (dI x1), (dI x2), (dI x3), (dI x4), (dI x5), (Dw n6 5 l6), (dI x7), (dI x8), (dI x9), (dI x10)])]) ∧
 (((Qv (Value.agg [(Value.string (s11)), (Sl 501 (n12) (c12))].toArray)) ∧
 True) ∧
 (bcase (dL n12 1 l12)
 ((Says C 12 [(D.agg [(D.val (Value.string (s11))), (Dw n12 1 l12)])] [(D.agg [(D.val (Value.string (s11))), (Dw n12 1 l12)])]) ∧
 (True ∧
 (bcase (dL n6 5 (Tk n6 5 l6))
 (bcase (dL n12 1 (Tk n12 1 l12))
 (∃ n1 : Int,
 ((Says C 21 [(D.agg [(dI x0), (dI x1), (dI x2), (dI x3), (dI x4), (dI x5), (Dw n6 5 (Tk n6 5 l6)), (dI x7), (dI x8), (dI x9), (dI x10)]), (D.agg [(D.val (Value.string (s11))), (Dw n12 1 (Tk n12 1 l12))])] [D.nil, (dI n1)]) ∧
 (((Qv (vI n1)) ∧
 ((Qv (Value.slice none 0 0)) ∧
 ((Qv (Value.tuple [(Value.slice none 0 0), (vI n1)].toArray)) ∧
 True))) ∧
 (((Qv (vI n1)) ∧
 True) ∧
 (True ∧
 (((Qv (Value.agg [(Value.string (s11)), (Sl 501 (n12) (c12))].toArray)) ∧
 ((Qv (Value.agg [(vI x0), (vI x1), (vI x2), (vI x3), (vI x4), (vI x5), (Sl 500 (n6) (c6)), (vI x7), (vI x8), (vI x9), (vI x10)].toArray)) ∧
 True)) ∧
 (bcase (dL n6 5 l6)
 ((Says C 11 [(D.agg [(dI x0), (dI x1), (dI x2), (dI x3), (dI x4), (dI x5), (Dw n6 5 l6), (dI x7), (dI x8), (dI x9), (dI x10)])] [(D.agg [(dI x0), (dI x1), (dI x2), (dI x3), (dI x4), (dI x5), (Dw n6 5 l6), (dI x7), (dI x8), (dI x9), (dI x10)])]) ∧
 (((Qv (Value.agg [(Value.string (s11)), (Sl 501 (n12) (c12))].toArray)) ∧
 True) ∧
 (bcase (dL n12 1 l12)
 ((Says C 12 [(D.agg [(D.val (Value.string (s11))), (Dw n12 1 l12)])] [(D.agg [(D.val (Value.string (s11))), (Dw n12 1 l12)])]) ∧
 (True ∧
 (bcase (dL n6 5 (Tk n6 5 l6))
 (bcase (dL n12 1 (Tk n12 1 l12))
 (∃ n2 : Int,
 ((Says C 22 [(D.agg [(dI x0), (dI x1), (dI x2), (dI x3), (dI x4), (dI x5), (Dw n6 5 (Tk n6 5 l6)), (dI x7), (dI x8), (dI x9), (dI x10)]), (D.agg [(D.val (Value.string (s11))), (Dw n12 1 (Tk n12 1 l12))])] [D.nil, (dI n2)]) ∧
 (((Qv (vI n2)) ∧
 ((Qv (Value.slice none 0 0)) ∧
 ((Qv (Value.tuple [(Value.slice none 0 0), (vI n2)].toArray)) ∧
 True))) ∧
 (((Qv (vI n2)) ∧
 True) ∧
 (True ∧
 (((Qv (Value.agg [(Value.string (s11)), (Sl 501 (n12) (c12))].toArray)) ∧
 ((Qv (Value.agg [(vI x0), (vI x1), (vI x2), (vI x3), (vI x4), (vI x5), (Sl 500 (n6) (c6)), (vI x7), (vI x8), (vI x9), (vI x10)].toArray)) ∧
 True)) ∧
 (bcase (dL n6 5 l6)
 ((Says C 11 [(D.agg [(dI x0), (dI x1), (dI x2), (dI x3), (dI x4), (dI x5), (Dw n6 5 l6), (dI x7), (dI x8), (dI x9), (dI x10)])] [(D.agg [(dI x0), (dI x1), (dI x2), (dI x3), (dI x4), (dI x5), (Dw n6 5 l6), (dI x7), (dI x8), (dI x9), (dI x10)])]) ∧
 (((Qv (Value.agg [(Value.string (s11)), (Sl 501 (n12) (c12))].toArray)) ∧
 True) ∧
 (bcase (dL n12 1 l12)
 ((Says C 12 [(D.agg [(D.val (Value.string (s11))), (Dw n12 1 l12)])] [(D.agg [(D.val (Value.string (s11))), (Dw n12 1 l12)])]) ∧
 (True ∧
 (bcase (dL n6 5 (Tk n6 5 l6))
 (bcase (dL n12 1 (Tk n12 1 l12))
 (∃ n3 : Int,
 ((Says C 23 [(D.agg [(dI x0), (dI x1), (dI x2), (dI x3), (dI x4), (dI x5), (Dw n6 5 (Tk n6 5 l6)), (dI x7), (dI x8), (dI x9), (dI x10)]), (D.agg [(D.val (Value.string (s11))), (Dw n12 1 (Tk n12 1 l12))])] [D.nil, (dI n3)]) ∧
 (((Qv (vI n3)) ∧
 ((Qv (Value.slice none 0 0)) ∧
 ((Qv (Value.tuple [(Value.slice none 0 0), (vI n3)].toArray)) ∧
 True))) ∧
 (((Qv (vI n3)) ∧
 True) ∧
 (True ∧
 (bcase (dL n6 5 l6)
 (bcase (dL n12 1 l12)
 (∃ n4 : Int,
 ((Says C 8 [(D.agg [(dI x0), (dI x1), (dI x2), (dI x3), (dI x4), (dI x5), (Dw n6 5 l6), (dI x7), (dI x8), (dI x9), (dI x10)]), (D.agg [(D.val (Value.string (s11))), (Dw n12 1 l12)])] [(dI n4)]) ∧
 (bcase (n4 != 0)
 (bcase (n1 == n4)
 (bcase (n2 == n4)
 (bcase (n3 == n4)
 (k kT)
 (k kF))
 (k kF))
 (k kF))
 (bcase (n1 == 0)
 False
 (k kF)))))
 False)
 False))))))
 False)
 False)))
 False)))
 False)))))))
 False)
 False)))
 False)))
 False)))))))
 False)
 False)))
 False)))
 False))
 (k kT))
 (k kT))
 (k kT))) ∨
 ((Says C 6 [] kF) ∧
 (k kF))) := by kernel_rfl
def gLc (C : Ct) (L : AtLoop) (x0 : Int) (x1 : Int) (x2 : Int) (x3 : Int) (x4 : Int) (x5 : Int) (n6 : Nat) (c6 : Nat) (l6 : List Value) (x7 : Int) (x8 : Int) (x9 : Int) (x10 : Int) (s11 : ByteArray) (k : List D → Prop) : Prop := wpFn Tryz.prog (hB2 C) L 0 4 #[.agg #[.int .i64 x0, .int .i64 x1, .int .i64 x2, .int .i64 x3, .int .i64 x4, .int .i64 x5, .slice (some ⟨500, 0, none⟩) n6 c6, .int .i64 x7, .int .i64 x8, .int .i64 x9, .int .i64 x10], .agg #[.string s11, .slice none 0 0]] (heapOf [(500, .sym l6 false 5)]) (dataK k)
theorem gLc_text (C : Ct) (L : AtLoop) (x0 : Int) (x1 : Int) (x2 : Int) (x3 : Int) (x4 : Int) (x5 : Int) (n6 : Nat) (c6 : Nat) (l6 : List Go.Value) (x7 : Int) (x8 : Int) (x9 : Int) (x10 : Int) (s11 : ByteArray) (k : List D → Prop) : gLc C L x0 x1 x2 x3 x4 x5 n6 c6 l6 x7 x8 x9 x10 s11 k =
 (((Says C 6 [] kT) ∧
 (bcase (decide ((↑n6 : Int) ≤ 8))
 (bcase (decide ((↑(ByteArray.size s11) : Int) ≤ 30))
 (((Qv (Value.agg [(Value.string (s11)), (Value.slice none 0 0)].toArray)) ∧
 ((Qv (Value.agg [(vI x0), (vI x1), (vI x2), (vI x3), (vI x4), (vI x5), (Sl 500 (n6) (c6)), (vI x7), (vI x8), (vI x9), (vI x10)].toArray)) ∧
 True)) ∧
 (bcase (dL n6 5 l6)
 ((Says C 11 [(D.agg [(dI x0), (dI x1), (dI x2), (dI x3), (dI x4), (dI x5), (Dw n6 5 l6), (dI x7), (dI x8), (dI x9), (dI x10)])] [(D.agg [(dI x0), (dI x1), (dI x2), (dI x3), (dI x4), (dI x5), (Dw n6 5 l6), (dI x7), (dI x8), (dI x9), (dI x10)])]) ∧
 (((Qv (Value.agg [(Value.string (s11)), (Value.slice none 0 0)].toArray)) ∧
 True) ∧
 ((Says C 12 [(D.agg [(D.val (Value.string (s11))), D.nil])] [(D.agg [(D.val (Value.string (s11))), (D.sl 0 1 [])])]) ∧
 (True ∧
 (bcase (dL n6 5 (Tk n6 5 l6))
 (∃ n1 : Int,
 ((Says C 21 [(D.agg [(dI x0), (dI x1), (dI x2), (dI x3), (dI x4), (dI x5), (Dw n6 5 (Tk n6 5 l6)), (dI x7), (dI x8), (dI x9), (dI x10)]), (D.agg [(D.val (Value.string (s11))), (D.sl 0 1 [])])] [D.nil, (dI n1)]) ∧
 (((Qv (vI n1)) ∧
 ((Qv (Value.slice none 0 0)) ∧
 ((Qv (Value.tuple [(Value.slice none 0 0), (vI n1)].toArray)) ∧
 True))) ∧
 (((Qv (vI n1)) ∧
 True) ∧
 (True ∧
 (((Qv (Value.agg [(Value.string (s11)), (Value.slice none 0 0)].toArray)) ∧
 ((Qv (Value.agg [(vI x0), (vI x1), (vI x2), (vI x3), (vI x4), (vI x5), (Sl 500 (n6) (c6)), (vI x7), (vI x8), (vI x9), (vI x10)].toArray)) ∧
 True)) ∧
 (bcase (dL n6 5 l6)
 ((Says C 11 [(D.agg [(dI x0), (dI x1), (dI x2), (dI x3), (dI x4), (dI x5), (Dw n6 5 l6), (dI x7), (dI x8), (dI x9), (dI x10)])] [(D.agg [(dI x0), (dI x1), (dI x2), (dI x3), (dI x4), (dI x5), (Dw n6 5 l6), (dI x7), (dI x8), (dI x9), (dI x10)])]) ∧
 (((Qv (Value.agg [(Value.string (s11)), (Value.slice none 0 0)].toArray)) ∧
 True) ∧
 ((Says C 12 [(D.agg [(D.val (Value.string (s11))), D.nil])] [(D.agg [(D.val (Value.string (s11))), (D.sl 0 1 [])])]) ∧
 (True ∧
 (bcase (dL n6 5 (Tk n6 5 l6))
 (∃ n2 : Int,
 ((Says C 22 [(D.agg [(dI x0), (dI x1), (dI x2), (dI x3), (dI x4), (dI x5), (Dw n6 5 (Tk n6 5 l6)), (dI x7), (dI x8), (dI x9), (dI x10)]), (D.agg [(D.val (Value.string (s11))), (D.sl 0 1 [])])] [D.nil, (dI n2)]) ∧
 (((Qv (vI n2)) ∧
 ((Qv (Value.slice none 0 0)) ∧
 ((Qv (Value.tuple [(Value.slice none 0 0), (vI n2)].toArray)) ∧
 True))) ∧
 (((Qv (vI n2)) ∧
 True) ∧
 (True ∧
 (((Qv (Value.agg [(Value.string (s11)), (Value.slice none 0 0)].toArray)) ∧
 ((Qv (Value.agg [(vI x0), (vI x1), (vI x2), (vI x3), (vI x4), (vI x5), (Sl 500 (n6) (c6)), (vI x7), (vI x8), (vI x9), (vI x10)].toArray)) ∧
 True)) ∧
 (bcase (dL n6 5 l6)
 ((Says C 11 [(D.agg [(dI x0), (dI x1), (dI x2), (dI x3), (dI x4), (dI x5), (Dw n6 5 l6), (dI x7), (dI x8), (dI x9), (dI x10)])] [(D.agg [(dI x0), (dI x1), (dI x2), (dI x3), (dI x4), (dI x5), (Dw n6 5 l6), (dI x7), (dI x8), (dI x9), (dI x10)])]) ∧
 (((Qv (Value.agg [(Value.string (s11)), (Value.slice none 0 0)].toArray)) ∧
 True) ∧
 ((Says C 12 [(D.agg [(D.val (Value.string (s11))), D.nil])] [(D.agg [(D.val (Value.string (s11))), (D.sl 0 1 [])])]) ∧
 (True ∧
 (bcase (dL n6 5 (Tk n6 5 l6))
 (∃ n3 : Int,
 ((Says C 23 [(D.agg [(dI x0), (dI x1), (dI x2), (dI x3), (dI x4), (dI x5), (Dw n6 5 (Tk n6 5 l6)), (dI x7), (dI x8), (dI x9), (dI x10)]), (D.agg [(D.val (Value.string (s11))), (D.sl 0 1 [])])] [D.nil, (dI n3)]) ∧
 (((Qv (vI n3)) ∧
 ((Qv (Value.slice none 0 0)) ∧
 ((Qv (Value.tuple [(Value.slice none 0 0), (vI n3)].toArray)) ∧
 True))) ∧
 (((Qv (vI n3)) ∧
 True) ∧
 (True ∧
 (bcase (dL n6 5 l6)
 (∃ n4 : Int,
 ((Says C 8 [(D.agg [(dI x0), (dI x1), (dI x2), (dI x3), (dI x4), (dI x5), (Dw n6 5 l6), (dI x7), (dI x8), (dI x9), (dI x10)]), (D.agg [(D.val (Value.string (s11))), D.nil])] [(dI n4)]) ∧
 (bcase (n4 != 0)
 (bcase (n1 == n4)
 (bcase (n2 == n4)
 (bcase (n3 == n4)
 (k kT)
 (k kF))
 (k kF))
 (k kF))
 (bcase (n1 == 0)
 False
 (k kF)))))
 False))))))
 False)))))
 False)))))))
 False)))))
 False)))))))
 False)))))
 False))
 (k kT))
 (k kT))) ∨
 ((Says C 6 [] kF) ∧
 (k kF))) := by kernel_rfl
def gLd (C : Ct) (L : AtLoop) (x0 : Int) (x1 : Int) (x2 : Int) (x3 : Int) (x4 : Int) (x5 : Int) (x7 : Int) (x8 : Int) (x9 : Int) (x10 : Int) (s11 : ByteArray) (n12 : Nat) (c12 : Nat) (l12 : List Value) (k : List D → Prop) : Prop := wpFn Tryz.prog (hB2 C) L 0 4 #[.agg #[.int .i64 x0, .int .i64 x1, .int .i64 x2, .int .i64 x3, .int .i64 x4, .int .i64 x5, .slice none 0 0, .int .i64 x7, .int .i64 x8, .int .i64 x9, .int .i64 x10], .agg #[.string s11, .slice (some ⟨500, 0, none⟩) n12 c12]] (heapOf [(500, .sym l12 false 1)]) (dataK k)
theorem gLd_text (C : Ct) (L : AtLoop) (x0 : Int) (x1 : Int) (x2 : Int) (x3 : Int) (x4 : Int) (x5 : Int) (x7 : Int) (x8 : Int) (x9 : Int) (x10 : Int) (s11 : ByteArray) (n12 : Nat) (c12 : Nat) (l12 : List Go.Value) (k : List D → Prop) : gLd C L x0 x1 x2 x3 x4 x5 x7 x8 x9 x10 s11 n12 c12 l12 k =
 (((Says C 6 [] kT) ∧
 (bcase (decide ((↑n12 : Int) ≤ 8))
 (bcase (decide ((↑(ByteArray.size s11) : Int) ≤ 30))
 (((Qv (Value.agg [(Value.string (s11)), (Sl 500 (n12) (c12))].toArray)) ∧
 ((Qv (Value.agg [(vI x0), (vI x1), (vI x2), (vI x3), (vI x4), (vI x5), (Value.slice none 0 0), (vI x7), (vI x8), (vI x9), (vI x10)].toArray)) ∧
 True)) ∧
 ((Says C 11 [(D.agg [(dI x0), (dI x1), (dI x2), (dI x3), (dI x4), (dI x5), D.nil, (dI x7), (dI x8), (dI x9), (dI x10)])] [(D.agg [(dI x0), (dI x1), (dI x2), (dI x3), (dI x4), (dI x5), (D.sl 0 5 []), (dI x7), (dI x8), (dI x9), (dI x10)])]) ∧
 (((Qv (Value.agg [(Value.string (s11)), (Sl 500 (n12) (c12))].toArray)) ∧
 True) ∧
 (bcase (dL n12 1 l12)
 ((Says C 12 [(D.agg [(D.val (Value.string (s11))), (Dw n12 1 l12)])] [(D.agg [(D.val (Value.string (s11))), (Dw n12 1 l12)])]) ∧
 (True ∧
 (bcase (dL n12 1 (Tk n12 1 l12))
 (∃ n1 : Int,
 ((Says C 21 [(D.agg [(dI x0), (dI x1), (dI x2), (dI x3), (dI x4), (dI x5), (D.sl 0 5 []), (dI x7), (dI x8), (dI x9), (dI x10)]), (D.agg [(D.val (Value.string (s11))), (Dw n12 1 (Tk n12 1 l12))])] [D.nil, (dI n1)]) ∧
 (((Qv (vI n1)) ∧
 ((Qv (Value.slice none 0 0)) ∧
 ((Qv (Value.tuple [(Value.slice none 0 0), (vI n1)].toArray)) ∧
 True))) ∧
 (((Qv (vI n1)) ∧
 True) ∧
 (True ∧
 (((Qv (Value.agg [(Value.string (s11)), (Sl 500 (n12) (c12))].toArray)) ∧
 ((Qv (Value.agg [(vI x0), (vI x1), (vI x2), (vI x3), (vI x4), (vI x5), (Value.slice none 0 0), (vI x7), (vI x8), (vI x9), (vI x10)].toArray)) ∧
 True)) ∧
 ((Says C 11 [(D.agg [(dI x0), (dI x1), (dI x2), (dI x3), (dI x4), (dI x5), D.nil, (dI x7), (dI x8), (dI x9), (dI x10)])] [(D.agg [(dI x0), (dI x1), (dI x2), (dI x3), (dI x4), (dI x5), (D.sl 0 5 []), (dI x7), (dI x8), (dI x9), (dI x10)])]) ∧
 (((Qv (Value.agg [(Value.string (s11)), (Sl 500 (n12) (c12))].toArray)) ∧
 True) ∧
 (bcase (dL n12 1 l12)
 ((Says C 12 [(D.agg [(D.val (Value.string (s11))), (Dw n12 1 l12)])] [(D.agg [(D.val (Value.string (s11))), (Dw n12 1 l12)])]) ∧
 (True ∧
 (bcase (dL n12 1 (Tk n12 1 l12))
 (∃ n2 : Int,
 ((Says C 22 [(D.agg [(dI x0), (dI x1), (dI x2), (dI x3), (dI x4), (dI x5), (D.sl 0 5 []), (dI x7), (dI x8), (dI x9), (dI x10)]), (D.agg [(D.val (Value.string (s11))), (Dw n12 1 (Tk n12 1 l12))])] [D.nil, (dI n2)]) ∧
 (((Qv (vI n2)) ∧
 ((Qv (Value.slice none 0 0)) ∧
 ((Qv (Value.tuple [(Value.slice none 0 0), (vI n2)].toArray)) ∧
 True))) ∧
 (((Qv (vI n2)) ∧
 True) ∧
 (True ∧
 (((Qv (Value.agg [(Value.string (s11)), (Sl 500 (n12) (c12))].toArray)) ∧
 ((Qv (Value.agg [(vI x0), (vI x1), (vI x2), (vI x3), (vI x4), (vI x5), (Value.slice none 0 0), (vI x7), (vI x8), (vI x9), (vI x10)].toArray)) ∧
 True)) ∧
 ((Says C 11 [(D.agg [(dI x0), (dI x1), (dI x2), (dI x3), (dI x4), (dI x5), D.nil, (dI x7), (dI x8), (dI x9), (dI x10)])] [(D.agg [(dI x0), (dI x1), (dI x2), (dI x3), (dI x4), (dI x5), (D.sl 0 5 []), (dI x7), (dI x8), (dI x9), (dI x10)])]) ∧
 (((Qv (Value.agg [(Value.string (s11)), (Sl 500 (n12) (c12))].toArray)) ∧
 True) ∧
 (bcase (dL n12 1 l12)
 ((Says C 12 [(D.agg [(D.val (Value.string (s11))), (Dw n12 1 l12)])] [(D.agg [(D.val (Value.string (s11))), (Dw n12 1 l12)])]) ∧
 (True ∧
 (bcase (dL n12 1 (Tk n12 1 l12))
 (∃ n3 : Int,
 ((Says C 23 [(D.agg [(dI x0), (dI x1), (dI x2), (dI x3), (dI x4), (dI x5), (D.sl 0 5 []), (dI x7), (dI x8), (dI x9), (dI x10)]), (D.agg [(D.val (Value.string (s11))), (Dw n12 1 (Tk n12 1 l12))])] [D.nil, (dI n3)]) ∧
 (((Qv (vI n3)) ∧
 ((Qv (Value.slice none 0 0)) ∧
 ((Qv (Value.tuple [(Value.slice none 0 0), (vI n3)].toArray)) ∧
 True))) ∧
 (((Qv (vI n3)) ∧
 True) ∧
 (True ∧
 (bcase (dL n12 1 l12)
 (∃ n4 : Int,
 ((Says C 8 [(D.agg [(dI x0), (dI x1), (dI x2), (dI x3), (dI x4), (dI x5), D.nil, (dI x7), (dI x8), (dI x9), (dI x10)]), (D.agg [(D.val (Value.string (s11))), (Dw n12 1 l12)])] [(dI n4)]) ∧
 (bcase (n4 != 0)
 (bcase (n1 == n4)
 (bcase (n2 == n4)
 (bcase (n3 == n4)
 (k kT)
 (k kF))
 (k kF))
 (k kF))
 (bcase (n1 == 0)
 False
 (k kF)))))
 False))))))
 False)))
 False)))))))))
 False)))
 False)))))))))
 False)))
 False))))
 (k kT))
 (k kT))) ∨
 ((Says C 6 [] kF) ∧
 (k kF))) := by kernel_rfl
def gLq (C : Ct) (L : AtLoop) (x0 : Int) (x1 : Int) (x2 : Int) (x3 : Int) (x4 : Int) (x5 : Int) (x7 : Int) (x8 : Int) (x9 : Int) (x10 : Int) (s11 : ByteArray) (k : List D → Prop) : Prop := wpFn Tryz.prog (hB2 C) L 0 4 #[.agg #[.int .i64 x0, .int .i64 x1, .int .i64 x2, .int .i64 x3, .int .i64 x4, .int .i64 x5, .slice none 0 0, .int .i64 x7, .int .i64 x8, .int .i64 x9, .int .i64 x10], .agg #[.string s11, .slice none 0 0]] (heapOf []) (dataK k)
theorem gLq_text (C : Ct) (L : AtLoop) (x0 : Int) (x1 : Int) (x2 : Int) (x3 : Int) (x4 : Int) (x5 : Int) (x7 : Int) (x8 : Int) (x9 : Int) (x10 : Int) (s11 : ByteArray) (k : List D → Prop) : gLq C L x0 x1 x2 x3 x4 x5 x7 x8 x9 x10 s11 k =
 (((Says C 6 [] kT) ∧
 (bcase (decide ((↑(ByteArray.size s11) : Int) ≤ 30))
 (((Qv (Value.agg [(Value.string (s11)), (Value.slice none 0 0)].toArray)) ∧
 ((Qv (Value.agg [(vI x0), (vI x1), (vI x2), (vI x3), (vI x4), (vI x5), (Value.slice none 0 0), (vI x7), (vI x8), (vI x9), (vI x10)].toArray)) ∧
 True)) ∧
 ((Says C 11 [(D.agg [(dI x0), (dI x1), (dI x2), (dI x3), (dI x4), (dI x5), D.nil, (dI x7), (dI x8), (dI x9), (dI x10)])] [(D.agg [(dI x0), (dI x1), (dI x2), (dI x3), (dI x4), (dI x5), (D.sl 0 5 []), (dI x7), (dI x8), (dI x9), (dI x10)])]) ∧
 (((Qv (Value.agg [(Value.string (s11)), (Value.slice none 0 0)].toArray)) ∧
 True) ∧
 ((Says C 12 [(D.agg [(D.val (Value.string (s11))), D.nil])] [(D.agg [(D.val (Value.string (s11))), (D.sl 0 1 [])])]) ∧
 (True ∧
 (∃ n1 : Int,
 ((Says C 21 [(D.agg [(dI x0), (dI x1), (dI x2), (dI x3), (dI x4), (dI x5), (D.sl 0 5 []), (dI x7), (dI x8), (dI x9), (dI x10)]), (D.agg [(D.val (Value.string (s11))), (D.sl 0 1 [])])] [D.nil, (dI n1)]) ∧
 (((Qv (vI n1)) ∧
 ((Qv (Value.slice none 0 0)) ∧
 ((Qv (Value.tuple [(Value.slice none 0 0), (vI n1)].toArray)) ∧
 True))) ∧
 (((Qv (vI n1)) ∧
 True) ∧
 (True ∧
 (((Qv (Value.agg [(Value.string (s11)), (Value.slice none 0 0)].toArray)) ∧
 ((Qv (Value.agg [(vI x0), (vI x1), (vI x2), (vI x3), (vI x4), (vI x5), (Value.slice none 0 0), (vI x7), (vI x8), (vI x9), (vI x10)].toArray)) ∧
 True)) ∧
 ((Says C 11 [(D.agg [(dI x0), (dI x1), (dI x2), (dI x3), (dI x4), (dI x5), D.nil, (dI x7), (dI x8), (dI x9), (dI x10)])] [(D.agg [(dI x0), (dI x1), (dI x2), (dI x3), (dI x4), (dI x5), (D.sl 0 5 []), (dI x7), (dI x8), (dI x9), (dI x10)])]) ∧
 (((Qv (Value.agg [(Value.string (s11)), (Value.slice none 0 0)].toArray)) ∧
 True) ∧
 ((Says C 12 [(D.agg [(D.val (Value.string (s11))), D.nil])] [(D.agg [(D.val (Value.string (s11))), (D.sl 0 1 [])])]) ∧
 (True ∧
 (∃ n2 : Int,
 ((Says C 22 [(D.agg [(dI x0), (dI x1), (dI x2), (dI x3), (dI x4), (dI x5), (D.sl 0 5 []), (dI x7), (dI x8), (dI x9), (dI x10)]), (D.agg [(D.val (Value.string (s11))), (D.sl 0 1 [])])] [D.nil, (dI n2)]) ∧
 (((Qv (vI n2)) ∧
 ((Qv (Value.slice none 0 0)) ∧
 ((Qv (Value.tuple [(Value.slice none 0 0), (vI n2)].toArray)) ∧
 True))) ∧
 (((Qv (vI n2)) ∧
 True) ∧
 (True ∧
 (((Qv (Value.agg [(Value.string (s11)), (Value.slice none 0 0)].toArray)) ∧
 ((Qv (Value.agg [(vI x0), (vI x1), (vI x2), (vI x3), (vI x4), (vI x5), (Value.slice none 0 0), (vI x7), (vI x8), (vI x9), (vI x10)].toArray)) ∧
 True)) ∧
 ((Says C 11 [(D.agg [(dI x0), (dI x1), (dI x2), (dI x3), (dI x4), (dI x5), D.nil, (dI x7), (dI x8), (dI x9), (dI x10)])] [(D.agg [(dI x0), (dI x1), (dI x2), (dI x3), (dI x4), (dI x5), (D.sl 0 5 []), (dI x7), (dI x8), (dI x9), (dI x10)])]) ∧
 (((Qv (Value.agg [(Value.string (s11)), (Value.slice none 0 0)].toArray)) ∧
 True) ∧
 ((Says C 12 [(D.agg [(D.val (Value.string (s11))), D.nil])] [(D.agg [(D.val (Value.string (s11))), (D.sl 0 1 [])])]) ∧
 (True ∧
 (∃ n3 : Int,
 ((Says C 23 [(D.agg [(dI x0), (dI x1), (dI x2), (dI x3), (dI x4), (dI x5), (D.sl 0 5 []), (dI x7), (dI x8), (dI x9), (dI x10)]), (D.agg [(D.val (Value.string (s11))), (D.sl 0 1 [])])] [D.nil, (dI n3)]) ∧
 (((Qv (vI n3)) ∧
 ((Qv (Value.slice none 0 0)) ∧
 ((Qv (Value.tuple [(Value.slice none 0 0), (vI n3)].toArray)) ∧
 True))) ∧
 (((Qv (vI n3)) ∧
 True) ∧
 (True ∧
 (∃ n4 : Int,
 ((Says C 8 [(D.agg [(dI x0), (dI x1), (dI x2), (dI x3), (dI x4), (dI x5), D.nil, (dI x7), (dI x8), (dI x9), (dI x10)]), (D.agg [(D.val (Value.string (s11))), D.nil])] [(dI n4)]) ∧
 (bcase (n4 != 0)
 (bcase (n1 == n4)
 (bcase (n2 == n4)
 (bcase (n3 == n4)
 (k kT)
 (k kF))
 (k kF))
 (k kF))
 (bcase (n1 == 0)
 False
 (k kF)))))))))))))))))))))))))))))))))))
 (k kT))) ∨
 ((Says C 6 [] kF) ∧
 (k kF))) := by kernel_rfl
def gcR (C : Ct) (L : AtLoop) (x0 : Int) (x1 : Int) (x2 : Int) (x3 : Int) (x4 : Int) (x5 : Int) (n6 : Nat) (c6 : Nat) (l6 : List Value) (x7 : Int) (x8 : Int) (x9 : Int) (x10 : Int) (k : List D → Prop) : Prop := wpFn Tryz.prog (hE C) L 0 11 #[.agg #[.int .i64 x0, .int .i64 x1, .int .i64 x2, .int .i64 x3, .int .i64 x4, .int .i64 x5, .slice (some ⟨500, 0, none⟩) n6 c6, .int .i64 x7, .int .i64 x8, .int .i64 x9, .int .i64 x10]] (heapOf [(500, .sym l6 false 5)]) (dataK k)
theorem gcR_text (C : Ct) (L : AtLoop) (x0 : Int) (x1 : Int) (x2 : Int) (x3 : Int) (x4 : Int) (x5 : Int) (n6 : Nat) (c6 : Nat) (l6 : List Go.Value) (x7 : Int) (x8 : Int) (x9 : Int) (x10 : Int) (k : List D → Prop) : gcR C L x0 x1 x2 x3 x4 x5 n6 c6 l6 x7 x8 x9 x10 k =
 (bcase (dL n6 5 l6)
 (bcase (n6 == 0)
 (((0 = 0) ∧
 (0 = 0)) ∧
 (k [(D.agg [(dI x0), (dI x1), (dI x2), (dI x3), (dI x4), (dI x5), (D.sl 0 5 []), (dI x7), (dI x8), (dI x9), (dI x10)])]))
 (bcase (decide (0 < 0 + n6))
 (bcase (decide ((2 * (0 + n6) + 768) * 40 ≤ 281474976710656))
 (bcase (decide (0 + n6 ≤ 1099511627776))
 (((Qv (0 + n6)) ∧
 ((List.length (List.take 0 (List.drop 0 []) ++ List.take (n6 * 5) (List.drop 0 l6))) = ((0 + n6) * 5))) ∧
 (k [(D.agg [(dI x0), (dI x1), (dI x2), (dI x3), (dI x4), (dI x5), (D.sl (0 + n6) 5 ([] ++ (Tk n6 5 l6))), (dI x7), (dI x8), (dI x9), (dI x10)])]))
 False)
 False)
 False))
 False) := by kernel_rfl
def gcRn (C : Ct) (L : AtLoop) (x0 : Int) (x1 : Int) (x2 : Int) (x3 : Int) (x4 : Int) (x5 : Int) (x7 : Int) (x8 : Int) (x9 : Int) (x10 : Int) (k : List D → Prop) : Prop := wpFn Tryz.prog (hE C) L 0 11 #[.agg #[.int .i64 x0, .int .i64 x1, .int .i64 x2, .int .i64 x3, .int .i64 x4, .int .i64 x5, .slice none 0 0, .int .i64 x7, .int .i64 x8, .int .i64 x9, .int .i64 x10]] (heapOf []) (dataK k)
theorem gcRn_text (C : Ct) (L : AtLoop) (x0 : Int) (x1 : Int) (x2 : Int) (x3 : Int) (x4 : Int) (x5 : Int) (x7 : Int) (x8 : Int) (x9 : Int) (x10 : Int) (k : List D → Prop) : gcRn C L x0 x1 x2 x3 x4 x5 x7 x8 x9 x10 k =
 (((0 = 0) ∧
 (0 = 0)) ∧
 (k [(D.agg [(dI x0), (dI x1), (dI x2), (dI x3), (dI x4), (dI x5), (D.sl 0 5 []), (dI x7), (dI x8), (dI x9), (dI x10)])])) := by kernel_rfl
def gcS (C : Ct) (L : AtLoop) (s0 : ByteArray) (n1 : Nat) (c1 : Nat) (l1 : List Value) (k : List D → Prop) : Prop := wpFn Tryz.prog (hE C) L 0 12 #[.agg #[.string s0, .slice (some ⟨500, 0, none⟩) n1 c1]] (heapOf [(500, .sym l1 false 1)]) (dataK k)
theorem gcS_text (C : Ct) (L : AtLoop) (s0 : ByteArray) (n1 : Nat) (c1 : Nat) (l1 : List Go.Value) (k : List D → Prop) : gcS C L s0 n1 c1 l1 k =
 (((Qv (Sl 500 (n1) (c1))) ∧
 ((Qv (Pt 1000 1)) ∧
 ((Qv (Value.string (s0))) ∧
 ((Qv (Pt 1000 0)) ∧
 True)))) ∧
 (bcase (dL n1 1 l1)
 (bcase (n1 == 0)
 (((Qv (Value.agg [(Value.string (s0)), (Sl 1003 0 0)].toArray)) ∧
 ((Qv (Pt 1000 1)) ∧
 ((Qv (Value.string (s0))) ∧
 ((Qv (Pt 1000 0)) ∧
 True)))) ∧
 (True ∧
 (((0 = 0) ∧
 (0 = 0)) ∧
 (k [(D.agg [(D.val (Value.string (s0))), (D.sl 0 1 [])])]))))
 (bcase (decide (0 < 0 + n1))
 (bcase (decide ((2 * (0 + n1) + 768) * 8 ≤ 281474976710656))
 (bcase (decide (0 + n1 ≤ 1099511627776))
 (((Qv (Value.agg [(Value.string (s0)), (Sl 1003 (0 + n1) (0 + n1))].toArray)) ∧
 ((Qv (Pt 1000 1)) ∧
 ((Qv (Value.string (s0))) ∧
 ((Qv (Pt 1000 0)) ∧
 True)))) ∧
 (True ∧
 (((Qv (0 + n1)) ∧
 ((List.length (List.take 0 (List.drop 0 []) ++ List.take (n1 * 1) (List.drop 0 l1))) = ((0 + n1) * 1))) ∧
 (k [(D.agg [(D.val (Value.string (s0))), (D.sl (0 + n1) 1 ([] ++ (Tk n1 1 l1)))])]))))
 False)
 False)
 False))
 False)) := by kernel_rfl
def gcSn (C : Ct) (L : AtLoop) (s0 : ByteArray) (k : List D → Prop) : Prop := wpFn Tryz.prog (hE C) L 0 12 #[.agg #[.string s0, .slice none 0 0]] (heapOf []) (dataK k)
theorem gcSn_text (C : Ct) (L : AtLoop) (s0 : ByteArray) (k : List D → Prop) : gcSn C L s0 k =
 (((Qv (Value.slice none 0 0)) ∧
 ((Qv (Pt 1000 1)) ∧
 ((Qv (Value.string (s0))) ∧
 ((Qv (Pt 1000 0)) ∧
 True)))) ∧
 (((Qv (Value.agg [(Value.string (s0)), (Sl 1003 0 0)].toArray)) ∧
 ((Qv (Pt 1000 1)) ∧
 ((Qv (Value.string (s0))) ∧
 ((Qv (Pt 1000 0)) ∧
 True)))) ∧
 (True ∧
 (((0 = 0) ∧
 (0 = 0)) ∧
 (k [(D.agg [(D.val (Value.string (s0))), (D.sl 0 1 [])])]))))) := by kernel_rfl
end Go.Proofs.G5o

/- Calls whose lists are never nil: the rule holds. -/
namespace Go.Abs
open Go.RowKit
variable {P : Program}
theorem someScalL_out : ∀ (l : List Sc) {H : Heap} {k : List D → List Value → Heap → Prop}, someScalL l H k → ∃ ds vs H', LaidC H ds vs H' ∧ ds.length = l.length ∧ k ds vs H'
  | [], H, k, h => ⟨[], [], H, .nil H, rfl, h⟩
  | .int kd :: r, H, k, h => by
    obtain ⟨n, h⟩ := h
    obtain ⟨ds, vs, H', h1, h2, h3⟩ := someScalL_out r h
    exact ⟨_, _, _, .val _ (fun cs e => by cases e) h1, by simp [h2], h3⟩
  | .bool :: r, H, k, h => by
    obtain ⟨n, h⟩ := h
    obtain ⟨ds, vs, H', h1, h2, h3⟩ := someScalL_out r h
    exact ⟨_, _, _, .val _ (fun cs e => by cases e) h1, by simp [h2], h3⟩
  | .str :: r, H, k, h => by
    obtain ⟨n, h⟩ := h
    obtain ⟨ds, vs, H', h1, h2, h3⟩ := someScalL_out r h
    exact ⟨_, _, _, .val _ (fun cs e => by cases e) h1, by simp [h2], h3⟩
  | .sl es :: r, H, k, h => by
    obtain ⟨n, cs, h⟩ := h
    obtain ⟨ds, vs, H', h1, h2, h3⟩ := someScalL_out r h
    exact ⟨_, _, _, .sl n es cs h1, by simp [h2], h3⟩
theorem someValsL_out : ∀ (ts : List TypeId) {H : Heap} {k : List D → List Value → Heap → Prop}, someValsL P ts H k → ∃ ds vs H', LaidV H ds vs H' ∧ k ds vs H'
  | [], H, k, h => ⟨[], [], H, .nil H, h⟩
  | t :: r, H, k, h => by
    simp only [someValsL, someValL] at h
    split at h
    · cases h
    · rename_i l hl
      split at h
      · obtain ⟨ds, vs, H', h1, _, h3⟩ := someScalL_out l h
        obtain ⟨rs, us, H2, h4, h5⟩ := someValsL_out r h3
        exact ⟨_, _, _, .agg h1 h4, h5⟩
      · obtain ⟨ds, vs, H', h1, _, h3⟩ := someScalL_out l h
        split at h3
        · obtain ⟨rs, us, H2, h4, h5⟩ := someValsL_out r h3
          exact ⟨_, _, _, .one h1 h4, h5⟩
        · cases h3
theorem saidL_ok {C : FuncId → List D → List D → Prop} (hC : ∀ f ds rs, C f ds rs → Con P f ds rs) : HandlerOK P (saidL P C) := by
  intro f args ats H k hk
  unfold saidL at hk
  split at hk
  · rename_i fn _
    intro w0 ρ w args' n g ha
    obtain ⟨ds, hr, hk⟩ := readVals_out g _ ha hk
    obtain ⟨rs, vs, H', hl, hs, hk⟩ := someValsL_out fn.resultTypes.toList hk
    refine callsIn_wide.2 ((hC f ds rs hs.out w args' g.good hr).mono ?_)
    rintro e w' ⟨⟨vs', u, rfl, hg⟩, hb⟩
    obtain ⟨ρ', g', l', e', _, _⟩ := laidV_sound hl (g.grow hb) (g.growB hb) g.below.size (fun i m hm => .inl (g.own i m hm).1) hg
    exact ⟨_, H', ρ', _, hk, rfl, tupleOf_R l', g', e'⟩
  · exact hk.elim
theorem someScalN_out : ∀ (l : List Sc) {H : Heap} {k : List D → List Value → Heap → Prop}, someScalN l H k → ∃ ds vs H', LaidC H ds vs H' ∧ ds.length = l.length ∧ k ds vs H'
  | [], H, k, h => ⟨[], [], H, .nil H, rfl, h⟩
  | .int kd :: r, H, k, h => by
    obtain ⟨n, h⟩ := h
    obtain ⟨ds, vs, H', h1, h2, h3⟩ := someScalN_out r h
    exact ⟨_, _, _, .val _ (fun cs e => by cases e) h1, by simp [h2], h3⟩
  | .bool :: r, H, k, h => by
    obtain ⟨n, h⟩ := h
    obtain ⟨ds, vs, H', h1, h2, h3⟩ := someScalN_out r h
    exact ⟨_, _, _, .val _ (fun cs e => by cases e) h1, by simp [h2], h3⟩
  | .str :: r, H, k, h => by
    obtain ⟨n, h⟩ := h
    obtain ⟨ds, vs, H', h1, h2, h3⟩ := someScalN_out r h
    exact ⟨_, _, _, .val _ (fun cs e => by cases e) h1, by simp [h2], h3⟩
  | .sl es :: r, H, k, h => by
    obtain ⟨ds, vs, H', h1, h2, h3⟩ := someScalN_out r h
    exact ⟨_, _, _, .nilS h1, by simp [h2], h3⟩
theorem someValsN_out : ∀ (ts : List TypeId) {H : Heap} {k : List D → List Value → Heap → Prop}, someValsN P ts H k → ∃ ds vs H', LaidV H ds vs H' ∧ k ds vs H'
  | [], H, k, h => ⟨[], [], H, .nil H, h⟩
  | t :: r, H, k, h => by
    simp only [someValsN, someValN] at h
    split at h
    · cases h
    · rename_i l hl
      split at h
      · obtain ⟨ds, vs, H', h1, _, h3⟩ := someScalN_out l h
        obtain ⟨rs, us, H2, h4, h5⟩ := someValsN_out r h3
        exact ⟨_, _, _, .agg h1 h4, h5⟩
      · obtain ⟨ds, vs, H', h1, _, h3⟩ := someScalN_out l h
        split at h3
        · obtain ⟨rs, us, H2, h4, h5⟩ := someValsN_out r h3
          exact ⟨_, _, _, .one h1 h4, h5⟩
        · cases h3
theorem saidN_ok {C : FuncId → List D → List D → Prop} (hC : ∀ f ds rs, C f ds rs → Con P f ds rs) : HandlerOK P (saidN P C) := by
  intro f args ats H k hk
  unfold saidN at hk
  split at hk
  · rename_i fn _
    intro w0 ρ w args' n g ha
    obtain ⟨ds, hr, hk⟩ := readVals_out g _ ha hk
    obtain ⟨rs, vs, H', hl, hs, hk⟩ := someValsN_out fn.resultTypes.toList hk
    refine callsIn_wide.2 ((hC f ds rs hs.out w args' g.good hr).mono ?_)
    rintro e w' ⟨⟨vs', u, rfl, hg⟩, hb⟩
    obtain ⟨ρ', g', l', e', _, _⟩ := laidV_sound hl (g.grow hb) (g.growB hb) g.below.size (fun i m hm => .inl (g.own i m hm).1) hg
    exact ⟨_, H', ρ', _, hk, rfl, tupleOf_R l', g', e'⟩
  · exact hk.elim
end Go.Abs

/- PassLoads in data. -/
namespace Go.Proofs.G5o
open Go Go.Abs Go.Proofs Go.Str
set_option maxRecDepth 100000
theorem v5_e {l : List Fv} (h : l.length = 0) : vs5 l = [] := by rw [List.eq_nil_of_length_eq_zero h]; rfl
theorem v1_e {l : List Int} (h : l.length = 0) : vi l = [] := by rw [List.eq_nil_of_length_eq_zero h]; rfl
theorem concR (r : Ru) (h8 : r.ss.length ≤ 8) : C5 11 [r.d] [r.d] := by
  refine con_flat hokE mixed Tryz.func11 rfl (by show 1 ≤ 400; omega) rfl (by kernel_rfl) (fun caps => ?_)
  show gcR _ _ r.w r.st r.fi r.hlo r.hhi r.co r.ss.length (caps 500) (vs5 r.ss) r.slo r.shi r.flo r.fhi _
  rw [gcR_text]
  simp only [dL, Tk, v5_whole, bc_t (v5le r.ss), Qv, eq_self, true_and]
  refine bc_beq (fun h => ?_) (fun h => ?_)
  · show [D.agg _] = [D.agg _]
    simp only [v5_e h, h]
  · rw [bc_t (by omega), bc_t (by omega), bc_t (by omega)]
    simp
theorem concRn (r : Ru) (h : r.ss = []) : C5 11 [r.dn] [r.d] := by
  refine con_flat hokE mixed Tryz.func11 rfl (by show 0 ≤ 400; omega) rfl (by kernel_rfl) (fun caps => ?_)
  show gcRn _ _ r.w r.st r.fi r.hlo r.hhi r.co r.slo r.shi r.flo r.fhi _
  rw [gcRn_text]
  simp only [eq_self, true_and]
  simp only [Ru.d, h]
  rfl
theorem concS (nm : List UInt8) (th : List Int) (h8 : th.length ≤ 8) : C5 12 [scD nm th] [scD nm th] := by
  refine con_flat hokE mixed Tryz.func12 rfl (by show 1 ≤ 400; omega) rfl (by kernel_rfl) (fun caps => ?_)
  show gcS _ _ (bs nm) th.length (caps 500) (vi th) _
  rw [gcS_text]
  simp only [dL, Tk, v1_whole, bc_t (v1le th), Qv, eq_self, true_and]
  refine bc_beq (fun h => ?_) (fun h => ?_)
  · show [D.agg _] = [D.agg _]
    simp only [v1_e h, h]
  · rw [bc_t (by omega), bc_t (by omega), bc_t (by omega)]
    simp
theorem concSn (nm : List UInt8) : C5 12 [scN nm] [scD nm []] := by
  refine con_flat hokE mixed Tryz.func12 rfl (by show 0 ≤ 400; omega) rfl (by kernel_rfl) (fun caps => ?_)
  show gcSn _ _ (bs nm) _
  rw [gcSn_text]
  simp only [Qv, eq_self, true_and]
  rfl
theorem conSE (r : Ru) (nm : List UInt8) (th : List Int) (hlen : r.ss.length < 1000000000) (hth : th.length < 1000000000) : C5 46 [r.d, scD nm th] [dI (schE r nm th).2] := by
  refine con_flat hokP mixed Tryz.func46 rfl (by show 2 ≤ 400; omega) rfl (by kernel_rfl) (fun caps => ?_)
  show gSE _ _ r.w r.st r.fi r.hlo r.hhi r.co r.ss.length (caps 500) (vs5 r.ss) r.slo r.shi r.flo r.fhi (bs nm) th.length (caps 501) (vi th) _
  rw [gSE_text, bc_t (v5le r.ss), bc_t (v1le th), v5_whole, v1_whole]
  exact ⟨_, _, ⟨conRS r nm th hlen hth⟩, rfl⟩
theorem conSEn (r : Ru) (nm : List UInt8) (h0 : 0 < r.ss.length) (hlen : r.ss.length < 1000000000) : C5 46 [r.d, scN nm] [dI (schE r nm []).2] := by
  refine con_flat hokP mixed Tryz.func46 rfl (by show 1 ≤ 400; omega) rfl (by kernel_rfl) (fun caps => ?_)
  show gSEn _ _ r.w r.st r.fi r.hlo r.hhi r.co r.ss.length (caps 500) (vs5 r.ss) r.slo r.shi r.flo r.fhi (bs nm) _
  rw [gSEn_text, bc_t (v5le r.ss), v5_whole]
  exact ⟨_, _, ⟨conRSn r nm h0 hlen⟩, rfl⟩
theorem conBE (r : Ru) (nm : List UInt8) (th : List Int) (hlen : r.ss.length < 1000000000) (hth : th.length < 1000000000) : C5 8 [r.d, scD nm th] [dI (if (chk r).2 = 0 then (schE r nm th).2 else (chk r).2)] := by
  refine con_flat hokP mixed Tryz.func8 rfl (by show 2 ≤ 400; omega) rfl (by kernel_rfl) (fun caps => ?_)
  show gBE _ _ r.w r.st r.fi r.hlo r.hhi r.co r.ss.length (caps 500) (vs5 r.ss) r.slo r.shi r.flo r.fhi (bs nm) th.length (caps 501) (vi th) _
  rw [gBE_text]
  simp only [bc_t (v5le r.ss), bc_t (v1le th), v5_whole, v1_whole]
  refine ⟨_, ⟨conRE r hlen⟩, bc_bne (fun h => ?_) (fun h => ?_)⟩
  · rw [if_neg h]
  · exact ⟨_, ⟨conSE r nm th hlen hth⟩, by rw [if_pos h]⟩
theorem conBEn (r : Ru) (nm : List UInt8) (hlen : r.ss.length < 1000000000) : C5 8 [r.d, scN nm] [dI (if (chk r).2 = 0 then (schE r nm []).2 else (chk r).2)] := by
  refine con_flat hokP mixed Tryz.func8 rfl (by show 1 ≤ 400; omega) rfl (by kernel_rfl) (fun caps => ?_)
  show gBEn _ _ r.w r.st r.fi r.hlo r.hhi r.co r.ss.length (caps 500) (vs5 r.ss) r.slo r.shi r.flo r.fhi (bs nm) _
  rw [gBEn_text]
  simp only [bc_t (v5le r.ss), v5_whole]
  refine ⟨_, ⟨conRE r hlen⟩, bc_bne (fun h => ?_) (fun h => ?_)⟩
  · rw [if_neg h]
  · exact ⟨_, ⟨conSEn r nm (chk_pos h) hlen⟩, by rw [if_pos h]⟩
theorem chk_nil {r : Ru} (h : r.ss = []) : (chk r).2 ≠ 0 := fun hc => by
  have := chk_pos hc
  rw [h] at this; simp at this
theorem conBEm (r : Ru) (hr : r.ss = []) (nm : List UInt8) (th : List Int) : C5 8 [r.dn, scD nm th] [dI (chk r).2] := by
  refine con_flat hokP mixed Tryz.func8 rfl (by show 1 ≤ 400; omega) rfl (by kernel_rfl) (fun caps => ?_)
  show gBEm _ _ r.w r.st r.fi r.hlo r.hhi r.co r.slo r.shi r.flo r.fhi (bs nm) th.length (caps 500) (vi th) _
  rw [gBEm_text]
  exact ⟨_, ⟨conREn r hr⟩, bc_bne (fun h => rfl) (fun h => absurd h (chk_nil hr))⟩
theorem conBEk (r : Ru) (hr : r.ss = []) (nm : List UInt8) : C5 8 [r.dn, scN nm] [dI (chk r).2] := by
  refine con_flat hokP mixed Tryz.func8 rfl (by show 0 ≤ 400; omega) rfl (by kernel_rfl) (fun caps => ?_)
  show gBEk _ _ r.w r.st r.fi r.hlo r.hhi r.co r.slo r.shi r.flo r.fhi (bs nm) _
  rw [gBEk_text]
  exact ⟨_, ⟨conREn r hr⟩, bc_bne (fun h => rfl) (fun h => absurd h (chk_nil hr))⟩
theorem preAOK : PreOK Tryz.prog (preA C5) := by
  intro g h he args ats H k hk
  unfold preA at he
  rcases ite_so he with ⟨_, rfl⟩ | he
  · exact saidL_ok (fun _ _ _ h => h) _ _ _ _ _ hk
  rcases ite_so he with ⟨_, rfl⟩ | he
  · exact fixH_ok (fun _ _ _ h => h) _ _ _ _ _ hk
  rcases ite_so he with ⟨_, rfl⟩ | he
  · exact fixH_ok (fun _ _ _ h => h) _ _ _ _ _ hk
  rcases ite_so he with ⟨_, rfl⟩ | he
  · exact saidH_ok (fun _ _ _ h => h) _ _ _ _ _ hk
  · cases he
theorem hokA2 : HandlerOK Tryz.prog (hA2 C5) := handlerX_ok mixed preAOK (by decide) 6
theorem preBOK : PreOK Tryz.prog (preB C5) := by
  intro g h he args ats H k hk
  unfold preB at he
  rcases ite_so he with ⟨_, rfl⟩ | he
  · exact saidN_ok (fun _ _ _ h => h) _ _ _ _ _ hk
  rcases ite_so he with ⟨_, rfl⟩ | he
  · exact hk.elim
  rcases ite_so he with ⟨_, rfl⟩ | he
  · exact fixH_ok (fun _ _ _ h => h) _ _ _ _ _ hk
  rcases ite_so he with ⟨_, rfl⟩ | he
  · exact fixH_ok (fun _ _ _ h => h) _ _ _ _ _ hk
  rcases ite_so he with ⟨_, rfl⟩ | he
  · exact saidH_ok (fun _ _ _ h => h) _ _ _ _ _ hk
  · cases he
theorem hokB2 : HandlerOK Tryz.prog (hB2 C5) := handlerX_ok mixed preBOK (by decide) 6
theorem bothP (r : Ru) (nm : List UInt8) (th : List Int) : (if (chk r).2 = 0 then (schE r nm th).2 else (chk r).2) = (schP r nm th).2 := by
  unfold schP
  split <;> rfl
theorem at4 {l : List Value} {k : Nat} {a b c d : Int} (h : At l k 4 [.int .i64 a, .int .i64 b, .int .i64 c, .int .i64 d]) {Q : Int → Int → Int → Int → Prop} : (∃ n : Int, ∃ m : Int, ∃ p : Int, ∃ q : Int, At l k 4 [.int .i64 n, .int .i64 m, .int .i64 p, .int .i64 q] ∧ Q n m p q) = Q a b c d := by
  apply propext
  constructor
  · rintro ⟨n, m, p, q, hn, hq⟩
    have e := h.eq.symm.trans hn.eq
    simp only [List.cons.injEq, Value.int.injEq, true_and, and_true] at e
    obtain ⟨rfl, rfl, rfl, rfl⟩ := e
    exact hq
  · exact fun hq => ⟨a, b, c, d, h, hq⟩
theorem vq_drop : ∀ (l : List ((Int × Int) × (Int × Int))) (i : Nat), (vq l).drop (i * 4) = vq (l.drop i)
  | l, 0 => by simp
  | [], i + 1 => by simp [vq]
  | p :: r, i + 1 => by
    have := vq_drop r i
    rw [List.drop_succ_cons, ← this, show (i + 1) * 4 = i * 4 + 4 by omega]
    simp only [vq, List.drop_succ_cons]
theorem vq_four (l : List ((Int × Int) × (Int × Int))) (i : Nat) (h : i < l.length) : At (vq l) (0 + i * 4) 4 [.int .i64 l[i].1.1, .int .i64 l[i].1.2, .int .i64 l[i].2.1, .int .i64 l[i].2.2] := by
  refine ⟨by rw [vq_length]; omega, ?_⟩
  rw [Nat.zero_add, vq_drop, List.drop_eq_getElem_cons h]
  rfl
theorem conRg (l : List (Int × Int)) (hlen : l.length < 1000000000) : C5 24 [.sl l.length 2 (vp l), .sl l.length 2 (vp l)] [dB true] := by
  let inv : Nat × Nat × Nat → Prop := fun x => x.1 ≤ l.length
  let st : Nat × Nat × Nat → Slots × Blocks := fun x => zRg1 l.length x.2.1 l.length x.2.2 x.1 (vp l) (vp l)
  refine con_of (L := fun _ s b => ∃ x, inv x ∧ st x = (s, b)) hokP mixed Tryz.func24 rfl (by show 2 ≤ 400; omega) rfl (ids := [0]) (by kernel_rfl) rfl (fun caps => ?_) (fun id hid => ?_)
  · show gRg _ _ l.length (caps 500) (vp l) l.length (caps 501) (vp l) _
    rw [gRg_text]
    exact bc_bne (fun h => absurd rfl h) (fun _ => ⟨(0, caps 500, caps 501), Nat.zero_le _, rfl⟩)
  · obtain rfl := List.mem_singleton.1 hid
    refine ⟨Nat × Nat × Nat, st, inv, fun x => l.length - x.1, ⟨fun s b h => h, by kernel_rfl, ?_⟩⟩
    rintro ⟨i, c1, c2⟩ hi
    have hi : i ≤ l.length := hi
    show rRg1 _ _ l.length c1 l.length c2 i (vp l) (vp l) _ _ _
    rw [rRg1_text]
    refine bc_dec (fun h => ?_) (fun h => ?_)
    · have hi2 : i < l.length := by omega
      simp only [bc_t (show (0 : Int) ≤ (i : Int) by omega), bc_t h, Int.toNat_natCast, at2 (vp_two l i hi2), Qv, eq_self, true_and, and_true, beq_self_eq_true, Bool.and_self, Bool.not_true, if_true, bcF]
      refine ⟨(i + 1, c1, c2), hi2, by show l.length - (i + 1) < l.length - i; omega, ?_⟩
      show zRg1 _ _ _ _ _ _ _ = _
      rw [w64 (by omega) (by omega)]; rfl
    · show (if 0 = 0 then _ else _)
      rw [if_pos rfl]
      show nRg2 _ _ _
      rw [nRg2_text]
theorem conSS (l : List ((Int × Int) × (Int × Int))) (hlen : l.length < 1000000000) : C5 27 [.sl l.length 4 (vq l), .sl l.length 4 (vq l)] [dB true] := by
  let inv : Nat × Nat × Nat → Prop := fun x => x.1 ≤ l.length
  let st : Nat × Nat × Nat → Slots × Blocks := fun x => zSS1 l.length x.2.1 l.length x.2.2 x.1 (vq l) (vq l)
  refine con_of (L := fun _ s b => ∃ x, inv x ∧ st x = (s, b)) hokP mixed Tryz.func27 rfl (by show 2 ≤ 400; omega) rfl (ids := [0]) (by kernel_rfl) rfl (fun caps => ?_) (fun id hid => ?_)
  · show gSS _ _ l.length (caps 500) (vq l) l.length (caps 501) (vq l) _
    rw [gSS_text]
    exact bc_bne (fun h => absurd rfl h) (fun _ => ⟨(0, caps 500, caps 501), Nat.zero_le _, rfl⟩)
  · obtain rfl := List.mem_singleton.1 hid
    refine ⟨Nat × Nat × Nat, st, inv, fun x => l.length - x.1, ⟨fun s b h => h, by kernel_rfl, ?_⟩⟩
    rintro ⟨i, c1, c2⟩ hi
    have hi : i ≤ l.length := hi
    show rSS1 _ _ l.length c1 l.length c2 i (vq l) (vq l) _ _ _
    rw [rSS1_text]
    refine bc_dec (fun h => ?_) (fun h => ?_)
    · have hi2 : i < l.length := by omega
      simp only [bc_t (show (0 : Int) ≤ (i : Int) by omega), bc_t h, Int.toNat_natCast, at4 (vq_four l i hi2), Qv, eq_self, true_and, and_true, beq_self_eq_true, Bool.and_self, Bool.not_true, if_true, bcF]
      refine ⟨(i + 1, c1, c2), hi2, by show l.length - (i + 1) < l.length - i; omega, ?_⟩
      show zSS1 _ _ _ _ _ _ _ = _
      rw [w64 (by omega) (by omega)]; rfl
    · show (if 0 = 0 then _ else _)
      rw [if_pos rfl]
      show nSS2 _ _ _
      rw [nSS2_text]
theorem tw2 (l : List (Int × Int)) {n : Nat} (h : l.length = n) : List.take (n * 2) (List.drop 0 (vp l)) = vp l := by subst h; exact vp_whole l
theorem tw4 (l : List ((Int × Int) × (Int × Int))) {n : Nat} (h : l.length = n) : List.take (n * 4) (List.drop 0 (vq l)) = vq l := by subst h; simp [List.take_of_length_le]
theorem lawLa (r : Ru) (nm : List UInt8) (th : List Int) (hc : (chk r).2 = 0) (hs : (schE r nm th).2 = 0) : C5 4 [r.d, scD nm th] [.val (.bool true)] := by
  refine con_flat hokA2 mixed Tryz.func4 rfl (by show 2 ≤ 400; omega) rfl (by kernel_rfl) (fun caps => ?_)
  show gLa _ _ r.w r.st r.fi r.hlo r.hhi r.co r.ss.length (caps 500) (vs5 r.ss) r.slo r.shi r.flo r.fhi (bs nm) th.length (caps 501) (vi th) _
  rw [gLa_text]
  refine .inl ⟨⟨conA⟩, bc_dec (fun h1 => bc_dec (fun h2 => bc_dec (fun h3 => ?_) (fun _ => rfl)) (fun _ => rfl)) (fun _ => rfl)⟩
  simp only [dL, Dw, Tk, v5_whole, v1_whole, bc_t (v5le r.ss), bc_t (v1le th), Qv, eq_self, true_and]
  have v := vr_of hc hs
  have hp : (schP r nm th).2 = 0 := by rw [schP_good hc]; exact hs
  have c1 := concR r (by omega)
  have c2 := concS nm th (by omega)
  have be := conBE r nm th (by omega) (by omega)
  rw [bothP, hp] at be
  have l1 := tabl_len (fP r) r.st th
  have l2 := tabl_len (tP r) r.st th
  have l3 := spans_len r th
  have z1 : 0 + th.length * 2 ≤ (vp (tabl (fP r) r.st th)).length := by rw [vp_length, l1]; omega
  have z2 : 0 + th.length * 2 ≤ (vp (tabl (tP r) r.st th)).length := by rw [vp_length, l2]; omega
  have z3 : 0 + th.length * 4 ≤ (vq (spans r th)).length := by rw [vq_length, l3]; omega
  have q1 := conRg (tabl (fP r) r.st th) (by omega)
  have q2 := conRg (tabl (tP r) r.st th) (by omega)
  have q3 := conSS (spans r th) (by omega)
  rw [l1] at q1
  rw [l2] at q2
  rw [l3] at q3
  refine ⟨⟨c1⟩, ⟨c2⟩, _, _, _, ⟨conFO r nm th v hp⟩, ⟨c1⟩, ⟨c2⟩, _, _, _, ⟨conTO r nm th v hp⟩, ⟨c1⟩, ⟨c2⟩, _, _, _, ⟨conHO r nm th v hp⟩, _, ⟨be⟩, ?_⟩
  rw [bc_nf, bc_qt]
  refine ⟨_, _, ⟨confc r nm th v⟩, ?_⟩
  rw [bc_t z1, bc_t z1, tw2 _ l1]
  refine .inl ⟨⟨q1⟩, ?_⟩
  rw [bc_qt]
  refine ⟨_, _, ⟨contq r nm th v⟩, ?_⟩
  rw [bc_t z2, bc_t z2, tw2 _ l2]
  refine .inl ⟨⟨q2⟩, ?_⟩
  rw [bc_qt]
  refine ⟨_, _, ⟨conhT r nm th v⟩, ?_⟩
  rw [bc_t z3, bc_t z3, tw4 _ l3]
  exact .inl ⟨⟨q3⟩, trivial⟩
theorem lawLb (r : Ru) (nm : List UInt8) (th : List Int) (hp : (schP r nm th).2 ≠ 0) : C5 4 [r.d, scD nm th] [.val (.bool true)] := by
  refine con_flat hokB2 mixed Tryz.func4 rfl (by show 2 ≤ 400; omega) rfl (by kernel_rfl) (fun caps => ?_)
  show gLb _ _ r.w r.st r.fi r.hlo r.hhi r.co r.ss.length (caps 500) (vs5 r.ss) r.slo r.shi r.flo r.fhi (bs nm) th.length (caps 501) (vi th) _
  rw [gLb_text]
  refine .inl ⟨⟨conA⟩, bc_dec (fun h1 => bc_dec (fun h2 => bc_dec (fun h3 => ?_) (fun _ => rfl)) (fun _ => rfl)) (fun _ => rfl)⟩
  simp only [dL, Dw, Tk, v5_whole, v1_whole, bc_t (v5le r.ss), bc_t (v1le th), Qv, eq_self, true_and]
  have c1 := concR r (by omega)
  have c2 := concS nm th (by omega)
  have be := conBE r nm th (by omega) (by omega)
  rw [bothP] at be
  refine ⟨⟨c1⟩, ⟨c2⟩, _, ⟨conFOb r nm th (by omega) (by omega) hp⟩, ⟨c1⟩, ⟨c2⟩, _, ⟨conTOb r nm th (by omega) (by omega) hp⟩, ⟨c1⟩, ⟨c2⟩, _, ⟨conHOb r nm th (by omega) (by omega) hp⟩, _, ⟨be⟩, ?_⟩
  rw [bc_n hp, bc_qt, bc_qt, bc_qt]
  trivial
theorem lawLc (r : Ru) (nm : List UInt8) : C5 4 [r.d, scN nm] [.val (.bool true)] := by
  refine con_flat hokB2 mixed Tryz.func4 rfl (by show 1 ≤ 400; omega) rfl (by kernel_rfl) (fun caps => ?_)
  show gLc _ _ r.w r.st r.fi r.hlo r.hhi r.co r.ss.length (caps 500) (vs5 r.ss) r.slo r.shi r.flo r.fhi (bs nm) _
  rw [gLc_text]
  refine .inl ⟨⟨conA⟩, bc_dec (fun h1 => bc_dec (fun h3 => ?_) (fun _ => rfl)) (fun _ => rfl)⟩
  simp only [dL, Dw, Tk, v5_whole, bc_t (v5le r.ss), Qv, eq_self, true_and]
  have hp : (schP r nm []).2 ≠ 0 := by
    intro h
    rw [← bothP] at h
    split at h
    · rename_i hc; exact schE_nil nm (chk_pos hc) h
    · rename_i hc; exact hc h
  have c1 := concR r (by omega)
  have c2 := concSn nm
  have be := conBEn r nm (by omega)
  rw [bothP] at be
  refine ⟨⟨c1⟩, ⟨c2⟩, _, ⟨conFOb r nm [] (by omega) (by simp) hp⟩, ⟨c1⟩, ⟨c2⟩, _, ⟨conTOb r nm [] (by omega) (by simp) hp⟩, ⟨c1⟩, ⟨c2⟩, _, ⟨conHOb r nm [] (by omega) (by simp) hp⟩, _, ⟨be⟩, ?_⟩
  rw [bc_n hp, bc_qt, bc_qt, bc_qt]
  trivial
theorem schP_nil {r : Ru} (hr : r.ss = []) (nm : List UInt8) (th : List Int) : (schP r nm th).2 = (chk r).2 := by rw [schP_bad (chk_nil hr)]
theorem lawLd (r : Ru) (hr : r.ss = []) (nm : List UInt8) (th : List Int) : C5 4 [r.dn, scD nm th] [.val (.bool true)] := by
  refine con_flat hokB2 mixed Tryz.func4 rfl (by show 1 ≤ 400; omega) rfl (by kernel_rfl) (fun caps => ?_)
  show gLd _ _ r.w r.st r.fi r.hlo r.hhi r.co r.slo r.shi r.flo r.fhi (bs nm) th.length (caps 500) (vi th) _
  rw [gLd_text]
  refine .inl ⟨⟨conA⟩, bc_dec (fun h2 => bc_dec (fun h3 => ?_) (fun _ => rfl)) (fun _ => rfl)⟩
  simp only [dL, Dw, Tk, v1_whole, bc_t (v1le th), Qv, eq_self, true_and]
  have hp : (schP r nm th).2 ≠ 0 := by rw [schP_nil hr]; exact chk_nil hr
  have c1 := concRn r hr
  have c2 := concS nm th (by omega)
  have be := conBEm r hr nm th
  rw [← schP_nil hr nm th] at be
  have f1 := conFOb r nm th (by rw [hr]; simp) (by omega) hp
  have f2 := conTOb r nm th (by rw [hr]; simp) (by omega) hp
  have f3 := conHOb r nm th (by rw [hr]; simp) (by omega) hp
  simp only [Ru.d, hr, List.length_nil, vs5] at c1 f1 f2 f3
  refine ⟨⟨c1⟩, ⟨c2⟩, _, ⟨f1⟩, ⟨c1⟩, ⟨c2⟩, _, ⟨f2⟩, ⟨c1⟩, ⟨c2⟩, _, ⟨f3⟩, _, ⟨be⟩, ?_⟩
  rw [bc_n hp, bc_qt, bc_qt, bc_qt]
  trivial
theorem lawLq (r : Ru) (hr : r.ss = []) (nm : List UInt8) : C5 4 [r.dn, scN nm] [.val (.bool true)] := by
  refine con_flat hokB2 mixed Tryz.func4 rfl (by show 0 ≤ 400; omega) rfl (by kernel_rfl) (fun caps => ?_)
  show gLq _ _ r.w r.st r.fi r.hlo r.hhi r.co r.slo r.shi r.flo r.fhi (bs nm) _
  rw [gLq_text]
  refine .inl ⟨⟨conA⟩, bc_dec (fun h3 => ?_) (fun _ => rfl)⟩
  simp only [Qv, eq_self, true_and]
  have hp : (schP r nm []).2 ≠ 0 := by rw [schP_nil hr]; exact chk_nil hr
  have c1 := concRn r hr
  have c2 := concSn nm
  have be := conBEk r hr nm
  rw [← schP_nil hr nm []] at be
  have f1 := conFOb r nm [] (by rw [hr]; simp) (by simp) hp
  have f2 := conTOb r nm [] (by rw [hr]; simp) (by simp) hp
  have f3 := conHOb r nm [] (by rw [hr]; simp) (by simp) hp
  simp only [Ru.d, hr, List.length_nil, vs5] at c1 f1 f2 f3
  refine ⟨⟨c1⟩, ⟨c2⟩, _, ⟨f1⟩, ⟨c1⟩, ⟨c2⟩, _, ⟨f2⟩, ⟨c1⟩, ⟨c2⟩, _, ⟨f3⟩, _, ⟨be⟩, ?_⟩
  rw [bc_n hp, bc_qt, bc_qt, bc_qt]
  trivial
theorem lawL (r : Ru) (nm : List UInt8) (th : List Int) : C5 4 [r.d, scD nm th] [.val (.bool true)] := by
  by_cases hp : (schP r nm th).2 = 0
  · have h := hp
    rw [← bothP] at h
    split at h
    · rename_i hc; exact lawLa r nm th hc h
    · rename_i hc; exact absurd h hc
  · exact lawLb r nm th hp
end Go.Proofs.G5o

/- What a good world's variables hold, as the library's contracts ask it. -/
namespace Go.Abs
variable {P : Program} {w : World}
end Go.Abs

/- Chapter 3: what the frames of the laws share. -/
namespace Go.Proofs.YteadiejdhplokaaGreat.K
open Go Go.Abs Go.RowKit Go.ChangeShapes Go.WideShapes Go.ChangeAt Go.Proofs Go.Flat
set_option maxRecDepth 100000
theorem own : ownKnob Tryz.prog.godebug = none := by kernel_rfl
theorem laidP : laidOutB Tryz.prog = true := by kernel_rfl
theorem mapsP : mapsRowed Tryz.prog = true := by kernel_rfl
theorem slicesP : ∀ t e, t < Tryz.prog.types.size → Tryz.prog.underlying t = some (.slice e) → 0 < Tryz.prog.cellsOf e := slices_full_of Tryz.prog (by kernel_rfl)
theorem tsP {l : List TypeId} (h : l.all (fun t => decide (t < Tryz.prog.types.size)) = true) : ∀ t ∈ l, t < Tryz.prog.types.size := fun t ht => of_decide_eq_true (List.all_eq_true.1 h t ht)
theorem flat_vi : ∀ l : List Int, (l.flatMap fun a => [Value.int .i64 a]) = vi l
  | [] => rfl
  | a :: r => by rw [List.flatMap_cons, flat_vi r]; rfl
/-- lists of whole numbers -/
theorem leaf_ints {t e : TypeId} {d : D} (ht : Tryz.prog.underlying t = some (.slice e)) (he : leaves Tryz.prog 10 e = some [.int .i64]) (h : LeafD Tryz.prog t d) : d = .nil ∨ ∃ l : List Int, d = .sl l.length 1 (vi l) := by
  unfold LeafD at h
  rw [ht] at h
  simp only at h
  rcases h with h | ⟨n, cs, L, rfl, hL, hn, hl, hc⟩
  · exact .inl h
  · rw [he] at hL
    obtain rfl := Option.some.inj hL
    simp only [List.length_cons, List.length_nil, Nat.zero_add] at hl hc ⊢
    obtain ⟨ps, hp, rfl⟩ := chunks_of (f := fun a : Int => [Value.int .i64 a]) (k := 1) (fun _ => rfl) n cs hl (fun i hi => by
      have := hc i hi
      generalize (cs.drop (i * 1)).take 1 = x at this ⊢
      cases this with
      | cons h t => cases t; obtain ⟨a, rfl, _⟩ := h; exact ⟨a, rfl⟩)
    refine .inr ⟨ps, ?_⟩
    rw [hp]
    rw [flat_vi]
theorem leaf_int {t : TypeId} {d : D} (ht : Tryz.prog.underlying t = some (.int .i64)) (h : LeafD Tryz.prog t d) : ∃ n : Int, d = dI n ∧ (-9223372036854775808 ≤ n ∧ n ≤ 9223372036854775807) := by
  unfold LeafD at h
  rw [ht] at h
  obtain ⟨n, rfl, hw⟩ := h
  exact ⟨n, rfl, wf64 hw⟩
end Go.Proofs.YteadiejdhplokaaGreat.K
namespace Go.Proofs.YteadiejdhplokaaGreat.K
open Go Go.Abs Go.RowKit Go.ChangeShapes Go.WideShapes Go.ChangeAt Go.Proofs Go.Flat
set_option maxRecDepth 100000
/-- lists of five whole numbers -/
theorem leaf_fvs {t e : TypeId} {d : D} (ht : Tryz.prog.underlying t = some (.slice e)) (he : leaves Tryz.prog 10 e = some [.int .i64, .int .i64, .int .i64, .int .i64, .int .i64]) (h : LeafD Tryz.prog t d) : d = .nil ∨ ∃ l : List Fv, d = .sl l.length 5 (vs5 l) := by
  unfold LeafD at h
  rw [ht] at h
  simp only at h
  rcases h with h | ⟨n, cs, L, rfl, hL, hn, hl, hc⟩
  · exact .inl h
  · rw [he] at hL
    obtain rfl := Option.some.inj hL
    simp only [List.length_cons, List.length_nil, Nat.zero_add] at hl hc ⊢
    obtain ⟨ps, hp, rfl⟩ := chunks_of (f := Fv.row) (k := 5) (fun _ => rfl) n cs hl (fun i hi => by
      have := hc i hi
      generalize (cs.drop (i * 5)).take 5 = x at this ⊢
      cases this with | cons h1 t => cases t with | cons h2 t => cases t with | cons h3 t => cases t with | cons h4 t => cases t with | cons h5 t =>
      cases t
      obtain ⟨a, rfl, _⟩ := h1
      obtain ⟨b, rfl, _⟩ := h2
      obtain ⟨c, rfl, _⟩ := h3
      obtain ⟨d, rfl, _⟩ := h4
      obtain ⟨e, rfl, _⟩ := h5
      exact ⟨⟨a, b, c, d, e⟩, rfl⟩)
    exact .inr ⟨ps, by rw [hp]; rfl⟩
open Go.Str in
theorem leaf_str {t : TypeId} {d : D} (ht : Tryz.prog.underlying t = some .string) (h : LeafD Tryz.prog t d) : ∃ s : List UInt8, d = G5o.dS s := by
  unfold LeafD at h
  rw [ht] at h
  obtain ⟨s, rfl, _⟩ := h
  exact ⟨s.data.toList, by show _ = D.val _; rw [Go.Str.bs_data]⟩
theorem good0 (W : World) : GoodW Tryz.prog W := fun p hp => by
  rw [show varsOf Tryz.prog = [] by kernel_rfl] at hp
  cases hp
end Go.Proofs.YteadiejdhplokaaGreat.K

/- PassLoads: whatever the input, it returns true, and the input reads as it did. No condition. -/
namespace Go.Proofs.YteadiejdhplokaaGreat.K
open Go Go.Abs Go.RowKit Go.ChangeShapes Go.WideShapes Go.ChangeAt Go.Proofs Go.Flat Go.Proofs.G5o
set_option maxRecDepth 100000
namespace PassLoads
abbrev shs : List Sh := [.agg [3, 3, 3, 3, 3, 3, 24, 3, 3, 3, 3], .agg [9, 27]]
theorem shapes : Tryz.f4.params.toList.mapM (argSh Tryz.prog) = some shs := by kernel_rfl
theorem all (ds : List D) (h : ShDs Tryz.prog shs ds) : Con Tryz.prog 4 ds [.val (.bool true)] := by
  cases h with | cons h1 t => cases t with | cons h2 t =>
  cases t
  obtain ⟨d1, rfl, h1⟩ := h1
  obtain ⟨d2, rfl, h2⟩ := h2
  cases h1 with | cons p1 t => cases t with | cons p2 t => cases t with | cons p3 t => cases t with | cons p4 t => cases t with | cons p5 t => cases t with | cons p6 t => cases t with | cons p7 t => cases t with | cons p8 t => cases t with | cons p9 t => cases t with | cons p10 t => cases t with | cons p11 t =>
  cases t
  cases h2 with | cons r1 t => cases t with | cons r2 t =>
  cases t
  obtain ⟨x1, rfl, _⟩ := leaf_int Tryz.underlying3 p1
  obtain ⟨x2, rfl, _⟩ := leaf_int Tryz.underlying3 p2
  obtain ⟨x3, rfl, _⟩ := leaf_int Tryz.underlying3 p3
  obtain ⟨x4, rfl, _⟩ := leaf_int Tryz.underlying3 p4
  obtain ⟨x5, rfl, _⟩ := leaf_int Tryz.underlying3 p5
  obtain ⟨x6, rfl, _⟩ := leaf_int Tryz.underlying3 p6
  obtain ⟨x8, rfl, _⟩ := leaf_int Tryz.underlying3 p8
  obtain ⟨x9, rfl, _⟩ := leaf_int Tryz.underlying3 p9
  obtain ⟨x10, rfl, _⟩ := leaf_int Tryz.underlying3 p10
  obtain ⟨x11, rfl, _⟩ := leaf_int Tryz.underlying3 p11
  obtain ⟨nm, rfl⟩ := leaf_str Tryz.underlying9 r1
  rcases leaf_fvs Tryz.underlying24 (by kernel_rfl) p7 with rfl | ⟨T, rfl⟩
  · rcases leaf_ints Tryz.underlying27 (by kernel_rfl) r2 with rfl | ⟨R, rfl⟩
    · exact lawLq ⟨x1, x2, x3, x4, x5, x6, [], x8, x9, x10, x11⟩ rfl nm
    · exact lawLd ⟨x1, x2, x3, x4, x5, x6, [], x8, x9, x10, x11⟩ rfl nm R
  · rcases leaf_ints Tryz.underlying27 (by kernel_rfl) r2 with rfl | ⟨R, rfl⟩
    · exact lawLc ⟨x1, x2, x3, x4, x5, x6, T, x8, x9, x10, x11⟩ nm
    · exact lawL ⟨x1, x2, x3, x4, x5, x6, T, x8, x9, x10, x11⟩ nm R
theorem lifted (os : Os) (started : os.Started) (H : Type) (enc : TypeId × Value → H) :
    ReturnsInHanded {} Tryz.checked os 4 .any (Rows.passLoadsSpec.pre6 enc Tryz.prog Tryz.f4 Rows.passLoadsRow.domain false) (Rows.passLoadsSpec.post enc Tryz.prog Tryz.f4 false true false false) := by
  refine returnsInHanded_of_change (C := Tryz.checked) own started (by kernel_rfl) Tryz.func4
    (ChangeSpec.witness6 (enc := enc) (C := Tryz.checked) false ⟨#[], #[.agg #[.int .i64 0, .int .i64 0, .int .i64 0, .int .i64 0, .int .i64 0, .int .i64 0, .slice none 0 0, .int .i64 0, .int .i64 0, .int .i64 0, .int .i64 0], .agg #[.string ⟨#[]⟩, .slice none 0 0]], []⟩ 8 (by kernel_rfl) (by kernel_rfl) (by kernel_rfl) (by kernel_rfl)) ?_
  intro W base args ds gs before hval hW _ _
  exact law_shapes (tb := 4) (s := Rows.passLoadsSpec) shapes all laidP mapsP slicesP (tsP (by kernel_rfl)) rfl Tryz.underlying4 rfl (fun ds h => by
    match ds, h with
    | [_, _], _ => exact ⟨rfl, rfl, rfl⟩) hval hW (good0 W)
theorem holds : Rows.PassLoadsSaid :=
  OpenClaim.holds_of_wide 4 Tryz.f4 rfl rfl rfl rfl rfl rfl rfl ⟨rfl, rfl, rfl, rfl, rfl⟩ rfl rfl rfl rfl rfl (by kernel_rfl) Tryz.func4 (by kernel_rfl)
    (of_decide_eq_true (by kernel_rfl)) (by unfold Func.isWrapper; first | (rw [if_pos (by decide +kernel)]; kernel_rfl) | (rw [if_neg (by decide +kernel)]; exact ⟨rfl, rfl⟩))
    (fun os started H enc _ => lifted os started H enc)
#print axioms holds
end PassLoads
end Go.Proofs.YteadiejdhplokaaGreat.K
