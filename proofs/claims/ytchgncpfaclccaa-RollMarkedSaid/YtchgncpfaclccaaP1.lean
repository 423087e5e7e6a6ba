/- Texts of the proof, put together: PostBelow, AbsEval, AbsRel, AbsPure, AbsSlice, AbsHeap, AbsAlloc, AbsAppend, AbsAppend2, AbsMaps, AbsOps. -/
import Derived.ChangeSame
import Derived.Below
import Derived.CallsIn
import Derived.RangeFuncLeaves
import Derived.Laws.Sem
import Derived.Laws.Cells
import Derived.Laws.CopyRow
import Derived.IntWalk
/- What a call that only lays new blocks leaves: the row's outcome, the arguments read as before. -/
namespace Go.Flat
open Go.RowKit Go.ChangeShapes Go.WideShapes
variable {H : Type} {enc : TypeId × Value → H} {P : Program}

theorem below_kept {W W' : World} (h : Below W.heap.size W W') (may : MemPlace → Prop) : W.keptBut W' may := by
  refine ⟨h.os, h.output, fun i hi => ?_⟩
  rw [h.block i hi]
  cases W.heap[i]? with
  | none => rfl
  | some o => cases o <;> first | exact ⟨rfl, rfl, rfl, fun _ _ => rfl⟩ | exact .inr ⟨rfl, rfl⟩ | rfl

theorem below_frozen {W W' : World} (h : Below W.heap.size W W') {a : Addr} (ha : a.block < W.heap.size) : W'.frozen? a = W.frozen? a := by
  unfold World.frozen?
  rw [h.block _ ha]

theorem post_of_below {f : Func} {s : ChangeSpec} {apart fresh handsOn again : Bool} {W W' : World} {args : Array Value} {v : Value} {ds gs : List (DataW H)} {before pa pv : List MemPlace}
    (hW : DataW.Whole enc P f.params.toList s.vars apart W args.toList ds gs before)
    (hres : ∀ (b : Nat) (sp : Nat → Bool) (hd : Bool), DataW.TrodAll enc P W' b sp hd f.resultTypes.toList (v.resultList f.resultTypes.size) (s.fn H (ds ++ gs)).results [])
    (hargs : ∀ sp : Nat → Bool, (∀ p ∈ before, sp p.block = true) → DataW.TrodAll enc P W' 0 sp true f.params.toList args.toList (s.fn H (ds ++ gs)).args pa)
    (hvars : ∀ sp : Nat → Bool, (∀ p ∈ before, sp p.block = true) → DataW.TrodVars enc P W' sp s.vars (s.fn H (ds ++ gs)).vars pv)
    (hps : before = pa ++ pv) (hb : Below W.heap.size W W')
    (hok : ∀ (j : Nat) (t : TypeId) (r : Value), f.resultTypes[j]? = some t → (v.resultList f.resultTypes.size)[j]? = some r → Value.okWide P W' .any 0 t r) :
    s.post enc P f apart fresh handsOn again W args v W' := by
  have hold : ∀ p ∈ before, (fun b => decide (b < W.heap.size)) p.block = true := fun p hp => by simpa using hW.lt p hp
  have hlt : ∀ p ∈ before, p.block < W.heap.size := fun p hp => hW.lt p hp
  refine ⟨ds, gs, before, [], pa, pv, hW, hres _ _ _, hargs _ hold, hvars _ hold, below_kept hb _, fun _ => ?_⟩
  obtain ⟨_, _, _, _, _, hz, hn⟩ := hW
  refine ⟨hok, _, _, ([] ++ pa) ++ pv, ⟨[] ++ pa, pv, trodAll_append (hargs _ (fun _ _ => rfl)) (hres _ _ _), hvars _ (fun _ _ => rfl), rfl, ?_, ?_⟩, ?_⟩
  · intro b off hp
    have hp' : MemPlace.cell b off ∈ before := by rw [hps]; simpa using hp
    rw [below_frozen hb (hlt _ hp')]
    exact hz b off hp'
  · intro ha
    have := hn ha
    rw [hps] at this
    simpa using this
  · intro p hp _
    rw [hps]
    simpa using hp

end Go.Flat

/- The evaluator: runs a closed call of the program on an abstract heap, independent of the tape. -/
namespace Go.Abs

/-- A map from numbers, read in few steps. -/
inductive Tree (α : Type) where
  | leaf
  | node (v : Option α) (l r : Tree α)

namespace Tree
variable {α : Type}
def get : Tree α → Nat → Option α
  | leaf, _ => none
  | node v l r, n => if n = 0 then v else if n % 2 = 1 then l.get (n / 2) else r.get (n / 2 - 1)
def set : Nat → Tree α → Nat → α → Tree α
  | 0, t, _, _ => t
  | f + 1, leaf, n, a => if n = 0 then node (some a) leaf leaf else if n % 2 = 1 then node none (set f leaf (n / 2) a) leaf else node none leaf (set f leaf (n / 2 - 1) a)
  | f + 1, node v l r, n, a => if n = 0 then node (some a) l r else if n % 2 = 1 then node v (set f l (n / 2) a) r else node v l (set f r (n / 2 - 1) a)
end Tree

/-- A value that holds no address. -/
def plain : Nat → Value → Bool
  | 0, _ => false
  | n + 1, v =>
    match v with
    | .bool _ | .int _ _ | .float _ _ | .complex _ _ _ | .string _ | .nilFunc | .nilIface | .pointer none | .slice none _ _ | .map none => true
    | .agg cs | .tuple cs => cs.all (plain n)
    | .iface _ x => plain n x
    | .func (.func _) a b => a.all (plain n) && b.all (plain n)
    | _ => false

/-- The slots of an activation, and its deferred calls. -/
structure AAct where
  tmps : Tree Value
  size : Nat
  defers : List Nat

def AAct.slot (A : AAct) (t : Tmp) : Value := (A.tmps.get t).getD undef
def AAct.put1 (A : AAct) (d : Tmp) (v : Value) : AAct := if d < A.size then { A with tmps := A.tmps.set (d + 1) d v } else A
def AAct.put (A : AAct) (dst : Option Tmp) (v : Value) : AAct :=
  match dst with
  | some d => A.put1 d v
  | none => A
/-- An abstract value of which nothing is known. -/
def unknown : Value := .chan (some 0)
/-- Blocks below this number are the package-level variables. From here on up to hbase lie views: blocks that are only looked at. -/
def abase : Nat := 400
/-- From here on lies what the call was handed. -/
def hbase : Nat := 500
/-- The number of what is handed on to the caller's rounds, within an iterator. -/
def ynum : Nat := 915
/-- Blocks from abase up to this number are what the call was handed: they are read, never written. From here on they are the call's own. -/
def gbase : Nat := 1000
/-- From here on blocks may be written: up to gbase what was handed to be written, from gbase on the call's own. -/
def mbase : Nat := 900
def AAct.eval (A : AAct) : Operand → Value
  | .tmp t => A.slot t
  | .const v => if plain 8 v then v else unknown
  | .global g => if g < abase then .pointer (some ⟨g, 0, none⟩) else unknown
  | .func f => .func (.func f) #[] #[]
def AAct.putAll (A : AAct) : List (Tmp × Value) → AAct
  | [] => A
  | (t, v) :: l => (A.put1 t v).putAll l
def AAct.ofArgs : List Value → Nat → Tree Value → Tree Value
  | [], _, t => t
  | v :: vs, i, t => AAct.ofArgs vs (i + 1) (t.set (i + 1) i v)
/-- Is an operation carried out? (none: not known) -/
def wantedA (ops : Array Oper) (A : AAct) (o : Oper) : Option Bool :=
  match o.guard with
  | none => some true
  | some (j, want) =>
    match (ops[j]?).bind (·.dst) with
    | none => some false
    | some d =>
      match A.slot d with
      | .bool b => some (b == want)
      | .chan _ => none
      | _ => some false

/-- The record of a range over a function. -/
structure ALoop where
  state : LoopState
  pending : Option Code
  act : AAct
  params : Array Tmp
  assign : Code
  body : Code
  defers : Nat

/-- Data that a call is handed or gives back. -/
inductive D where
  | val (v : Value)
  | agg (cs : List D)
  | nil
  | sl (n es : Nat) (cs : List Value)

inductive AObj where
  | cells (cs : List Value) (ty : TypeId) (opn : Bool) (es : Nat)
  | dead (known : Nat) (opn : Bool) (es : Nat)
  | map (es : List MapEntry) (clock : Nat)
  | loop (l : ALoop)
  | deferred
  | taken
  | siter (s : ByteArray) (pos : Nat)
  /-- cells that hold no address, in any number -/
  | sym (cs : List Value) (opn : Bool) (es : Nat)
  /-- what is still to be handed to the caller's rounds (none: they have stopped) -/
  | yld (own : Bool) (rest : Option (List (List D)))

structure Heap where
  tree : Tree AObj
  next : Nat

def Heap.get (H : Heap) (i : Nat) : Option AObj := H.tree.get i
def Heap.set (H : Heap) (i : Nat) (o : AObj) : Heap := ⟨H.tree.set (i + 1) i o, H.next⟩
def Heap.new (H : Heap) (o : AObj) : Heap := ⟨H.tree.set (H.next + 1) H.next o, H.next + 1⟩

/-- Is something known of a value? -/
def known : Value → Bool
  | .chan _ => false
  | _ => true

/-- What a computation that touches no memory yields. -/
def pureRun (P : Program) {α : Type} : Sem α → Option α
  | .pure a => some a
  | .program k => pureRun P (k P)
  | .mark _ k => pureRun P k
  | _ => none

def listSet (cs : List Value) (off : Nat) (vs : List Value) : List Value := cs.take off ++ vs ++ cs.drop (off + vs.length)

def Heap.cellsAt (H : Heap) (i off n : Nat) : Option (List Value) :=
  match H.get i with
  | some (.cells cs _ _ _) => if off + n ≤ cs.length then some ((cs.drop off).take n) else none
  | some (.sym cs _ _) => if off + n ≤ cs.length then some ((cs.drop off).take n) else none
  | _ => none
def cellOk : Value → Bool
  | .agg _ | .tuple _ | .chan _ => false
  | _ => true
/-- A cell that holds no address. -/
def cellP (v : Value) : Bool := plain 8 v && cellOk v
def Heap.write (H : Heap) (i off : Nat) (vs : List Value) : Option Heap :=
  match H.get i with
  | some (.cells cs ty o es) => if off + vs.length ≤ cs.length && vs.all cellOk && decide (mbase ≤ i) then some (H.set i (.cells (listSet cs off vs) ty o es)) else none
  | _ => none
/-- Is the room behind the end of such a slice not known? -/
def AObj.isOpen : AObj → Nat → Nat → Bool
  | .cells cs _ o es, k, cap => o && k + cap * es == cs.length
  | .sym cs o es, k, cap => o && k + cap * es == cs.length
  | .dead n o es, k, cap => o && k + cap * es == n
  | _, _, _ => true
def Heap.isOpen (H : Heap) (i k cap : Nat) : Bool := ((H.get i).map (·.isOpen k cap)).getD true
def AObj.es? : AObj → Option Nat
  | .cells _ _ _ es | .dead _ _ es | .sym _ _ es => some es
  | _ => none

inductive ANext where
  | value (v : Value)
  | skip
  | enter (f : FuncId) (args : Array Value)
  | round (l : Nat) (args : Array Value)

def isAggP (P : Program) (t : TypeId) : Option Bool := (P.underlying t).map fun | .struct _ | .array _ _ => true | _ => false
def sizeP (P : Program) (t : TypeId) : Option Nat := (P.info? t).map (·.size)

def loadA (P : Program) (H : Heap) (t : TypeId) (p : Value) : Option Value :=
  match p with
  | .pointer (some ⟨i, off, none⟩) =>
    match isAggP P t with
    | some true => do let n ← sizeP P t; let cs ← H.cellsAt i off n; some (.agg cs.toArray)
    | some false => do let cs ← H.cellsAt i off 1; cs.head?
    | none => none
  | _ => none
def storeA (P : Program) (H : Heap) (t : TypeId) (p v : Value) : Option Heap :=
  match p with
  | .pointer (some ⟨i, off, none⟩) => do
    let n ← sizeP P t
    if v.cells.size = n && known v then H.write i off v.cells.toList else none
  | _ => none

def vAt (a : Array Value) (i : Nat) : Option Value := a[i]?
def tAt (a : Array TypeId) (i : Nat) : Option TypeId := a[i]?

def lenA : Value → Option Nat
  | .slice _ n _ => some n
  | .string s => some s.size
  | _ => none
def firstA (H : Heap) (size n : Nat) : Value → Option (List Value)
  | .slice (some ⟨i, off, none⟩) _ _ => H.cellsAt i off (n * size)
  | .slice none _ _ => some []
  | .string s => some ((s.data.toList.take n).map fun b => .int .u8 b.toNat)
  | _ => none

def isIntP (P : Program) (t : TypeId) : Option Bool := (P.underlying t).map fun | .int _ => true | _ => false
def zerosP (P : Program) (argTypes : Array TypeId) : Option Bool :=
  match tAt argTypes 1 with
  | some xType => isIntP P xType
  | none => some false
def appendA (P : Program) (H : Heap) (argTypes : Array TypeId) (args : Array Value) : Option (Value × Heap) :=
  match tAt argTypes 0, vAt args 0, vAt args 1 with
  | some sType, some (.slice base sLen sCap), some x => do
    let .slice elem ← P.underlying sType | none
    let i ← P.info? elem
    let z ← i.zero
    let zeros ← zerosP P argTypes
    let n ← lenA x
    let new ← firstA H i.size n x
    if zeros || z.cells.size != i.size || new.length != n * i.size then none else
    if sLen + n ≤ sCap then
      match base with
      | some ⟨b, off, none⟩ => do
        let H' ← H.write b (off + sLen * i.size) new
        some (.slice base (sLen + n) sCap, H')
      | none => if n = 0 then some (.slice base (sLen + n) sCap, H) else none
      | _ => none
    else
      if (2 * (sLen + n) + 768) * i.bytes > 2 ^ 48 || decide (sLen + n > 2 ^ 40) then none else
      match base with
      | none => if sLen = 0 then some (.slice (some ⟨H.next, 0, none⟩) (sLen + n) (sLen + n), H.new (.cells new elem true i.size)) else none
      | some ⟨b, off, none⟩ => do
        let old ← H.cellsAt b off (sLen * i.size)
        let .cells cs _ o es ← H.get b | none
        if o && off + sCap * es == cs.length then
          if es = i.size && decide (gbase ≤ b) && new.all cellOk then
            let H' := H.set b (.dead cs.length o es)
            some (.slice (some ⟨H'.next, 0, none⟩) (sLen + n) (sLen + n), H'.new (.cells (old ++ new) elem true i.size))
          else none
        else some (.slice (some ⟨H.next, 0, none⟩) (sLen + n) (sLen + n), H.new (.cells (old ++ new) elem true i.size))
      | _ => none
  | _, _, _ => none

def copyA (P : Program) (H : Heap) (argTypes : Array TypeId) (args : Array Value) : Option (Value × Heap) :=
  match tAt argTypes 0, vAt args 0, vAt args 1 with
  | some sType, some (.slice base dLen _), some x => do
    let .slice elem ← P.underlying sType | none
    let size ← sizeP P elem
    let n := Nat.min (← lenA x) dLen
    let cs ← firstA H size n x
    match base with
    | some ⟨b, off, none⟩ => do let H' ← H.write b off cs; some (.int .i64 n, H')
    | none => if n = 0 then some (.int .i64 n, H) else none
    | _ => none
  | _, _, _ => none

def clearA (P : Program) (H : Heap) (argTypes : Array TypeId) (args : Array Value) : Option (Value × Heap) :=
  match tAt argTypes 0, vAt args 0 with
  | some t, some (.slice base n _) =>
    match base with
    | none => if (P.underlying t).isSome then some (.tuple #[], H) else none
    | some ⟨b, off, none⟩ =>
      if n = 0 then (if (P.underlying t).isSome then some (.tuple #[], H) else none) else do
      let .slice elem ← P.underlying t | none
      let i ← P.info? elem
      let z ← i.zero
      if !plain 8 z then none else
      let H' ← H.write b off (Builtin.zeroCells z.cells n).toList
      some (.tuple #[], H')
    | _ => none
  | _, _ => none

def findA (kind : TypeDesc) (k : Value) (es : List MapEntry) : Option (Option (Nat × Value)) := Instr.findNow kind k es 0
def simpleKey : TypeDesc → Bool
  | .int _ | .string | .bool => true
  | _ => false
def entriesA (H : Heap) : Value → Option (List MapEntry)
  | .map none => some []
  | .map (some r) => match H.get r with | some (.map es _) => some es | _ => none
  | _ => none
def lookupA (P : Program) (H : Heap) (t : TypeId) (m k : Value) (ok : Bool) : Option Value := do
  let .map key elem ← P.underlying t | none
  let kd ← P.underlying key
  if !simpleKey kd || !plain 1 k then none else
  let es ← entriesA H m
  let i ← P.info? elem
  let z ← i.zero
  if !plain 8 z then none else
  match ← findA kd k es with
  | some (_, v) => some (if ok then .tuple #[v, .bool true] else v)
  | none => some (if ok then .tuple #[z, .bool false] else z)
def setVal (v : Value) : List MapEntry → Nat → List MapEntry
  | [], _ => []
  | e :: es, 0 => { e with val := v } :: es
  | e :: es, i + 1 => e :: setVal v es i
def updateA (P : Program) (H : Heap) (t : TypeId) (m k v : Value) : Option Heap := do
  let .map key _ ← P.underlying t | none
  let kd ← P.underlying key
  if !simpleKey kd || !plain 1 k then none else
  match m with
  | .map (some r) =>
    if r < gbase then none else
    match H.get r with
    | some (.map es clock) =>
      match ← findA kd k es with
      | some (i, _) => some (H.set r (.map (setVal v es i) clock))
      | none => some (H.set r (.map (es ++ [{ key := k, val := v, born := clock }]) (clock + 1)))
    | _ => none
  | _ => none

def sliceA (P : Program) (H : Heap) (t : TypeId) (x : Value) (lo hi mx : Option Value) : Option Value :=
  match x with
  | .slice (some ⟨i, k, none⟩) len cap =>
    if H.isOpen i k cap && mx.isNone then do
      let .slice elem ← P.underlying t | none
      let size ← sizeP P elem
      let o ← H.get i
      let es ← o.es?
      if es = size then do
        let (l, h, _) ← pureRun P (Instr.sliceBounds true len cap lo hi none)
        if h ≤ cap then some (.slice (some ⟨i, k + l * size, none⟩) (h - l) (cap - l)) else none
      else none
    else pureRun P (Instr.sliceAt t x lo hi mx)
  | .pointer (some a) => if gbase ≤ a.block then pureRun P (Instr.sliceAt t x lo hi mx) else none
  | _ => pureRun P (Instr.sliceAt t x lo hi mx)

/-- What is made of a new block's number. -/
inductive Mk where
  | ptr
  | slice (len cap : Nat)
  | map
def Mk.val : Mk → Nat → Value
  | .ptr, i => .pointer (some ⟨i, 0, none⟩)
  | .slice l c, i => .slice (some ⟨i, 0, none⟩) l c
  | .map, i => .map (some i)

/-- The size of an element: an array's, where a block holds one. -/
def esA (P : Program) (t : TypeId) (n : Nat) : Nat :=
  match P.underlying t with
  | some (.array _ e) => (sizeP P e).getD n
  | _ => n
/-- The new block that an operation lays. -/
def allocOf (P : Program) (env : Operand → Value) (o : Oper) : Option (Mk × AObj) :=
  match o.op with
  | .alloc elem => do
    let i ← P.info? elem
    let z ← i.zero
    if plain 8 z then some (.ptr, .cells z.cells.toList elem false (esA P elem i.size)) else none
  | .box elem x => if known (env x) then some (.ptr, .cells (env x).cells.toList elem false 1) else none
  | .buildSlice t len parts => do
    let .slice elem ← P.underlying t | none
    let i ← P.info? elem
    let z ← i.zero
    if len * i.size > 2 ^ 24 || !plain 8 z || z.cells.size != i.size || !parts.all (fun p => known (env p.2)) then none else
    let cs ← Instr.fill (fun j => some (j * i.size, i.size)) (Builtin.zeroCells z.cells len) (parts.toList.map fun (i, x) => (i, env x))
    some (.slice len len, .cells cs.toList elem false i.size)
  | .makeSlice t l c =>
    match env l, env c with
    | .int .i64 l, .int .i64 c => do
      let .slice elem ← P.underlying t | none
      let i ← P.info? elem
      let z ← i.zero
      if 0 ≤ l ∧ l ≤ c ∧ i.bytes * c ≤ 2 ^ 40 ∧ c ≤ 2 ^ 40 ∧ plain 8 z = true ∧ z.cells.size = i.size then
        some (.slice l.toNat c.toNat, .cells (Builtin.zeroCells z.cells c.toNat).toList elem false i.size)
      else none
    | _, _ => none
  | .makeMap t none => do
    let .map _ _ ← P.underlying t | none
    some (.map, .map [] 0)
  | .makeMap t (some x) =>
    match env x with
    | .int _ _ => do
      let .map _ _ ← P.underlying t | none
      some (.map, .map [] 0)
    | _ => none
  | _ => none

def callA (P : Program) (H : Heap) (env : Operand → Value) (c : Call) (type : TypeId) : Option (ANext × Heap) :=
  let args := c.args.map env
  match c.callee with
  | .builtin .append => do let (v, H') ← appendA P H c.argTypes args; some (.value v, H')
  | .builtin .copy => do let (v, H') ← copyA P H c.argTypes args; some (.value v, H')
  | .builtin .clear => do let (v, H') ← clearA P H c.argTypes args; some (.value v, H')
  | .builtin .len =>
    match vAt args 0 with
    | some (.map (some r)) =>
      match (tAt c.argTypes 0).bind P.underlying with
      | some (.map _ _) => match H.get r with | some (.map es _) => some (.value (.int .i64 es.length), H) | _ => none
      | _ => none
    | some (.chan _) => none
    | _ => do let v ← pureRun P (Builtin.len_ c.argTypes type args); some (.value v, H)
  | .builtin .cap =>
    match vAt args 0 with
    | some (.slice (some ⟨i, k, none⟩) _ cap) => 
      match (tAt c.argTypes 0).bind P.underlying with
      | some (.slice _) => if H.isOpen i k cap then none else some (.value (.int .i64 cap), H)
      | _ => none
    | some (.chan _) => none
    | _ => do let v ← pureRun P (Builtin.cap_ c.argTypes type args); some (.value v, H)
  | .builtin .min => if args.all (plain 8) then do let v ← pureRun P (Builtin.min_ c.argTypes type args); if plain 8 v then some (.value v, H) else none else none
  | .builtin .max => if args.all (plain 8) then do let v ← pureRun P (Builtin.max_ c.argTypes type args); if plain 8 v then some (.value v, H) else none else none
  | .builtin .complex => if args.all (plain 8) then do let v ← pureRun P (Builtin.complex_ c.argTypes type args); if plain 8 v then some (.value v, H) else none else none
  | .builtin .real => if args.all (plain 8) then do let v ← pureRun P (Builtin.real_ c.argTypes type args); if plain 8 v then some (.value v, H) else none else none
  | .builtin .imag => if args.all (plain 8) then do let v ← pureRun P (Builtin.imag_ c.argTypes type args); if plain 8 v then some (.value v, H) else none else none
  | .value f =>
    match env f with
    | .func (.func g) first captured =>
      match P.funcs[g]? with
      | some fn =>
        if fn.body.isNone then
          if args.all (plain 8) && first.isEmpty && captured.isEmpty then
            match pureRun P (callFunc g args) with
            | some (.value v) => if plain 8 v then some (.value v, H) else none
            | _ => none
          else none
        else if fn.name == "runtime.NumGoroutine" then none else some (.enter g (first ++ args ++ captured), H)
      | none => none
    | .func (.yield l) first cap =>
      match H.get l with
      | some (.loop r) => if first.isEmpty && cap.isEmpty && args.size == r.params.size then some (.round l args, H) else none
      | _ => none
    | _ => none
  | _ => none

/-- A plain result of a computation that touches no memory. -/
def plainRun (P : Program) (e : Sem Value) : Option Value := do
  let x ← pureRun P e
  if plain 8 x then some x else none
def isNeq : BinOp → Option Bool
  | .eql => some false
  | .neq => some true
  | _ => none
/-- Is it a comparison of something with nil? -/
def nilCmp : TypeDesc → Value → Value → Bool
  | .pointer _, .pointer (some _), .pointer none => true
  | .slice _, .slice (some _) _ _, .slice none _ _ => true
  | .map _ _, .map (some _), .map none => true
  | .func _ _ _, .func _ _ _, .nilFunc => true
  | _, _, _ => false
/-- A part of a struct. -/
def partA (P : Program) (t : TypeId) (xs : Array Value) (off : Nat) : Option Value :=
  match isAggP P t with
  | some true => (sizeP P t).map fun n => .agg (xs.extract off (off + n))
  | some false => xs[off]?
  | none => none
def eqFieldsA (P : Program) (f : TypeId → Value → Value → Option Bool) (xs ys : Array Value) : List Field → Option Bool
  | [] => some true
  | fd :: fs =>
    if fd.name = "_" then none else
    match partA P fd.type xs fd.offset, partA P fd.type ys fd.offset with
    | some a, some b =>
      match f fd.type a b, eqFieldsA P f xs ys fs with
      | some r, some s => some (r && s)
      | _, _ => none
    | _, _ => none
def eqItemsA (P : Program) (f : TypeId → Value → Value → Option Bool) (e : TypeId) (c : Nat) (xs ys : Array Value) : List Nat → Option Bool
  | [] => some true
  | i :: is =>
    match partA P e xs (i * c), partA P e ys (i * c) with
    | some a, some b =>
      match f e a b, eqItemsA P f e c xs ys is with
      | some r, some s => some (r && s)
      | _, _ => none
    | _, _ => none
/-- Two structs (or arrays) of numbers, bools and strings, compared. -/
def eqAtA (P : Program) : Nat → TypeId → Value → Value → Option Bool
  | 0, _, _, _ => none
  | n + 1, t, x, y =>
    match P.underlying t, x, y with
    | some (.int _), .int k a, .int k' b => if k = k' then some (a == b) else none
    | some .bool, .bool a, .bool b => some (a == b)
    | some .string, .string a, .string b => some (a == b)
    | some (.struct fs), .agg xs, .agg ys => if P.stoodInHeld t = true then none else eqFieldsA P (eqAtA P n) xs ys fs.toList
    | some (.array len e), .agg xs, .agg ys => match P.info? e with | some _ => eqItemsA P (eqAtA P n) e (P.cellsOf e) xs ys (List.range len) | none => none
    | _, _, _ => none
def binA (P : Program) (op : BinOp) (t : TypeId) (x y : Operand) (a b : Value) : Option Value :=
  match isNeq op, a, b with
  | some neg, .agg xs, .agg ys =>
    if plain 8 (.agg xs) && plain 8 (.agg ys) && !(P.eqGuardType P.depth t) then (eqAtA P 8 t (.agg xs) (.agg ys)).map fun r => .bool (if neg then !r else r) else none
  | _, _, _ =>
  if plain 8 a && plain 8 b then plainRun P (do eqGuard op t x y a b; binOp op t a b)
  else do
    let r ← isNeq op
    let d ← P.underlying t
    if nilCmp d a b then some (.bool r) else none
def byteA : Value → Option Int
  | .int .u8 n => some n
  | _ => none
def bytesA : List Value → Option (List Int)
  | [] => some []
  | v :: l => do
    let b ← byteA v
    let bs ← bytesA l
    some (b :: bs)
def convA (P : Program) (H : Heap) (src dst : TypeId) (a : Value) : Option Value :=
  match a with
  | .slice (some ⟨i, off, none⟩) len _ =>
    match P.underlying src, P.underlying dst with
    | some (.slice e), some .string =>
      match P.underlying e with
      | some (.int .u8) => do
        let cs ← H.cellsAt i off len
        let bs ← bytesA cs
        some (.string (bs.foldl (fun r n => r.push (UInt8.ofNat n.toNat)) ByteArray.empty))
      | _ => none
    | _, _ => none
  | _ => if plain 8 a then plainRun P (convert src dst a) else none
def buildA (P : Program) (t : TypeId) (parts : Array (Nat × Value)) : Option Value :=
  match (P.info? t).bind (·.zero) with
  | some z => if plain 8 z && parts.all (fun p => known p.2) then pureRun P (Instr.build t parts) else none
  | none => none
def nilA : Value → Option Value
  | .pointer (some a) => some (.pointer (some a))
  | .func (.func f) a b => some (.func (.func f) a b)
  | .func (.yield f) a b => some (.func (.yield f) a b)
  | _ => none

/-- A slice as an array: its address. -/
def arrPtrA (P : Program) (t : TypeId) (x : Value) : Option Value :=
  match P.underlying t, x with
  | some (.array (n + 1) _), .slice (some ⟨i, k, none⟩) len _ => if n + 1 ≤ len then some (.pointer (some ⟨i, k, none⟩)) else none
  | _, _ => none
/-- An operation that changes nothing and makes no call. -/
def valA (P : Program) (H : Heap) (env : Operand → Value) (o : Oper) : Option Value :=
  match o.op with
  | .move x | .assign x => some (env x)
  | .pick c a b => match env c with | .bool t => some (if t then env a else env b) | _ => none
  | .build t parts => buildA P t (parts.map fun (i, x) => (i, env x))
  | .load t a => loadA P H t (env a)
  | .nilCheck x => nilA (env x)
  | .binOp op t x y _ => binA P op t x y (env x) (env y)
  | .unOp op _ x => if plain 8 (env x) then plainRun P (Op.unary op (env x)) else none
  | .convert src dst x => convA P H src dst (env x)
  | .makeFunc (.func f) first captured => some (.func (.func f) (first.map env) (captured.map env))
  | .slice t x lo hi mx => sliceA P H t (env x) (lo.map env) (hi.map env) (mx.map env)
  | .fieldAddr s x f => pureRun P (Instr.fieldAt s (env x) f)
  | .field t x f => pureRun P (Instr.field t (env x) f)
  | .indexAddr t x ix => pureRun P (Instr.indexAt t (env x) (env ix))
  | .index t x ix => pureRun P (Instr.index t (env x) (env ix))
  | .lookup t x ix ok => lookupA P H t (env x) (env ix) ok
  | .extract t ix => pureRun P (Instr.extract (env t) ix)
  | .sliceToArrayPointer t x => arrPtrA P t (env x)
  | _ => none
def opA (P : Program) (H : Heap) (env : Operand → Value) (o : Oper) : Option (ANext × Heap) :=
  match o.op with
  | .alloc _ | .box _ _ | .buildSlice _ _ _ | .makeMap _ _ | .makeSlice _ _ _ => do
    let (k, x) ← allocOf P env o
    some (.value (k.val H.next), H.new x)
  | .store t a x => do let H' ← storeA P H t (env a) (env x); some (.skip, H')
  | .mapUpdate t m k x | .insert t m k x => do let H' ← updateA P H t (env m) (env k) (env x); some (.skip, H')
  | .call c => callA P H env c o.type
  | _ => do let x ← valA P H env o; some (.value x, H)

structure Self where
  call : FuncId → Array Value → Heap → Option (Value × Heap)
  code : Option Nat → Code → AAct → Heap → Option (Exit × AAct × Heap)

def getLoopA (H : Heap) (l : Nat) : Option ALoop :=
  if l < gbase then none else
  match H.get l with
  | some (.loop r) => some r
  | _ => none
/-- What is left to do behind a round. -/
def jumpOf : Exit → Option (Option Code)
  | .normal => some none
  | .ret => some (some .ret)
  | .exit id => some (some (.exit id))
  | .goto t => some (some (.goto t))
  | _ => none
def isNormal : Exit → Bool
  | .normal => true
  | _ => false
/-- One round of a range over a function. -/
def roundA (s : Self) (l : Nat) (args : Array Value) (H : Heap) : Option (Value × Heap) :=
  (getLoopA H l).bind fun r =>
  if args.size ≠ r.params.size then none else
  (s.code (some l) r.assign ({ r.act with defers := [] }.putAll (r.params.toList.zip args.toList)) H).bind fun x =>
  if isNormal x.1 = false then none else
  (getLoopA x.2.2 l).bind fun r₁ =>
  if r₁.state ≠ .ready then none else
  (s.code (some l) r.body x.2.1 (x.2.2.set l (.loop { r₁ with state := .busy }))).bind fun y =>
  (getLoopA y.2.2 l).bind fun r₂ =>
  (jumpOf y.1).bind fun jump =>
  some (.bool jump.isNone, y.2.2.set l (.loop { r₂ with state := if jump.isNone then .ready else .done, pending := jump }))

/-- One operation, its calls carried out. -/
def stepA (P : Program) (s : Self) (o : Oper) (A : AAct) (H : Heap) : Option (AAct × Heap) := do
  match ← opA P H A.eval o with
  | (.value v, H') => some (A.put o.dst v, H')
  | (.skip, H') => some (A.put o.dst undef, H')
  | (.enter f args, H') => do
    let (v, H'') ← s.call f args H'
    some (A.put o.dst v, H'')
  | (.round l args, H') => do
    let (v, H'') ← roundA s l args H'
    some (A.put o.dst v, H'')

def opsA (P : Program) (s : Self) (ops : Array Oper) : List Nat → AAct → Heap → Option (AAct × Heap)
  | [], A, H => some (A, H)
  | i :: rest, A, H =>
    match ops[i]? with
    | none => opsA P s ops rest A H
    | some o =>
      match wantedA ops A o with
      | some true => do
        let (A', H') ← stepA P s o A H
        opsA P s ops rest A' H'
      | some false => opsA P s ops rest (A.put o.dst undef) H
      | none => none

/-! ### A region whose order is drawn -/
def bAfter (o : Oper) : List Nat := (o.after.toList.filter (Region.binds .any)).map (·.on)
def isMajor (o : Oper) : Bool :=
  match o.op with
  | .alloc _ | .box _ _ | .buildSlice _ _ _ | .makeMap _ _ | .makeSlice _ _ _ => false
  | .move _ | .pick .. | .build .. | .load .. | .nilCheck _ | .binOp .. | .unOp .. | .convert .. | .makeFunc .. | .slice .. | .fieldAddr .. | .field .. | .indexAddr .. | .index .. | .lookup .. | .extract .. | .sliceToArrayPointer .. => false
  | .call { callee := .builtin .len, .. } | .call { callee := .builtin .cap, .. } | .call { callee := .builtin .min, .. } | .call { callee := .builtin .max, .. } | .call { callee := .builtin .complex, .. } | .call { callee := .builtin .real, .. } | .call { callee := .builtin .imag, .. } => false
  | _ => true

def isAlloc (o : Oper) : Bool :=
  match o.op with
  | .alloc _ | .box _ _ | .buildSlice _ _ _ | .makeMap _ _ | .makeSlice _ _ _ => true
  | _ => false
/-- What an operation that writes nothing leaves. -/
inductive Mes where
  | val (v : Value)
  | new (k : Mk) (x : AObj)
  | off
def minorA (P : Program) (ops : Array Oper) (A : AAct) (H : Heap) (o : Oper) : Option Mes :=
  match wantedA ops A o with
  | none => none
  | some false => some .off
  | some true =>
    match allocOf P A.eval o with
    | some (k, x) => some (.new k x)
    | none =>
      match opA P H A.eval o with
      | some (.value v, _) => some (.val v)
      | _ => none
def all2 {α : Type} (f : α → α → Bool) : List α → List α → Bool
  | [], [] => true
  | a :: as, b :: bs => f a b && all2 f as bs
  | _, _ => false
/-- Are two values one? (false: not known) -/
def veq : Nat → Value → Value → Bool
  | 0, _, _ => false
  | n + 1, x, y =>
    match x, y with
    | .bool a, .bool b => a == b
    | .int j a, .int k b => j == k && a == b
    | .string a, .string b => a.data.toList == b.data.toList
    | .pointer a, .pointer b => a == b
    | .slice a l c, .slice b m d => a == b && l == m && c == d
    | .map a, .map b => a == b
    | .nilFunc, .nilFunc => true
    | .nilIface, .nilIface => true
    | .func f a c, .func g b d => f == g && all2 (veq n) a.toList b.toList && all2 (veq n) c.toList d.toList
    | .agg a, .agg b | .tuple a, .tuple b => all2 (veq n) a.toList b.toList
    | .iface t a, .iface u b => t == u && veq n a b
    | _, _ => false
def oeq : AObj → AObj → Bool
  | .cells a t o e, .cells b u p f => all2 (veq 8) a b && t == u && o == p && e == f
  | .map [] c, .map [] d => c == d
  | _, _ => false

inductive PItem where
  | minor (i : Nat)
  | major (i : Nat) (again : List Nat)
  | last (again : List Nat)

/-- What an operation looks at: its operands' slots, its guard's. -/
def looks (ops : Array Oper) (o : Oper) : List Tmp :=
  o.op.operands.toList.filterMap (fun | .tmp t => some t | _ => none) ++ (match o.guard with | some (j, _) => ((ops[j]?).bind (·.dst)).toList | none => [])

/-- The order in which a drawn region is run: what writes nothing as early as it can. -/
def planGo (l : List (Nat × Oper)) : Nat → List Nat → List Nat → List PItem → List PItem
  | 0, done, shut, acc => (.last (done.filter fun j => !shut.contains j) :: acc).reverse
  | f + 1, done, shut, acc =>
    let ready := fun (p : Nat × Oper) => !done.contains p.1 && (bAfter p.2).all done.contains
    match l.find? fun p => !isMajor p.2 && ready p with
    | some p => planGo l f (p.1 :: done) shut (.minor p.1 :: acc)
    | none =>
      match l.find? ready with
      | some p => planGo l f (p.1 :: done) (p.1 :: (bAfter p.2 ++ shut)) (.major p.1 (done.filter fun j => !shut.contains j) :: acc)
      | none => (.last (done.filter fun j => !shut.contains j) :: acc).reverse
def numbered (ops : Array Oper) : List (Nat × Oper) := (List.range ops.size).zip ops.toList
def plan (ops : Array Oper) : List PItem := planGo (numbered ops) ops.size [] [] []

/-- The parts of a plan that the proof leans on. -/
def planGood (ops : Array Oper) : List PItem → List Nat → List Nat → Bool
  | [], _, _ => false
  | .minor i :: rest, done, shut =>
    match ops[i]? with
    | some o => !isMajor o && !done.contains i && (bAfter o).all done.contains && planGood ops rest (i :: done) shut
    | none => false
  | .major i again :: rest, done, shut =>
    match ops[i]? with
    | some o =>
      isMajor o && !done.contains i && (bAfter o).all done.contains &&
      (List.range ops.size).all (fun j => j == i || done.contains j || !((ops[j]?).map fun p => (bAfter p).all done.contains).getD false) &&
      done.all (fun j => shut.contains j || again.contains j) &&
      planGood ops rest (i :: done) (i :: (bAfter o ++ shut))
    | none => false
  | .last again :: _, done, shut => (List.range ops.size).all done.contains && done.all (fun j => shut.contains j || again.contains j)
def flowGood (ops : Array Oper) : Bool :=
  (List.range ops.size).all fun p => (List.range ops.size).all fun q =>
    match ops[p]?, ops[q]? with
    | some op, some oq =>
      match oq.dst with
      | none => true
      | some d => (p == q || op.dst != some d) && (!(looks ops op).contains d || (bAfter op).contains q || isMajor oq)
    | _, _ => true
def regionGood (ops : Array Oper) : Bool := planGood ops (plan ops) [] [] && flowGood ops

/-- The block that a value of a new block names. -/
def blk : Value → Option Nat
  | .pointer (some ⟨i, _, _⟩) => some i
  | .slice (some ⟨i, _, _⟩) _ _ => some i
  | .map (some i) => some i
  | _ => none
def inRange (A : AAct) : Option Tmp → Bool
  | none => true
  | some d => d < A.size
def execMinor (P : Program) (ops : Array Oper) (A : AAct) (H : Heap) (o : Oper) : Option (AAct × Heap) :=
  if inRange A o.dst = false then none else
  match minorA P ops A H o with
  | some (.val v) => if isAlloc o then none else some (A.put o.dst v, H)
  | some (.new k x) => some (A.put o.dst (k.val H.next), H.new x)
  | some .off => some (A.put o.dst undef, H)
  | none => none
/-- Would what has been carried out be carried out likewise now? -/
def stillSo (P : Program) (ops : Array Oper) (A : AAct) (H : Heap) (j : Nat) : Bool :=
  match ops[j]? with
  | some o =>
    match minorA P ops A H o with
    | some (.val v) => !isAlloc o && (match o.dst with | none => true | some d => d < A.size && veq 8 v (A.slot d))
    | some (.new k x) =>
      match o.dst with
      | none => false
      | some d =>
        d < A.size &&
        match blk (A.slot d) with
        | some i => veq 8 (A.slot d) (k.val i) && (match H.get i with | some y => oeq x y | none => false)
        | none => false
    | some .off => (match o.dst with | none => true | some d => d < A.size && veq 8 undef (A.slot d))
    | none => false
  | none => false
/-- The block of an operation that lays one. -/
def laid (ops : Array Oper) (A : AAct) (j : Nat) : Option Nat :=
  match ops[j]? with
  | some o => if isAlloc o then o.dst.bind fun d => blk (A.slot d) else none
  | none => none
def distinctOk (l : List (Option Nat)) : Bool :=
  match l with
  | [] => true
  | none :: l => distinctOk l
  | some x :: l => !l.contains (some x) && distinctOk l
def allStill (P : Program) (ops : Array Oper) (A : AAct) (H : Heap) (again : List Nat) : Bool :=
  again.all (stillSo P ops A H) && distinctOk (again.map (laid ops A))
def anyA (P : Program) (s : Self) (ops : Array Oper) : List PItem → AAct → Heap → Option (AAct × Heap)
  | [], _, _ => none
  | .minor i :: rest, A, H =>
    match ops[i]? with
    | some o => (execMinor P ops A H o).bind fun x => anyA P s ops rest x.1 x.2
    | none => none
  | .major i again :: rest, A, H =>
    if allStill P ops A H again = false then none else
    match ops[i]? with
    | some o =>
      match wantedA ops A o with
      | some true => (stepA P s o A H).bind fun x => anyA P s ops rest x.1 x.2
      | some false => anyA P s ops rest (A.put o.dst undef) H
      | none => none
    | none => none
  | .last again :: _, A, H => if allStill P ops A H again = false then none else some (A, H)

/-- Is it a function with a Go body? -/
def enterable (P : Program) (g : FuncId) : Bool :=
  match P.funcs[g]? with
  | some fn => fn.body.isSome && !(fn.name == "runtime.NumGoroutine")
  | none => false
/-- The block for deferred calls at the entry of a range over a function. -/
def enterA (round : Option Nat) (H : Heap) : Option (Nat × List Nat × Heap) :=
  match round with
  | none => some (H.next, [H.next], H.new .deferred)
  | some l₀ => (getLoopA H l₀).bind fun r => some (r.defers, [], H)
def rangeA (P : Program) (s : Self) (round : Option Nat) (f : Operand) (ps : Array Tmp) (assign body : Code) (A : AAct) (H : Heap) : Option (Exit × AAct × Heap) :=
  (enterA round H).bind fun x =>
  match A.eval f with
  | .func (.func g) first captured =>
    if enterable P g = false then none else
    (s.call g (first ++ #[.func (.yield x.2.2.next) #[] #[]] ++ captured) (x.2.2.new (.loop { state := .ready, pending := none, act := A, params := ps, assign, body, defers := x.1 }))).bind fun y =>
    (getLoopA y.2 x.2.2.next).bind fun r =>
    if r.state = .busy then none else
    match r.pending with
    | none => some (.normal, { A with defers := x.2.1 ++ A.defers }, y.2.set x.2.2.next (.loop { r with state := .exhausted }))
    | some c => s.code round c { A with defers := x.2.1 ++ A.defers } (y.2.set x.2.2.next (.loop { r with state := .exhausted }))
  | _ => none

def codeA (P : Program) (s : Self) (round : Option Nat) : Code → AAct → Heap → Option (Exit × AAct × Heap)
  | .skip, A, H => some (.normal, A, H)
  | .region _ ops false, A, H => do let (A', H') ← opsA P s ops (List.range ops.size) A H; some (.normal, A', H')
  | .region _ ops true, A, H => do if regionGood ops then let (A', H') ← anyA P s ops (plan ops) A H; some (.normal, A', H') else none
  | .seq x y, A, H => do
    match ← codeA P s round x A H with
    | (.normal, A', H') => codeA P s round y A' H'
    | r => some r
  | .cond c x y, A, H =>
    match A.eval c with
    | .bool true => codeA P s round x A H
    | .bool false => codeA P s round y A H
    | _ => none
  | .block id body, A, H => do
    match ← codeA P s round body A H with
    | (.exit id', A', H') => if id' = id then some (.normal, A', H') else some (.exit id', A', H')
    | r => some r
  | .loop body, A, H => do
    match ← codeA P s round body A H with
    | (.normal, A', H') => s.code round (.loop body) A' H'
    | r => some r
  | .rangeFunc f ps assign body, A, H => rangeA P s round f ps assign body A H
  | .exit id, A, H => some (.exit id, A, H)
  | .label _, A, H => some (.normal, A, H)
  | .goto l, A, H => some (.goto l, A, H)
  | .ret, A, H => some (.ret, A, H)
  | _, _, _ => none

def resultsA (P : Program) (H : Heap) (fn : Func) (A : AAct) : Option Value := do
  let vs ← fn.results.toList.mapM fun
    | .tmp t => some (A.slot t)
    | .cell a t => loadA P H t (A.slot a)
  match vs with
  | [v] => some v
  | vs => some (.tuple vs.toArray)

def takeA : List Nat → Heap → Option Heap
  | [], H => some H
  | D :: ds, H => if D < gbase then none else match H.get D with | some .deferred => takeA ds (H.set D .taken) | _ => none

def callBody (P : Program) (s : Self) (f : FuncId) (args : Array Value) (H : Heap) : Option (Value × Heap) :=
  match P.funcs[f]? with
  | some fn =>
    match fn.body with
    | some c => do
      let (e, A, H₁) ← s.code none c { tmps := AAct.ofArgs args.toList 0 .leaf, size := max args.size fn.ntmps, defers := [] } H
      match e with
      | .normal | .ret => do
        let H₂ ← takeA A.defers H₁
        let v ← resultsA P H₂ fn A
        some (v, H₂)
      | _ => none
    | none => none
  | none => none

def evalN (P : Program) : Nat → Self
  | 0 => ⟨fun _ _ _ => none, fun _ _ _ _ => none⟩
  | n + 1 => ⟨fun f args H => callBody P (evalN P n) f args H, fun round c A H => codeA P (evalN P n) round c A H⟩

def callN (P : Program) (n : Nat) (f : FuncId) (args : Array Value) (H : Heap) : Option (Value × Heap) := (evalN P n).call f args H

end Go.Abs

/- Values of the evaluator against values of the machine. -/
namespace Go.Abs
open Go.RowKit

/-! ### The tree -/
theorem Tree.get_set {α : Type} : ∀ (f : Nat) (t : Tree α) (n : Nat) (a : α) (m : Nat), n < f → (t.set f n a).get m = if m = n then some a else t.get m := by
  intro f
  induction f with
  | zero => intro t n a m h; omega
  | succ f ih =>
    intro t n a m h
    cases t with
    | leaf =>
      simp only [Tree.set]
      split
      · subst n
        cases m with
        | zero => simp [Tree.get]
        | succ m => simp only [Tree.get]; split <;> simp_all
      · split
        · simp only [Tree.get]
          by_cases hm : m = 0
          · subst m; simp; omega
          · simp only [hm, if_false]
            split
            · rw [ih _ _ _ _ (by omega)]
              by_cases e : m = n
              · simp [e]
              · have : m / 2 ≠ n / 2 := by omega
                simp [e, this, Tree.get]
            · have : m ≠ n := by omega
              simp [this]
        · simp only [Tree.get]
          by_cases hm : m = 0
          · subst m; simp; omega
          · simp only [hm, if_false]
            split
            · have : m ≠ n := by omega
              simp [this]
            · rw [ih _ _ _ _ (by omega)]
              by_cases e : m = n
              · simp [e]
              · have : m / 2 - 1 ≠ n / 2 - 1 := by omega
                simp [e, this, Tree.get]
    | node v l r =>
      simp only [Tree.set]
      split
      · subst n
        simp only [Tree.get]
        split <;> simp_all
      · split
        · simp only [Tree.get]
          by_cases hm : m = 0
          · subst m; simp; omega
          · simp only [hm, if_false]
            split
            · rw [ih _ _ _ _ (by omega)]
              by_cases e : m = n
              · simp [e]
              · have : m / 2 ≠ n / 2 := by omega
                simp [e, this]
            · have : m ≠ n := by omega
              simp [this]
        · simp only [Tree.get]
          by_cases hm : m = 0
          · subst m; simp; omega
          · simp only [hm, if_false]
            split
            · have : m ≠ n := by omega
              simp [this]
            · rw [ih _ _ _ _ (by omega)]
              by_cases e : m = n
              · simp [e]
              · have : m / 2 - 1 ≠ n / 2 - 1 := by omega
                simp [e, this]

theorem Heap.get_set (H : Heap) (i j : Nat) (o : AObj) : (H.set i o).get j = if j = i then some o else H.get j := Tree.get_set _ _ _ _ _ (by omega)
theorem Heap.get_new (H : Heap) (j : Nat) (o : AObj) : (H.new o).get j = if j = H.next then some o else H.get j := Tree.get_set _ _ _ _ _ (by omega)
@[simp] theorem Heap.next_set (H : Heap) (i : Nat) (o : AObj) : (H.set i o).next = H.next := rfl
@[simp] theorem Heap.next_new (H : Heap) (o : AObj) : (H.new o).next = H.next + 1 := rfl

/-! ### Values -/
/-- Where an abstract block lies. -/
structure Meta where
  b : Nat
  o : Nat
  known : Nat
  opn : Bool
  es : Nat
  size : Nat
  hw : o + known ≤ size
def Meta.isOpen (m : Meta) (k cap : Nat) : Bool := m.opn && k + cap * m.es == m.known
abbrev Ren := Nat → Option Meta

inductive VR (ρ : Ren) : Value → Value → Prop
  | bool (b : Bool) : VR ρ (.bool b) (.bool b)
  | int (k : IntKind) (n : Int) : VR ρ (.int k n) (.int k n)
  | float (k : FloatKind) (n : Nat) : VR ρ (.float k n) (.float k n)
  | complex (k : FloatKind) (n m : Nat) : VR ρ (.complex k n m) (.complex k n m)
  | string (s : ByteArray) : VR ρ (.string s) (.string s)
  | nilFunc : VR ρ .nilFunc .nilFunc
  | nilIface : VR ρ .nilIface .nilIface
  | nilPtr : VR ρ (.pointer none) (.pointer none)
  | nilSlice (l c : Nat) : VR ρ (.slice none l c) (.slice none l c)
  | nilMap : VR ρ (.map none) (.map none)
  | unknown (r : Option Nat) (v : Value) : VR ρ (.chan r) v
  | glob (g k : Nat) (h : g < abase) : VR ρ (.pointer (some ⟨g, k, none⟩)) (.pointer (some ⟨g, k, none⟩))
  | ptr (i k : Nat) (m : Meta) (h : ρ i = some m) : VR ρ (.pointer (some ⟨i, k, none⟩)) (.pointer (some ⟨m.b, m.o + k, none⟩))
  | map (i : Nat) (m : Meta) (h : ρ i = some m) : VR ρ (.map (some i)) (.map (some m.b))
  | slice (i k len cap : Nat) (m : Meta) (h : ρ i = some m) (ho : m.isOpen k cap = false) (hl : len ≤ cap) :
      VR ρ (.slice (some ⟨i, k, none⟩) len cap) (.slice (some ⟨m.b, m.o + k, none⟩) len cap)
  | opened (i k len cap capC : Nat) (m : Meta) (h : ρ i = some m) (ho : m.isOpen k cap = true) (hc : cap ≤ capC) (hs : m.o + k + capC * m.es ≤ m.size) (hl : len ≤ cap) :
      VR ρ (.slice (some ⟨i, k, none⟩) len cap) (.slice (some ⟨m.b, m.o + k, none⟩) len capC)
  | empty (i k off : Nat) (m : Meta) (h : ρ i = some m) (ho : m.isOpen k 0 = true) (hz : off ≤ m.size) :
      VR ρ (.slice (some ⟨i, k, none⟩) 0 0) (.slice (some ⟨m.b, off, none⟩) 0 0)
  | func (f : FuncId) (a b a' b' : Array Value) (ha : a.size = a'.size) (hb : b.size = b'.size)
      (ra : ∀ j, j < a.size → VR ρ (a.getD j undef) (a'.getD j undef)) (rb : ∀ j, j < b.size → VR ρ (b.getD j undef) (b'.getD j undef)) :
      VR ρ (.func (.func f) a b) (.func (.func f) a' b')
  | yield (l : Nat) (m : Meta) (h : ρ l = some m) : VR ρ (.func (.yield l) #[] #[]) (.func (.yield m.b) #[] #[])
  | iface (t : TypeId) (v v' : Value) (h : VR ρ v v') : VR ρ (.iface t v) (.iface t v')
  | agg (a a' : Array Value) (ha : a.size = a'.size) (ra : ∀ j, j < a.size → VR ρ (a.getD j undef) (a'.getD j undef)) : VR ρ (.agg a) (.agg a')
  | tuple (a a' : Array Value) (ha : a.size = a'.size) (ra : ∀ j, j < a.size → VR ρ (a.getD j undef) (a'.getD j undef)) : VR ρ (.tuple a) (.tuple a')

def Ren.le (ρ ρ' : Ren) : Prop := ∀ i m, ρ i = some m → ρ' i = some m
theorem Ren.le_refl (ρ : Ren) : ρ.le ρ := fun _ _ h => h
theorem Ren.le_trans {a b c : Ren} (h : a.le b) (k : b.le c) : a.le c := fun i m e => k i m (h i m e)

theorem VR.mono {ρ ρ' : Ren} (h : ρ.le ρ') {v v' : Value} (hv : VR ρ v v') : VR ρ' v v' := by
  induction hv with
  | bool b => exact .bool b
  | int k n => exact .int k n
  | float k n => exact .float k n
  | complex k n m => exact .complex k n m
  | string s => exact .string s
  | nilFunc => exact .nilFunc
  | nilIface => exact .nilIface
  | nilPtr => exact .nilPtr
  | nilSlice l c => exact .nilSlice l c
  | nilMap => exact .nilMap
  | unknown r v => exact .unknown r v
  | glob g k h => exact .glob g k h
  | ptr i k m e => exact .ptr i k m (h _ _ e)
  | map i m e => exact .map i m (h _ _ e)
  | slice i k len cap m e ho hl => exact .slice i k len cap m (h _ _ e) ho hl
  | opened i k len cap capC m e ho hc hs hl => exact .opened i k len cap capC m (h _ _ e) ho hc hs hl
  | empty i k off m e ho hz => exact .empty i k off m (h _ _ e) ho hz
  | func f a b a' b' ha hb _ _ iha ihb => exact .func f a b a' b' ha hb iha ihb
  | yield l m e => exact .yield l m (h _ _ e)
  | iface t v v' _ ih => exact .iface t v v' ih
  | agg a a' ha _ ih => exact .agg a a' ha ih
  | tuple a a' ha _ ih => exact .tuple a a' ha ih

theorem VR.undef (ρ : Ren) : VR ρ undef undef := .tuple #[] #[] rfl (fun _ h => absurd h (by simp))

/-! ### Lists of values -/
inductive LR (ρ : Ren) : List Value → List Value → Prop
  | nil : LR ρ [] []
  | cons {v v' : Value} {l l' : List Value} (h : VR ρ v v') (t : LR ρ l l') : LR ρ (v :: l) (v' :: l')

namespace LR
variable {ρ : Ren}
theorem length {l l' : List Value} (h : LR ρ l l') : l.length = l'.length := by induction h <;> simp_all
theorem mono {ρ' : Ren} (hr : ρ.le ρ') {l l' : List Value} (h : LR ρ l l') : LR ρ' l l' := by
  induction h with
  | nil => exact .nil
  | cons h _ ih => exact .cons (h.mono hr) ih
theorem append {a a' b b' : List Value} (h : LR ρ a a') (k : LR ρ b b') : LR ρ (a ++ b) (a' ++ b') := by
  induction h with
  | nil => exact k
  | cons h _ ih => exact .cons h ih
theorem take {l l' : List Value} (h : LR ρ l l') : ∀ n, LR ρ (l.take n) (l'.take n) := by
  induction h with
  | nil => intro n; simp; exact .nil
  | cons h _ ih => intro n; cases n with
    | zero => exact .nil
    | succ n => exact .cons h (ih n)
theorem drop {l l' : List Value} (h : LR ρ l l') : ∀ n, LR ρ (l.drop n) (l'.drop n) := by
  induction h with
  | nil => intro n; simp; exact .nil
  | cons h t ih => intro n; cases n with
    | zero => exact .cons h t
    | succ n => exact ih n
theorem get {l l' : List Value} (h : LR ρ l l') : ∀ {n : Nat} {v : Value}, l[n]? = some v → ∃ v', l'[n]? = some v' ∧ VR ρ v v' := by
  induction h with
  | nil => intro n v e; simp at e
  | cons h _ ih => intro n v e; cases n with
    | zero => simp at e; subst e; exact ⟨_, rfl, h⟩
    | succ n => exact ih (by simpa using e)
theorem of_get : ∀ {l l' : List Value}, l.length = l'.length → (∀ j, j < l.length → VR ρ (l.getD j Go.undef) (l'.getD j Go.undef)) → LR ρ l l'
  | [], [], _, _ => .nil
  | [], _ :: _, h, _ => by simp at h
  | _ :: _, [], h, _ => by simp at h
  | a :: l, b :: l', h, r => .cons (by simpa using r 0 (by simp)) (of_get (by simpa using h) (fun j hj => by simpa using r (j + 1) (by simpa using hj)))
theorem getD {l l' : List Value} (h : LR ρ l l') (j : Nat) : VR ρ (l.getD j Go.undef) (l'.getD j Go.undef) := by
  induction h generalizing j with
  | nil => simpa using VR.undef ρ
  | cons h _ ih => cases j with
    | zero => simpa using h
    | succ j => simpa using ih j
end LR

theorem arrD (a : Array Value) (j : Nat) : a.getD j undef = a.toList.getD j undef := by
  simp [Array.getD_eq_getD_getElem?, List.getD_eq_getElem?_getD]

theorem LR.of_arr {ρ : Ren} {a a' : Array Value} (h : a.size = a'.size) (r : ∀ j, j < a.size → VR ρ (a.getD j undef) (a'.getD j undef)) : LR ρ a.toList a'.toList :=
  .of_get (by simpa using h) (fun j hj => by rw [← arrD, ← arrD]; exact r j (by simpa using hj))
theorem LR.arr {ρ : Ren} {a a' : Array Value} (h : LR ρ a.toList a'.toList) (j : Nat) : VR ρ (a.getD j undef) (a'.getD j undef) := by
  rw [arrD, arrD]; exact h.getD j
theorem LR.size {ρ : Ren} {a a' : Array Value} (h : LR ρ a.toList a'.toList) : a.size = a'.size := by simpa using h.length
theorem VR.agg' {ρ : Ren} {a a' : Array Value} (h : LR ρ a.toList a'.toList) : VR ρ (.agg a) (.agg a') := .agg _ _ h.size (fun j _ => h.arr j)
theorem VR.tuple' {ρ : Ren} {a a' : Array Value} (h : LR ρ a.toList a'.toList) : VR ρ (.tuple a) (.tuple a') := .tuple _ _ h.size (fun j _ => h.arr j)
theorem VR.func' {ρ : Ren} {f : FuncId} {a a' b b' : Array Value} (h : LR ρ a.toList a'.toList) (k : LR ρ b.toList b'.toList) : VR ρ (.func (.func f) a b) (.func (.func f) a' b') :=
  .func _ _ _ _ _ h.size k.size (fun j _ => h.arr j) (fun j _ => k.arr j)

/-! ### Plain values -/
theorem LR.plain {ρ : Ren} {n : Nat} (hrefl : ∀ v, plain n v = true → VR ρ v v) : ∀ l : List Value, l.all (plain n) = true → LR ρ l l
  | [], _ => .nil
  | v :: l, h => by
    simp only [List.all_cons, Bool.and_eq_true] at h
    exact .cons (hrefl v h.1) (LR.plain hrefl l h.2)
theorem LR.plain_eq {ρ : Ren} {n : Nat} (heq : ∀ v v', Abs.plain n v = true → VR ρ v v' → v' = v) : ∀ {l l' : List Value}, LR ρ l l' → l.all (Abs.plain n) = true → l' = l := by
  intro l l' h
  induction h with
  | nil => intro _; rfl
  | cons h _ ih =>
    intro hp
    simp only [List.all_cons, Bool.and_eq_true] at hp
    rw [heq _ _ hp.1 h, ih hp.2]

theorem plain_refl (ρ : Ren) : ∀ (n : Nat) (v : Value), plain n v = true → VR ρ v v := by
  intro n
  induction n with
  | zero => intro v h; simp [plain] at h
  | succ n ih =>
    intro v h
    cases v with
    | bool b => exact .bool b
    | int k m => exact .int k m
    | float k m => exact .float k m
    | complex k a b => exact .complex k a b
    | string s => exact .string s
    | pointer a => cases a with
      | none => exact .nilPtr
      | some a => simp [plain] at h
    | slice a l c => cases a with
      | none => exact .nilSlice l c
      | some a => simp [plain] at h
    | map r => cases r with
      | none => exact .nilMap
      | some a => simp [plain] at h
    | chan r => exact .unknown r _
    | nilFunc => exact .nilFunc
    | nilIface => exact .nilIface
    | iface t x => exact .iface t x x (ih x (by simpa [plain] using h))
    | agg cs => exact VR.agg' (LR.plain ih _ (by simpa [plain] using h))
    | tuple cs => exact VR.tuple' (LR.plain ih _ (by simpa [plain] using h))
    | func f a b =>
      cases f with
      | func f =>
        simp only [plain, Bool.and_eq_true] at h
        exact VR.func' (LR.plain ih _ (by simpa using h.1)) (LR.plain ih _ (by simpa using h.2))
      | _ => simp [plain] at h

theorem plain_eq {ρ : Ren} : ∀ (n : Nat) (v v' : Value), plain n v = true → VR ρ v v' → v' = v := by
  intro n
  induction n with
  | zero => intro v v' h; simp [plain] at h
  | succ n ih =>
    intro v v' h hv
    cases hv with
    | bool b => rfl
    | int k n => rfl
    | float k n => rfl
    | complex k n m => rfl
    | string s => rfl
    | nilFunc => rfl
    | nilIface => rfl
    | nilPtr => rfl
    | nilSlice l c => rfl
    | nilMap => rfl
    | iface t v v' hv => rw [ih _ _ (by simpa [plain] using h) hv]
    | agg a a' ha ra =>
      have := LR.plain_eq ih (LR.of_arr ha ra) (by simpa [plain] using h)
      rw [Array.toList_inj.1 this]
    | tuple a a' ha ra =>
      have := LR.plain_eq ih (LR.of_arr ha ra) (by simpa [plain] using h)
      rw [Array.toList_inj.1 this]
    | func f a b a' b' ha hb ra rb =>
      simp only [plain, Bool.and_eq_true] at h
      have e1 := LR.plain_eq ih (LR.of_arr ha ra) (by simpa using h.1)
      have e2 := LR.plain_eq ih (LR.of_arr hb rb) (by simpa using h.2)
      rw [Array.toList_inj.1 e1, Array.toList_inj.1 e2]
    | unknown r v => simp [plain] at h
    | _ => simp [plain] at h

end Go.Abs

/- Computations that touch no memory: the evaluator's result against the machine's. -/
namespace Go.Abs
open Go.RowKit

inductive PR (P : Program) {α β : Type} (R : α → β → Prop) : Sem α → Sem β → Prop
  | pure {a : α} {b : β} (h : R a b) : PR P R (.pure a) (.pure b)
  | program {k : Program → Sem α} {k' : Program → Sem β} (h : PR P R (k P) (k' P)) : PR P R (.program k) (.program k')
  | mark {m m' : Mark} {k : Sem α} {k' : Sem β} (h : PR P R k k') : PR P R (.mark m k) (.mark m' k')
  | fail {e : Sem α} {e' : Sem β} (h : pureRun P e = none) : PR P R e e'

theorem pureRun_bind {α β : Type} (P : Program) (e : Sem α) (f : α → Sem β) : pureRun P (e.bind f) = (pureRun P e).bind fun a => pureRun P (f a) := by
  induction e <;> simp_all [Sem.bind, pureRun]

namespace PR
variable {P : Program} {α β γ δ : Type} {R : α → β → Prop} {S : γ → δ → Prop}
theorem sound {e : Sem α} {e' : Sem β} (h : PR P R e e') {a : α} (hp : pureRun P e = some a) : ∃ b, R a b ∧ ∀ w, e'.run P w = .ok b w := by
  induction h with
  | pure h => simp [pureRun] at hp; subst hp; exact ⟨_, h, fun w => rfl⟩
  | program _ ih => exact ih hp
  | mark _ ih => exact ih hp
  | fail h => rw [h] at hp; cases hp
theorem bind {e : Sem α} {e' : Sem β} {f : α → Sem γ} {f' : β → Sem δ} (h : PR P R e e') (hf : ∀ a b, R a b → PR P S (f a) (f' b)) : PR P S (e >>= f) (e' >>= f') := by
  show PR P S (e.bind f) (e'.bind f')
  induction h with
  | pure h => exact hf _ _ h
  | program _ ih => exact .program ih
  | mark _ ih => exact .mark ih
  | fail h => exact .fail (by rw [pureRun_bind, h]; rfl)
theorem refl : ∀ e : Sem α, PR P Eq e e
  | .pure _ => .pure rfl
  | .program k => .program (refl (k P))
  | .mark _ k => .mark (refl k)
  | .load _ _ _ => .fail rfl
  | .store _ _ _ _ => .fail rfl
  | .new _ _ => .fail rfl
  | .shape _ _ => .fail rfl
  | .freeze _ _ _ => .fail rfl
  | .frozen _ _ => .fail rfl
  | .getObj _ _ => .fail rfl
  | .setObj _ _ _ => .fail rfl
  | .choose _ _ => .fail rfl
  | .sys _ _ => .fail rfl
  | .halt _ => .fail rfl
theorem imp {R' : α → β → Prop} (hi : ∀ a b, R a b → R' a b) {e : Sem α} {e' : Sem β} (h : PR P R e e') : PR P R' e e' := by
  induction h with
  | pure h => exact .pure (hi _ _ h)
  | program _ ih => exact .program ih
  | mark _ ih => exact .mark ih
  | fail h => exact .fail h
/-- A step that is the same on both sides. -/
theorem same {e : Sem α} {f : α → Sem γ} {f' : α → Sem δ} (hf : ∀ a, PR P S (f a) (f' a)) : PR P S (e >>= f) (e >>= f') :=
  bind (refl e) (fun a b h => by subst h; exact hf a)
theorem stuck {s : String} {e' : Sem β} : PR P R (Go.stuck s) e' := .fail rfl
theorem ret {a : α} {b : β} (h : R a b) : PR P R (Pure.pure a) (Pure.pure b) := .pure h
end PR

variable {P : Program} {ρ : Ren}

theorem asInt_PR {v v' : Value} (h : VR ρ v v') : PR P Eq (asIntOf v) (asIntOf v') := by
  cases h <;> first | exact .refl _ | exact .fail rfl
theorem asAgg_PR {v v' : Value} (h : VR ρ v v') : PR P (fun a b => LR ρ a.toList b.toList) (asAgg v) (asAgg v') := by
  cases h with
  | agg a a' ha ra => exact .pure (.of_arr ha ra)
  | _ => exact .fail rfl
theorem LR.extract {a b : Array Value} (h : LR ρ a.toList b.toList) (i j : Nat) : LR ρ (a.extract i j).toList (b.extract i j).toList := by
  simp only [Array.toList_extract, List.extract_eq_take_drop]
  exact (h.drop i).take _
theorem part_PR {t : TypeId} {a b : Array Value} (h : LR ρ a.toList b.toList) (off : Nat) : PR P (VR ρ) (part t a off) (part t b off) := by
  unfold part
  refine .same fun g => ?_
  split
  · exact .same fun n => .ret (VR.agg' (h.extract _ _))
  · cases hv : a[off]? with
    | none => exact .stuck
    | some v =>
      obtain ⟨v', e, r⟩ := h.get (n := off) (v := v) (by simpa using hv)
      have e' : b[off]? = some v' := by simpa using e
      simp only [e']
      exact .ret r

theorem field_PR {t : TypeId} {v v' : Value} (h : VR ρ v v') (f : Nat) : PR P (VR ρ) (Instr.field t v f) (Instr.field t v' f) := by
  unfold Instr.field
  refine .same fun d => ?_
  cases d with
  | struct fields =>
    simp only
    cases fields[f]? with
    | none => exact .stuck
    | some g => exact .bind (asAgg_PR h) fun a b r => part_PR r _
  | _ => exact .stuck

theorem extract_PR {v v' : Value} (h : VR ρ v v') (i : Nat) : PR P (VR ρ) (Instr.extract v i) (Instr.extract v' i) := by
  cases h with
  | tuple a a' ha ra =>
    have hl := LR.of_arr ha ra
    unfold Instr.extract
    cases hv : a[i]? with
    | none => simp only [hv]; exact .fail rfl
    | some v =>
      obtain ⟨v', e, r⟩ := hl.get (n := i) (v := v) (by simpa using hv)
      have e' : a'[i]? = some v' := by simpa using e
      simp only [hv, e']
      exact .pure r
  | _ => exact .fail rfl

/-! ### Addresses -/
/-- Where an abstract place lies. -/
inductive AdR (ρ : Ren) : Addr → Addr → Prop
  | glob (g k : Nat) (h : g < abase) : AdR ρ ⟨g, k, none⟩ ⟨g, k, none⟩
  | own (i k : Nat) (m : Meta) (h : ρ i = some m) : AdR ρ ⟨i, k, none⟩ ⟨m.b, m.o + k, none⟩
theorem AdR.add {a a' : Addr} (h : AdR ρ a a') (n : Nat) : AdR ρ (a.add n) (a'.add n) := by
  by_cases hn : n = 0
  · simpa [Addr.add, hn] using h
  · cases h with
    | glob g k hg => simpa [Addr.add, hn] using AdR.glob (ρ := ρ) g (k + n) hg
    | own i k m hm => have := AdR.own (ρ := ρ) i (k + n) m hm; simpa [Addr.add, hn, Nat.add_assoc] using this
theorem AdR.ptr {a a' : Addr} (h : AdR ρ a a') : VR ρ (.pointer (some a)) (.pointer (some a')) := by
  cases h with
  | glob g k hg => exact .glob g k hg
  | own i k m hm => exact .ptr i k m hm
theorem sureAddr_PR {v v' : Value} (h : VR ρ v v') : PR P (AdR ρ) (Instr.sureAddr v) (Instr.sureAddr v') := by
  cases h with
  | glob g k hg => exact .pure (.glob g k hg)
  | ptr i k m hm => exact .pure (.own i k m hm)
  | _ => exact .fail rfl
theorem pureRun_ite {α : Type} {c : Prop} [Decidable c] {a b : Sem α} (ha : pureRun P a = none) (hb : pureRun P b = none) : pureRun P (if c then a else b) = none := by
  split <;> assumption
theorem runtimePanic_none {α : Type} (e : RuntimeError) : pureRun P (runtimePanic (α := α) e) = none := by
  unfold runtimePanic
  show pureRun P (Sem.bind program _) = none
  rw [pureRun_bind]
  show pureRun P _ = none
  cases e with
  | typeAssertion i c a m =>
    show pureRun P (Sem.bind _ _) = none
    rw [pureRun_bind, Option.bind_eq_none_iff]
    intro a _
    rfl
  | panicNil =>
    show pureRun P (Sem.bind _ _) = none
    rw [pureRun_bind, Option.bind_eq_none_iff]
    intro a _
    rfl
  | _ => rfl
theorem boundsPanic_none {α : Type} (k : IntKind) (x y : Int) (c : BoundsCode) : pureRun P (boundsPanic (α := α) k x y c) = none := by
  unfold boundsPanic
  dsimp only
  split
  · rfl
  · exact runtimePanic_none (P := P) (α := α) (.bounds (IntKind.i64.wrap x) y (k != IntKind.u64) c)
theorem mkSlice {i : Nat} {m : Meta} (h : ρ i = some m) (k len cap : Nat) (hl : len ≤ cap) : VR ρ (.slice (some ⟨i, k, none⟩) len cap) (.slice (some ⟨m.b, m.o + k, none⟩) len cap) := by
  by_cases ho : m.isOpen k cap = true
  · refine .opened i k len cap cap m h ho (Nat.le_refl _) ?_ hl
    simp only [Meta.isOpen, Bool.and_eq_true, beq_iff_eq] at ho
    have := m.hw
    omega
  · exact .slice i k len cap m h (by simpa using ho) hl

theorem fieldAt_PR {t : TypeId} {v v' : Value} (h : VR ρ v v') (f : Nat) : PR P (VR ρ) (Instr.fieldAt t v f) (Instr.fieldAt t v' f) := by
  unfold Instr.fieldAt
  refine .same fun d => ?_
  cases d with
  | struct fields =>
    simp only
    cases fields[f]? with
    | none => exact .stuck
    | some g =>
      refine .bind (sureAddr_PR h) fun a b r => ?_
      unfold fieldPlace
      refine .bind (R := AdR ρ) (.same fun n => ?_) fun x y hxy => .ret hxy.ptr
      split
      · refine .fail ?_
        unfold partAt
        show pureRun P (Sem.bind (byteOf a) _) = none
        have hb : pureRun P (byteOf a) = none := by cases r <;> rfl
        rw [pureRun_bind, hb]
        rfl
      · exact .ret (r.add _)
  | _ => exact .stuck


def IxR (ρ : Ren) (p q : Option Addr × Nat × TypeId) : Prop :=
  p.2 = q.2 ∧ (0 < p.2.1 → match p.1, q.1 with | some a, some b => AdR ρ a b | none, none => True | _, _ => False)
theorem indexAt_PR {t : TypeId} {v v' x x' : Value} (h : VR ρ v v') (hx : VR ρ x x') : PR P (VR ρ) (Instr.indexAt t v x) (Instr.indexAt t v' x') := by
  unfold Instr.indexAt
  refine .bind (asInt_PR hx) ?_
  rintro ⟨k, i⟩ _ rfl
  dsimp only
  refine .same fun d => ?_
  cases d with
  | array len elem =>
    refine .bind (sureAddr_PR h) fun a b r => .bind (R := IxR ρ) (.ret ⟨rfl, fun _ => r⟩) ?_
    rintro ⟨p1, len, elem⟩ ⟨q1, len', elem'⟩ ⟨he, hr⟩
    simp only [Prod.mk.injEq] at he hr
    obtain ⟨rfl, rfl⟩ := he
    dsimp only
    refine .same fun d => ?_
    cases p1 with
    | none => exact .fail (boundsPanic_none _ _ _ _)
    | some a =>
      dsimp only
      by_cases hi : 0 ≤ i ∧ i < (len : Int)
      · have hlen : 0 < len := by omega
        have hr' := hr hlen
        cases q1 with
        | none => exact hr'.elim
        | some b =>
          simp only [hi, and_self, if_true]
          exact .same fun n => .ret (AdR.add hr' _).ptr
      · simp only [hi, if_false]
        exact .fail (pureRun_ite rfl (boundsPanic_none _ _ _ _))
  | slice elem =>
    cases h with
    | nilSlice l c =>
      refine .bind (R := IxR ρ) (.ret ⟨rfl, fun _ => trivial⟩) ?_
      rintro ⟨p1, len, elem⟩ ⟨q1, len', elem'⟩ ⟨he, hr⟩
      simp only [Prod.mk.injEq] at he hr
      obtain ⟨rfl, rfl⟩ := he
      dsimp only
      refine .same fun d => ?_
      cases p1 with
      | none => exact .fail (boundsPanic_none _ _ _ _)
      | some a =>
        dsimp only
        by_cases hi : 0 ≤ i ∧ i < (len : Int)
        · have hlen : 0 < len := by omega
          have hr' := hr hlen
          cases q1 with
          | none => exact hr'.elim
          | some b =>
            simp only [hi, and_self, if_true]
            exact .same fun n => .ret (AdR.add hr' _).ptr
        · simp only [hi, if_false]
          exact .fail (pureRun_ite rfl (boundsPanic_none _ _ _ _))
    | slice i' k' len cap m hm ho hl =>
      refine .bind (R := IxR ρ) (.ret ⟨rfl, fun _ => .own i' k' m hm⟩) ?_
      rintro ⟨p1, len, elem⟩ ⟨q1, len', elem'⟩ ⟨he, hr⟩
      simp only [Prod.mk.injEq] at he hr
      obtain ⟨rfl, rfl⟩ := he
      dsimp only
      refine .same fun d => ?_
      cases p1 with
      | none => exact .fail (boundsPanic_none _ _ _ _)
      | some a =>
        dsimp only
        by_cases hi : 0 ≤ i ∧ i < (len : Int)
        · have hlen : 0 < len := by omega
          have hr' := hr hlen
          cases q1 with
          | none => exact hr'.elim
          | some b =>
            simp only [hi, and_self, if_true]
            exact .same fun n => .ret (AdR.add hr' _).ptr
        · simp only [hi, if_false]
          exact .fail (pureRun_ite rfl (boundsPanic_none _ _ _ _))
    | opened i' k' len cap capC m hm ho hc hs hl =>
      refine .bind (R := IxR ρ) (.ret ⟨rfl, fun _ => .own i' k' m hm⟩) ?_
      rintro ⟨p1, len, elem⟩ ⟨q1, len', elem'⟩ ⟨he, hr⟩
      simp only [Prod.mk.injEq] at he hr
      obtain ⟨rfl, rfl⟩ := he
      dsimp only
      refine .same fun d => ?_
      cases p1 with
      | none => exact .fail (boundsPanic_none _ _ _ _)
      | some a =>
        dsimp only
        by_cases hi : 0 ≤ i ∧ i < (len : Int)
        · have hlen : 0 < len := by omega
          have hr' := hr hlen
          cases q1 with
          | none => exact hr'.elim
          | some b =>
            simp only [hi, and_self, if_true]
            exact .same fun n => .ret (AdR.add hr' _).ptr
        · simp only [hi, if_false]
          exact .fail (pureRun_ite rfl (boundsPanic_none _ _ _ _))
    | empty i' k' off m hm ho _ =>
      refine .bind (R := IxR ρ) (.ret ⟨rfl, fun h => absurd h (by simp)⟩) ?_
      rintro ⟨p1, len, elem⟩ ⟨q1, len', elem'⟩ ⟨he, hr⟩
      simp only [Prod.mk.injEq] at he hr
      obtain ⟨rfl, rfl⟩ := he
      dsimp only
      refine .same fun d => ?_
      cases p1 with
      | none => exact .fail (boundsPanic_none _ _ _ _)
      | some a =>
        dsimp only
        by_cases hi : 0 ≤ i ∧ i < (len : Int)
        · have hlen : 0 < len := by omega
          have hr' := hr hlen
          cases q1 with
          | none => exact hr'.elim
          | some b =>
            simp only [hi, and_self, if_true]
            exact .same fun n => .ret (AdR.add hr' _).ptr
        · simp only [hi, if_false]
          exact .fail (pureRun_ite rfl (boundsPanic_none _ _ _ _))
    | _ => exact .fail rfl
  | _ => exact .fail rfl

theorem index_PR {t : TypeId} {v v' x x' : Value} (h : VR ρ v v') (hx : VR ρ x x') : PR P (VR ρ) (Instr.index t v x) (Instr.index t v' x') := by
  unfold Instr.index
  refine .bind (asInt_PR hx) ?_
  rintro ⟨k, i⟩ _ rfl
  refine .same fun d => ?_
  cases d with
  | array len elem =>
    cases h with
    | agg a a' ha ra =>
      simp only
      split
      · exact .same fun n => part_PR (LR.of_arr ha ra) _
      · exact .fail (boundsPanic_none _ _ _ _)
    | _ => exact .fail rfl
  | string =>
    cases h with
    | string s =>
      simp only
      split
      · exact .ret (.int _ _)
      · exact .fail (boundsPanic_none _ _ _ _)
    | _ => exact .fail rfl
  | _ => exact .fail rfl

/-! ### Cells -/
theorem cells_LR {v v' : Value} (h : VR ρ v v') (hk : known v = true) : LR ρ v.cells.toList v'.cells.toList := by
  cases h with
  | agg a a' ha ra => exact .of_arr ha ra
  | unknown r v => simp [known] at hk
  | func f a b a' b' ha hb ra rb => exact .cons (.func f a b a' b' ha hb ra rb) .nil
  | tuple a a' ha ra => exact .cons (.tuple a a' ha ra) .nil
  | iface t v v' h => exact .cons (.iface t v v' h) .nil
  | yield l m h => exact .cons (.yield l m h) .nil
  | bool b => exact .cons (.bool b) .nil
  | int k n => exact .cons (.int k n) .nil
  | float k n => exact .cons (.float k n) .nil
  | complex k n m => exact .cons (.complex k n m) .nil
  | string s => exact .cons (.string s) .nil
  | nilFunc => exact .cons .nilFunc .nil
  | nilIface => exact .cons .nilIface .nil
  | nilPtr => exact .cons .nilPtr .nil
  | nilSlice l c => exact .cons (.nilSlice l c) .nil
  | nilMap => exact .cons .nilMap .nil
  | glob g k h => exact .cons (.glob g k h) .nil
  | ptr i k m h => exact .cons (.ptr i k m h) .nil
  | map i m h => exact .cons (.map i m h) .nil
  | slice i k len cap m h ho hl => exact .cons (.slice i k len cap m h ho hl) .nil
  | opened i k len cap capC m h ho hc hs hl => exact .cons (.opened i k len cap capC m h ho hc hs hl) .nil
  | empty i k off m h ho hz => exact .cons (.empty i k off m h ho hz) .nil
theorem LR.set {l l' : List Value} (h : LR ρ l l') {v v' : Value} (hv : VR ρ v v') : ∀ i, LR ρ (l.set i v) (l'.set i v') := by
  induction h with
  | nil => intro i; exact .nil
  | cons h t ih => intro i; cases i with
    | zero => exact .cons hv t
    | succ i => exact .cons h (ih i)
theorem foldSet (off : Nat) : ∀ {l l' : List Value}, LR ρ l l' → ∀ (k : Nat) {c c' : Array Value}, LR ρ c.toList c'.toList →
    LR ρ ((l.zipIdx k).foldl (fun (cs : Array Value) (p : Value × Nat) => cs.setIfInBounds (off + p.2) p.1) c).toList ((l'.zipIdx k).foldl (fun (cs : Array Value) (p : Value × Nat) => cs.setIfInBounds (off + p.2) p.1) c').toList := by
  intro l l' h
  induction h with
  | nil => intro k c c' hc; exact hc
  | cons hv _ ih =>
    intro k c c' hc
    simp only [List.zipIdx_cons, List.foldl_cons]
    refine ih (k + 1) ?_
    simp only [Array.toList_setIfInBounds]
    exact hc.set hv _
/-- Parts: the same places, related values. -/
inductive PartsR (ρ : Ren) : List (Nat × Value) → List (Nat × Value) → Prop
  | nil : PartsR ρ [] []
  | cons {i : Nat} {v v' : Value} {l l' : List (Nat × Value)} (h : VR ρ v v') (hk : known v = true) (t : PartsR ρ l l') : PartsR ρ ((i, v) :: l) ((i, v') :: l')
theorem fill_LR (place : Nat → Option (Nat × Nat)) : ∀ {l l' : List (Nat × Value)}, PartsR ρ l l' → ∀ {c c' r : Array Value}, LR ρ c.toList c'.toList → Instr.fill place c l = some r →
    ∃ r', Instr.fill place c' l' = some r' ∧ LR ρ r.toList r'.toList := by
  intro l l' h
  induction h with
  | nil => intro c c' r hc e; simp only [Instr.fill, Option.some.injEq] at e; subst e; exact ⟨c', rfl, hc⟩
  | @cons i v v' l l' hv hk _ ih =>
    intro c c' r hc e
    have hcl := cells_LR hv hk
    have hs := hcl.size
    have hs2 := hc.size
    simp only [Instr.fill] at e ⊢
    cases hp : place i with
    | none => simp [hp] at e
    | some q =>
      obtain ⟨off, size⟩ := q
      simp only [hp] at e ⊢
      rw [hs, hs2] at e
      split at e
      · cases e
      · rename_i hn
        rw [if_neg hn]
        refine ih ?_ e
        have key : ∀ (a c0 : Array Value), Array.foldl (fun (cs : Array Value) (x : Value × Nat) => cs.setIfInBounds (off + x.2) x.1) c0 a.zipIdx =
            (a.toList.zipIdx).foldl (fun (cs : Array Value) (x : Value × Nat) => cs.setIfInBounds (off + x.2) x.1) c0 := by
          intro a c0
          rw [← Array.foldl_toList, Array.toList_zipIdx]
        have h3 := foldSet (ρ := ρ) off hcl 0 hc
        rw [← key, ← key] at h3
        exact h3
theorem zeroValue_PR {t : TypeId} {z : Value} (hz : (P.info? t).bind (·.zero) = some z) : PR P (fun a b => a = z ∧ b = z) (zeroValue t) (zeroValue t) := by
  cases hi : P.info? t with
  | none => simp [hi] at hz
  | some i =>
    have hz' : i.zero = some z := by simpa [hi] using hz
    unfold zeroValue typeInfo
    refine .bind (R := fun a b => a = i ∧ b = i) (.program ?_) ?_
    · show PR P _ (match P.info? t with | some i => Pure.pure i | none => Go.stuck "no such type") (match P.info? t with | some i => Pure.pure i | none => Go.stuck "no such type")
      rw [hi]
      exact .pure ⟨rfl, rfl⟩
    · rintro _ _ ⟨rfl, rfl⟩
      rw [hz']
      exact .pure ⟨rfl, rfl⟩
theorem build_PR {t : TypeId} {l l' : Array (Nat × Value)} (h : PartsR ρ l.toList l'.toList) {z : Value} (hz : (P.info? t).bind (·.zero) = some z) (hp : plain 8 z = true) :
    PR P (VR ρ) (Instr.build t l) (Instr.build t l') := by
  unfold Instr.build
  refine .bind (zeroValue_PR hz) ?_
  rintro a b ⟨ha, hb⟩
  rw [ha, hb]
  have hzc : LR ρ z.cells.toList z.cells.toList := by
    have hv := plain_refl ρ 8 z hp
    refine cells_LR hv ?_
    cases z <;> first | rfl | (simp [plain] at hp)
  refine PR.same (P := P) (e := underlying t) fun d => ?_
  cases d with
  | struct fields =>
    refine .same fun places => ?_
    cases e : Instr.fill (places[·]?) z.cells l.toList with
    | none => exact .fail rfl
    | some r =>
      obtain ⟨r', e', hr⟩ := fill_LR _ h hzc e
      simp only [e']
      exact .ret (VR.agg' hr)
  | array n elem =>
    refine .same fun size => ?_
    cases e : Instr.fill (fun i => some (i * size, size)) z.cells l.toList with
    | none => exact .fail rfl
    | some r =>
      obtain ⟨r', e', hr⟩ := fill_LR _ h hzc e
      simp only [e']
      exact .ret (VR.agg' hr)
  | _ => exact .fail rfl

end Go.Abs

/- Slices, lengths, comparisons with nil: the evaluator against the machine. -/
namespace Go.Abs
open Go.RowKit
variable {P : Program} {ρ : Ren}

inductive OptR (ρ : Ren) : Option Value → Option Value → Prop
  | none : OptR ρ none none
  | some {v v' : Value} (h : VR ρ v v') : OptR ρ (some v) (some v')

theorem sliceBound_PR {v v' : Value} (h : VR ρ v v') {y y' : Nat} (hy : y ≤ y') (c : BoundsCode) : PR P (fun a b => a = b ∧ a ≤ y) (Instr.sliceBound v y c) (Instr.sliceBound v' y' c) := by
  unfold Instr.sliceBound
  refine .bind (asInt_PR h) ?_
  rintro ⟨k, i⟩ _ rfl
  dsimp only
  by_cases hi : 0 ≤ i ∧ i ≤ (y : Int)
  · have hi' : 0 ≤ i ∧ i ≤ (y' : Int) := ⟨hi.1, by omega⟩
    simp only [hi, hi', and_self, if_true]
    exact .ret ⟨rfl, by omega⟩
  · simp only [hi, if_false]
    exact .fail (boundsPanic_none _ _ _ _)

def BdR (lc : Prop) (mx : Option Value) (cap capC : Nat) (a b : Nat × Nat × Nat) : Prop :=
  a.1 = b.1 ∧ a.2.1 = b.2.1 ∧ (mx = none → a.2.2 = cap ∧ b.2.2 = capC) ∧ (mx ≠ none → a.2.2 = b.2.2 ∧ a.2.2 ≤ cap) ∧ a.1 ≤ a.2.1 ∧ (lc ∨ mx ≠ none → a.2.1 ≤ a.2.2)
theorem low_PR {lc : Prop} {lo lo' mx : Option Value} {cap capC : Nat} (hlo : OptR ρ lo lo') (m m' : Nat) (h : Nat) (c : BoundsCode) (hm : (mx = none → m = cap ∧ m' = capC) ∧ (mx ≠ none → m = m' ∧ m ≤ cap)) (hh : lc ∨ mx ≠ none → h ≤ m) :
    PR P (BdR lc mx cap capC) (match (generalizing := false) lo with | some v => (do let l ← Instr.sliceBound v h c; Pure.pure (l, h, m)) | none => (do let l ← Pure.pure 0; Pure.pure (l, h, m)))
      (match (generalizing := false) lo' with | some v => (do let l ← Instr.sliceBound v h c; Pure.pure (l, h, m')) | none => (do let l ← Pure.pure 0; Pure.pure (l, h, m'))) := by
  cases hlo with
  | none => exact .bind (R := fun a b => a = 0 ∧ b = 0) (.ret ⟨rfl, rfl⟩) fun a b e => by obtain ⟨rfl, rfl⟩ := e; exact .ret ⟨rfl, rfl, hm.1, hm.2, Nat.zero_le _, hh⟩
  | some hv => exact .bind (sliceBound_PR hv (Nat.le_refl h) c) fun a b e => by obtain ⟨rfl, hl⟩ := e; exact .ret ⟨rfl, rfl, hm.1, hm.2, hl, hh⟩
theorem sliceBounds_PR {lc : Prop} {lo lo' hi hi' mx mx' : Option Value} (hlo : OptR ρ lo lo') (hhi : OptR ρ hi hi') (hmx : OptR ρ mx mx') (b : Bool) (len : Nat) {cap capC : Nat} (hc : cap ≤ capC) (hlc : lc → len ≤ cap) :
    PR P (BdR lc mx cap capC) (Instr.sliceBounds b len cap lo hi mx) (Instr.sliceBounds b len capC lo' hi' mx') := by
  unfold Instr.sliceBounds
  cases hmx with
  | none =>
    refine .bind (R := fun a b => a = cap ∧ b = capC) (.ret ⟨rfl, rfl⟩) ?_
    rintro a b ⟨ha, hb⟩
    cases hhi with
    | none =>
      refine .bind (R := fun a b => a = len ∧ b = len) (.ret ⟨rfl, rfl⟩) ?_
      rintro h h' ⟨hA, hB⟩
      rw [hA, hB]
      exact low_PR hlo _ _ len _ ⟨fun _ => ⟨ha, hb⟩, fun h => absurd rfl h⟩ (fun hx => hx.elim (fun l => by rw [ha]; exact hlc l) (fun h => absurd rfl h))
    | some hh =>
      refine .bind (sliceBound_PR hh (by rw [ha, hb]; exact hc) _) ?_
      rintro h _ ⟨rfl, hle⟩
      exact low_PR hlo _ _ h _ ⟨fun _ => ⟨ha, hb⟩, fun h => absurd rfl h⟩ (fun _ => hle)
  | some hm =>
    refine .bind (sliceBound_PR hm hc _) ?_
    rintro m _ ⟨rfl, hmc⟩
    cases hhi with
    | none => exact .fail rfl
    | some hh =>
      refine .bind (sliceBound_PR hh (Nat.le_refl m) _) ?_
      rintro h _ ⟨rfl, hhm⟩
      exact low_PR hlo _ _ h _ ⟨fun h => by simp at h, fun _ => ⟨rfl, hmc⟩⟩ (fun _ => hhm)

theorem size_run {t : TypeId} {n : Nat} (h : sizeP P t = some n) (w : World) : (sizeOf t).run P w = .ok n w := by
  unfold sizeP at h
  cases hi : P.info? t with
  | none => simp [hi] at h
  | some i =>
    simp only [hi, Option.map_some, Option.some.injEq] at h
    subst h
    have : (typeInfo t).run P w = .ok i w := by
      show Sem.run P (match P.info? t with | some i => Pure.pure i | none => Go.stuck "no such type") w = _
      rw [hi]; rfl
    simp [sizeOf, this]
theorem und_run {t : TypeId} {d : TypeDesc} (h : P.underlying t = some d) (w : World) : (underlying t).run P w = .ok d w := by
  show Sem.run P (match P.underlying t with | some d => Pure.pure d | none => Go.stuck "no such type") w = _
  rw [h]; rfl

/-- Slicing where the room behind the end is known, or bounded by a third index. -/
theorem sliceAt_PR {t : TypeId} {x x' : Value} (h : VR ρ x x') {lo lo' hi hi' mx mx' : Option Value} (hlo : OptR ρ lo lo') (hhi : OptR ρ hi hi') (hmx : OptR ρ mx mx')
    (hopen : ∀ i k len cap m, x = .slice (some ⟨i, k, none⟩) len cap → ρ i = some m → m.isOpen k cap = true → mx ≠ none)
    (hglob : ∀ a, x = .pointer (some a) → gbase ≤ a.block) :
    PR P (VR ρ) (Instr.sliceAt t x lo hi mx) (Instr.sliceAt t x' lo' hi' mx') := by
  unfold Instr.sliceAt
  refine .same fun d => ?_
  have tail : ∀ (i k : Nat) (mm : Meta) (_ : ρ i = some mm) (n : Nat) (elem : TypeId),
      PR P (VR ρ) (do let (l, h, m) ← Instr.sliceBounds false n n lo hi mx; let size ← sizeOf elem; Pure.pure (.slice (some (if m = l then (⟨i, k, none⟩ : Addr) else (⟨i, k, none⟩ : Addr).add (l * size))) (h - l) (m - l)))
        (do let (l, h, m) ← Instr.sliceBounds false n n lo' hi' mx'; let size ← sizeOf elem; Pure.pure (.slice (some (if m = l then (⟨mm.b, mm.o + k, none⟩ : Addr) else (⟨mm.b, mm.o + k, none⟩ : Addr).add (l * size))) (h - l) (m - l))) := by
    intro i k mm hm n elem
    refine .bind (sliceBounds_PR (lc := True) hlo hhi hmx false n (Nat.le_refl n) (fun _ => Nat.le_refl n)) ?_
    rintro ⟨l, h, m⟩ ⟨l', h', m'⟩ ⟨e1, e2, e3, e4, e8, e9⟩
    simp only at e1 e2 e3 e4
    have e5 : m = m' := by
      by_cases hn : mx = none
      · rw [(e3 hn).1, (e3 hn).2]
      · exact (e4 hn).1
    subst e1 e2 e5
    refine .same fun size => .ret ?_
    split
    · exact mkSlice hm _ _ _ (by have := e9 (.inl trivial); simp only at this; omega)
    · simp only [Addr.add]
      split
      · exact mkSlice hm _ _ _ (by have := e9 (.inl trivial); simp only at this; omega)
      · rw [Nat.add_assoc]; exact mkSlice hm _ _ _ (by have := e9 (.inl trivial); simp only at this; omega)
  have rest : PR P (VR ρ) (Instr.slice t x lo hi mx) (Instr.slice t x' lo' hi' mx') := by
    unfold Instr.slice
    refine .same fun d => ?_
    cases d with
    | string =>
      cases h with
      | string s =>
        dsimp only
        cases hmx with
        | none =>
          refine .bind (sliceBounds_PR (lc := True) hlo hhi .none false s.size (Nat.le_refl s.size) (fun _ => Nat.le_refl _)) ?_
          rintro ⟨l, h, m⟩ ⟨l', h', m'⟩ ⟨e1, e2, _⟩
          simp only at e1 e2
          subst e1 e2
          exact .ret (.string _)
        | some hm => exact .fail rfl
      | _ => exact .fail rfl
    | slice elem =>
      cases h with
      | nilSlice len cap =>
        refine .bind (sliceBounds_PR (lc := False) hlo hhi hmx true len (Nat.le_refl cap) (fun h => h.elim)) ?_
        rintro ⟨l, h, m⟩ ⟨l', h', m'⟩ ⟨e1, e2, e3, e4, e8, e9⟩
        simp only at e1 e2 e3 e4
        have e5 : m = m' := by
          by_cases hn : mx = none
          · rw [(e3 hn).1, (e3 hn).2]
          · exact (e4 hn).1
        subst e1 e2 e5
        refine .same fun size => .ret ?_
        split <;> exact .nilSlice _ _
      | slice i k len cap m hm ho hl =>
        refine .bind (sliceBounds_PR (lc := True) hlo hhi hmx true len (Nat.le_refl cap) (fun _ => hl)) ?_
        rintro ⟨l, h, mm⟩ ⟨l', h', m'⟩ ⟨e1, e2, e3, e4, e8, e9⟩
        simp only at e1 e2 e3 e4
        have e5 : mm = m' := by
          by_cases hn : mx = none
          · rw [(e3 hn).1, (e3 hn).2]
          · exact (e4 hn).1
        subst e1 e2 e5
        refine .same fun size => .ret ?_
        split
        · exact mkSlice hm _ _ _ (by have := e9 (.inl trivial); simp only at this; omega)
        · have := AdR.add (AdR.own (ρ := ρ) i k m hm) (l * size)
          simp only [Option.map_some, Addr.add]
          split
          · exact mkSlice hm _ _ _ (by have := e9 (.inl trivial); simp only at this; omega)
          · rw [Nat.add_assoc]; exact mkSlice hm _ _ _ (by have := e9 (.inl trivial); simp only at this; omega)
      | opened i k len cap capC m hm ho hc hs hl =>
        have hn := hopen i k len cap m rfl hm ho
        refine .bind (sliceBounds_PR (lc := True) hlo hhi hmx true len hc (fun _ => hl)) ?_
        rintro ⟨l, h, mm⟩ ⟨l', h', m'⟩ ⟨e1, e2, e3, e4, e8, e9⟩
        simp only at e1 e2 e3 e4
        have e5 := (e4 hn).1
        subst e1 e2 e5
        refine .same fun size => .ret ?_
        split
        · exact mkSlice hm _ _ _ (by have := e9 (.inl trivial); simp only at this; omega)
        · simp only [Option.map_some, Addr.add]
          split
          · exact mkSlice hm _ _ _ (by have := e9 (.inl trivial); simp only at this; omega)
          · rw [Nat.add_assoc]; exact mkSlice hm _ _ _ (by have := e9 (.inl trivial); simp only at this; omega)
      | empty i k off m hm ho hz =>
        have hn := hopen i k 0 0 m rfl hm ho
        refine .bind (sliceBounds_PR (lc := True) hlo hhi hmx true 0 (Nat.le_refl 0) (fun _ => Nat.le_refl 0)) ?_
        rintro ⟨l, h, mm⟩ ⟨l', h', m'⟩ ⟨e1, e2, e3, e4, e8, e9⟩
        simp only at e1 e2 e3 e4 e8 e9
        obtain ⟨e5, e6⟩ := e4 hn
        have e10 := e9 (.inl trivial)
        subst e1 e2 e5
        obtain rfl : mm = 0 := by omega
        obtain rfl : h = 0 := by omega
        obtain rfl : l = 0 := by omega
        refine .same fun size => .ret ?_
        simp only [if_true]
        exact .empty i k off m hm ho hz
      | _ => exact .fail rfl
    | pointer arr =>
      cases h with
      | glob g k hg => have := hglob _ rfl; simp at this; unfold gbase abase at *; omega
      | ptr i k m hm =>
        refine .bind (R := fun a b => a = ⟨i, k, none⟩ ∧ b = ⟨m.b, m.o + k, none⟩) (.pure ⟨rfl, rfl⟩) ?_
        rintro a b ⟨ha, hb⟩
        refine .same fun d => ?_
        cases d with
        | array n elem => rw [ha, hb]; exact tail i k m hm n elem
        | _ => exact .fail rfl
      | nilPtr => exact .fail (by show pureRun P (Sem.bind (runtimePanic .nilDeref) _) = none; rw [pureRun_bind, runtimePanic_none]; rfl)
      | _ => exact .fail rfl
    | _ => exact .fail rfl
  cases d with
  | array n elem =>
    cases h with
    | glob g k hg => have := hglob _ rfl; simp at this; unfold gbase abase at *; omega
    | ptr i k m hm =>
      refine .bind (R := fun a b => a = ⟨i, k, none⟩ ∧ b = ⟨m.b, m.o + k, none⟩) (.pure ⟨rfl, rfl⟩) ?_
      rintro a b ⟨ha, hb⟩
      rw [ha, hb]
      exact tail i k m hm n elem
    | _ => exact .fail rfl
  | _ => exact rest

end Go.Abs

/- The abstract heap against the machine's memory. -/
namespace Go.Abs
open Go.RowKit
variable {P : Program} {ρ : Ren}

/-- Entries of a map. -/
inductive ER (ρ : Ren) : List MapEntry → List MapEntry → Prop
  | nil : ER ρ [] []
  | cons {e e' : MapEntry} {l l' : List MapEntry} (k : VR ρ e.key e'.key) (kk : plain 1 e.key = true) (v : VR ρ e.val e'.val) (b : e.born = e'.born) (t : ER ρ l l') : ER ρ (e :: l) (e' :: l')
theorem ER.mono {ρ' : Ren} (h : ρ.le ρ') {l l' : List MapEntry} (r : ER ρ l l') : ER ρ' l l' := by
  induction r with
  | nil => exact .nil
  | cons k kk v b _ ih => exact .cons (k.mono h) kk (v.mono h) b ih

/-- The slots of an activation. -/
structure ActR (ρ : Ren) (A : AAct) (a : Act) : Prop where
  size : a.tmps.size = A.size
  slot : ∀ t, VR ρ (A.slot t) (a.tmps.getD t undef)
  defers : a.defers.length = A.defers.length ∧ ∀ (j : Nat) (D : Nat), A.defers[j]? = some D → ∃ m, ρ D = some m ∧ a.defers[j]? = some { target := .collected m.b, args := #[] }
theorem ActR.mono {ρ' : Ren} (h : ρ.le ρ') {A : AAct} {a : Act} (r : ActR ρ A a) : ActR ρ' A a :=
  ⟨r.size, fun t => (r.slot t).mono h, r.defers.1, fun j D e => let ⟨m, h1, h2⟩ := r.defers.2 j D e; ⟨m, h _ _ h1, h2⟩⟩

structure LoopR (ρ : Ren) (l : ALoop) (L : Loop) : Prop where
  state : L.state = l.state
  pending : L.pending = l.pending
  size : L.tmps.size = l.act.size
  slot : ∀ t, VR ρ (l.act.slot t) (L.tmps.getD t undef)
  params : L.params = l.params
  assign : L.assign = l.assign
  body : L.body = l.body
  defers : ∃ m, ρ l.defers = some m ∧ L.defers = m.b
theorem LoopR.mono {ρ' : Ren} (h : ρ.le ρ') {l : ALoop} {L : Loop} (r : LoopR ρ l L) : LoopR ρ' l L :=
  ⟨r.state, r.pending, r.size, fun t => (r.slot t).mono h, r.params, r.assign, r.body, let ⟨m, h1, h2⟩ := r.defers; ⟨m, h _ _ h1, h2⟩⟩

def AObj.isYld : AObj → Bool
  | .yld _ _ => true
  | _ => false
def AObj.alive : AObj → Bool
  | .dead _ _ _ | .taken => false
  | _ => true

def ObjR (ρ : Ren) (w : World) (m : Meta) : AObj → Prop
  | .yld _ _ => True
  | .cells cs _ opn es => m.known = cs.length ∧ m.opn = opn ∧ m.es = es ∧ ∃ c ty', w.heap[m.b]? = some (.cells c ty' (0, 0)) ∧ c.size = m.size ∧ LR ρ cs ((c.toList.drop m.o).take cs.length)
  | .dead n opn es => m.known = n ∧ m.opn = opn ∧ m.es = es
  | .map es clock => ∃ es', w.heap[m.b]? = some (.map es' clock) ∧ ER ρ es es'.toList
  | .loop l => ∃ L, w.heap[m.b]? = some (.loop L) ∧ LoopR ρ l L
  | .deferred => w.heap[m.b]? = some (.deferred (some []))
  | .taken => True
  | .siter _ _ => False
  | .sym cs opn es => (m.known = cs.length ∧ m.opn = opn ∧ m.es = es ∧ ∃ c ty' fz, (w.heap[m.b]? = some (.cells c ty' fz) ∧ (opn = true → fz = (0, 0))) ∧ c.size = m.size ∧ LR ρ cs ((c.toList.drop m.o).take cs.length)) ∧ ∀ v ∈ cs, cellP v = true
theorem ObjR.mono {ρ' : Ren} (h : ρ.le ρ') {w w' : World} {m : Meta} {o : AObj} (hb : o.alive = true → w'.heap[m.b]? = w.heap[m.b]?) (r : ObjR ρ w m o) : ObjR ρ' w' m o := by
  cases o with
  | cells cs ty opn es => obtain ⟨a, b, c, d, e, f, g, i⟩ := r; exact ⟨a, b, c, d, e, (hb rfl).trans f, g, i.mono h⟩
  | dead n opn es => exact r
  | map es clock => obtain ⟨a, b, c⟩ := r; exact ⟨a, (hb rfl).trans b, c.mono h⟩
  | loop l => obtain ⟨a, b, c⟩ := r; exact ⟨a, (hb rfl).trans b, c.mono h⟩
  | deferred => exact (hb rfl).trans r
  | taken => trivial
  | siter s p => exact r
  | yld _ _ => trivial
  | sym cs opn es => obtain ⟨⟨a, b, c, d, e, z, f, g, i⟩, j⟩ := r; exact ⟨⟨a, b, c, d, e, z, ⟨(hb rfl).trans f.1, f.2⟩, g, i.mono h⟩, j⟩

theorem cellP_plain {v : Value} (h : cellP v = true) : plain 8 v = true := by simp only [cellP, Bool.and_eq_true] at h; exact h.1
def Heap.live (H : Heap) (i : Nat) : Prop := ∃ o, H.get i = some o ∧ o.alive = true

/-- What a package-level variable of the library holds. -/
inductive VarKind where
  | tab (k : IntKind) (zs : List Int)
  | int
  | iface
def VarKind.ok : VarKind → Option Obj → Prop
  | .tab k zs, o => ∃ ty fz, o = some (.cells (zs.map fun z => Value.int k z).toArray ty fz)
  | .int, o => ∃ c ty fz n, o = some (.cells c ty fz) ∧ c[0]? = some (.int .i64 n)
  | .iface, o => ∃ c ty fz v, o = some (.cells c ty fz) ∧ c[0]? = some v ∧ (v = .nilIface ∨ ∃ te pe, v = .iface te pe)
theorem VarKind.ok_some {k : VarKind} {o : Option Obj} (h : k.ok o) : o.isSome = true := by
  cases k with
  | tab k zs => obtain ⟨_, _, rfl⟩ := h; rfl
  | int => obtain ⟨_, _, _, _, rfl, _⟩ := h; rfl
  | iface => obtain ⟨_, _, _, _, rfl, _⟩ := h; rfl
/-- The powers of ten that fit. -/
def pow10s : List Int := (List.range 20).map fun i => ((10 ^ i : Nat) : Int)
def wantedVars : List (String × VarKind) := [("internal/strconv.uint64pow10", .tab .u64 pow10s), ("internal/bytealg.MaxLen", .int), ("strconv.ErrSyntax", .iface), ("strconv.ErrRange", .iface)]
/-- The variables of a program that the library's contracts ask for. -/
def varsOf (P : Program) : List (Nat × VarKind) := wantedVars.filterMap fun p => (P.globalNamed p.1).map fun g => (g, p.2)
/-- They hold what they should. -/
def GoodW (P : Program) (w : World) : Prop := ∀ p ∈ varsOf P, p.2.ok w.heap[p.1]?
/-- Where a call begins: the world, and where the blocks lie that it was handed; blocks that are its own from the beginning; blocks that others change (the rounds of a range over a function); what is known of these rounds: what is still to be handed to them, the blocks that they change, the block of their record. -/
structure Start (P : Program) where
  w : World
  pin : Ren
  mine : Nat → Prop := fun _ => False
  free : Nat → Prop := fun _ => False
  it : Bool → Option (List (List D)) → (Nat → Prop) → Nat → World → Prop := fun _ _ _ _ _ => False
def Start.of (P : Program) (w : World) (p : Ren) : Start P := { w := w, pin := p }
/-- May a block be written that was there? -/
def Start.own (s : Start P) (k : Nat) : Prop := (∃ i m, mbase ≤ i ∧ i < gbase ∧ s.pin i = some m ∧ m.b = k) ∨ s.mine k
def Start.may (s : Start P) (k : Nat) : Prop := s.own k ∨ s.free k
/-- What is kept of the world at the beginning. -/
structure Kept (s : Start P) (w : World) : Prop where
  os : w.os = s.w.os
  tape : w.tape = s.w.tape
  output : w.output = s.w.output
  size : s.w.heap.size ≤ w.heap.size
  block : ∀ k, k < s.w.heap.size → ¬ s.may k → w.heap[k]? = s.w.heap[k]?
theorem Kept.of_below {s : Start P} {w w' : World} (h : Kept s w) (hb : Below w.heap.size w w') : Kept s w' :=
  ⟨hb.os.trans h.os, hb.tape.trans h.tape, hb.output.trans h.output, Nat.le_trans h.size hb.size, fun k hk hm => (hb.block k (Nat.lt_of_lt_of_le hk h.size)).trans (h.block k hk hm)⟩
theorem Kept.alloc {s : Start P} {w : World} (h : Kept s w) (obj : Obj) : Kept s (w.alloc obj) := h.of_below ((Below.refl _ w).alloc (Nat.le_refl _) obj)
theorem Kept.drew {s : Start P} {w : World} (h : Kept s w) : Kept s w.drew := ⟨h.os, h.tape, h.output, h.size, h.block⟩
theorem Kept.refl (s : Start P) : Kept s s.w := ⟨rfl, rfl, rfl, Nat.le_refl _, fun _ _ _ => rfl⟩
/-- A call that may write nothing that was there. -/
structure Start.still (s : Start P) : Prop where
  pin : ∀ i, mbase ≤ i → i < gbase → s.pin i = none
  mine : ∀ k, ¬ s.mine k
  free : ∀ k, ¬ s.free k
theorem Start.still.may {s : Start P} (h : s.still) (k : Nat) : ¬ s.may k := by
  rintro ((⟨i, m, h1, h2, h3, _⟩ | h1) | h1)
  · rw [h.pin i h1 h2] at h3; cases h3
  · exact h.mine k h1
  · exact h.free k h1
theorem still_of {w : World} {p : Ren} (h : ∀ i, mbase ≤ i → i < gbase → p i = none) : (Start.of P w p).still := ⟨h, fun _ h => h, fun _ h => h⟩
theorem Kept.below {s : Start P} {w' : World} (h : Kept s w') (hs : s.still) : Below s.w.heap.size s.w w' :=
  ⟨h.os, h.tape, h.output, h.size, fun k hk => h.block k hk (hs.may k)⟩

mutual
/-- A value reads as data. -/
inductive Reads (w : World) : D → Value → Prop
  | val (v : Value) (h : plain 8 v = true) : Reads w (.val v) v
  | agg (ds : List D) (vs : List Value) (h : ReadsL w ds vs) : Reads w (.agg ds) (.agg vs.toArray)
  | nil : Reads w .nil (.slice none 0 0)
  | sl (n es : Nat) (cs : List Value) (b o cap : Nat) (c : Array Value) (ty : TypeId) (fz : Nat × Nat) (hb : w.heap[b]? = some (.cells c ty fz)) (hs : o + cs.length ≤ c.size)
      (hc : (c.toList.drop o).take cs.length = cs) (hn : cs.length = n * es) (hp : ∀ v ∈ cs, cellP v = true) (hl : n ≤ cap) : Reads w (.sl n es cs) (.slice (some ⟨b, o, none⟩) n cap)
inductive ReadsL (w : World) : List D → List Value → Prop
  | nil : ReadsL w [] []
  | cons {d : D} {v : Value} {ds : List D} {vs : List Value} (h : Reads w d v) (t : ReadsL w ds vs) : ReadsL w (d :: ds) (v :: vs)
end
/-- The fence in which code is walked. -/
def Fr : Option Nat → Fence
  | none => Fence.wide
  | some l => Fence.wide.inRound l
open Classical in
/-- The world without the blocks that others change. -/
noncomputable def hide (F : Nat → Prop) (w : World) : World := { w with heap := Array.ofFn fun i : Fin w.heap.size => if F i then .deferred none else w.heap[i] }
theorem hide_size (F : Nat → Prop) (w : World) : (hide F w).heap.size = w.heap.size := by simp [hide]
theorem hide_off {F : Nat → Prop} {w : World} {k : Nat} (h : ¬ F k) : (hide F w).heap[k]? = w.heap[k]? := by
  by_cases hk : k < w.heap.size
  · simp [hide, hk, h]
  · simp [hide, hk]
theorem hide_cells {F : Nat → Prop} {w : World} {k : Nat} {c : Array Value} {ty : TypeId} {fz : Nat × Nat} (h : (hide F w).heap[k]? = some (.cells c ty fz)) : ¬ F k ∧ w.heap[k]? = some (.cells c ty fz) := by
  by_cases hf : F k
  · by_cases hk : k < w.heap.size
    · simp [hide, hk, hf] at h
    · simp [hide, hk] at h
  · rw [hide_off hf] at h; exact ⟨hf, h⟩
/-- What is asked of the rounds of a range over a function. -/
structure ItOK (s : Start P) : Prop where
  bound : ∀ {own rest F l w}, s.it own rest F l w → ∀ k, F k → k < w.heap.size
  free : ∀ {own rest F l w}, s.it own rest F l w → ∀ k, F k → k < s.w.heap.size → s.free k
  stable : ∀ {own rest F l w w'}, s.it own rest F l w → w'.os = w.os → w'.tape = w.tape → w'.output = w.output → w.heap.size ≤ w'.heap.size →
    (∀ k, k < w.heap.size → ((k < s.w.heap.size ∧ ¬ s.may k) ∨ F k) → w'.heap[k]? = w.heap[k]?) → s.it own rest F l w'
  round : ∀ {row rest F l w}, s.it false (some (row :: rest)) F l w → ∀ args' : Array Value, ReadsL (hide F w) row args'.toList → ∃ L, w.heap[l]? = some (.loop L) ∧ L.params.size = args'.size ∧
    ∀ rC n, RoundIn (Fr rC) n P l L.fn ((L.params.zip args').foldl (fun tmps (t, a) => tmps.setIfInBounds t a) L.tmps) L.assign L.body w fun e w' =>
      ∃ b F', e = .returned (.bool b) ∧ s.it false (if b = true then some rest else none) F' l w' ∧ w'.os = w.os ∧ w'.tape = w.tape ∧ w'.output = w.output ∧ w.heap.size ≤ w'.heap.size ∧
        (∀ k, k < w.heap.size → ¬ F k → w'.heap[k]? = w.heap[k]?) ∧ (∀ k, F' k → F k ∨ w.heap.size ≤ k)
def Start.quiet (s : Start P) : Prop := ∀ {own rest F l w}, ¬ s.it own rest F l w
theorem Start.quiet.ok {s : Start P} (h : s.quiet) : ItOK s := ⟨fun h' => (h h').elim, fun h' => (h h').elim, fun h' => (h h').elim, fun h' => (h h').elim⟩
theorem quiet_of (w : World) (p : Ren) : (Start.of P w p).quiet := fun h => h

/-- Where the rounds stand. -/
def YldR (w0 : Start P) (ρ : Ren) (H : Heap) (w : World) : Prop :=
  ∀ own rest, H.get ynum = some (.yld own rest) → ∃ m F, ρ ynum = some m ∧ w0.it own rest F m.b w ∧ ∀ j n, ρ j = some n → H.live j → j ≠ ynum → ¬ F n.b

structure Gam (w0 : Start P) (ρ : Ren) (H : Heap) (w : World) : Prop where
  gb : gbase ≤ H.next
  fresh : ∀ i, H.next ≤ i → ρ i = none
  below : Kept w0 w
  own : ∀ i m, ρ i = some m → m.b < w.heap.size ∧ (gbase ≤ i → w0.w.heap.size ≤ m.b ∨ w0.mine m.b)
  glob : ∀ i m, ρ i = some m → i < abase → m.b = i ∧ m.o = 0
  inj : ∀ i j mi mj, mbase ≤ i → H.live i → H.live j → ρ i = some mi → ρ j = some mj → mi.b = mj.b → i = j
  obj : ∀ i m o, ρ i = some m → H.get i = some o → ObjR ρ w m o
  gmap : ∀ i, i < abase ∨ (mbase ≤ i ∧ i < gbase) → H.get i ≠ none → ∃ m, ρ i = some m
  pins : ∀ i m, hbase ≤ i → i < gbase → ρ i = some m → w0.pin i = some m
  vars : ∀ p ∈ varsOf P, p.2.ok w0.w.heap[p.1]? ∧ ¬ w0.may p.1
  itok : ItOK w0
  yld : YldR w0 ρ H w

/-- What a step keeps. -/
structure Ext (ρ ρ' : Ren) (H H' : Heap) : Prop where
  le : ρ.le ρ'
  next : H.next ≤ H'.next
  keep : ∀ i, i < H.next → ρ i = none → ρ' i = none ∧ H'.get i = H.get i
theorem Ext.refl (ρ : Ren) (H : Heap) : Ext ρ ρ H H := ⟨ρ.le_refl, Nat.le_refl _, fun _ _ h => ⟨h, rfl⟩⟩
theorem Ext.trans {a b c : Ren} {H I J : Heap} (h : Ext a b H I) (k : Ext b c I J) : Ext a c H J :=
  ⟨Ren.le_trans h.le k.le, Nat.le_trans h.next k.next, fun i hi hn => let ⟨h1, h2⟩ := h.keep i hi hn; let ⟨k1, k2⟩ := k.keep i (Nat.lt_of_lt_of_le hi h.next) h1; ⟨k1, k2.trans h2⟩⟩

variable {w0 : Start P} {w : World} {H : Heap}
theorem Gam.drawn (g : Gam w0 ρ H w) (d : Nat) : Gam w0 ρ H { w with drawn := d } :=
  ⟨g.gb, g.fresh, ⟨g.below.os, g.below.tape, g.below.output, g.below.size, g.below.block⟩, g.own, g.glob, g.inj, fun i m o hm ho => (g.obj i m o hm ho).mono ρ.le_refl (fun _ => rfl), g.gmap, g.pins, g.vars, g.itok,
    fun own rest hy => let ⟨m, F, h1, h2, h3⟩ := g.yld own rest hy; ⟨m, F, h1, g.itok.stable h2 rfl rfl rfl (Nat.le_refl _) (fun _ _ _ => rfl), h3⟩⟩
/-- The rounds stand where they stood: nothing that they need has changed. -/
theorem Gam.yld_step (g : Gam w0 ρ H w) {ρ' : Ren} {H' : Heap} {w' : World} (hy : ∀ own rest, H'.get ynum = some (.yld own rest) → H.get ynum = some (.yld own rest)) (hle : ∀ m, ρ ynum = some m → ρ' ynum = some m)
    (h1 : w'.os = w.os) (h2 : w'.tape = w.tape) (h3 : w'.output = w.output) (hs : w.heap.size ≤ w'.heap.size)
    (hw : ∀ k, k < w.heap.size → w'.heap[k]? = w.heap[k]? ∨ ∃ j n, ρ j = some n ∧ H.live j ∧ j ≠ ynum ∧ mbase ≤ j ∧ n.b = k)
    (hl : ∀ j n, ρ' j = some n → H'.live j → j ≠ ynum → (∃ j2 n2, ρ j2 = some n2 ∧ H.live j2 ∧ j2 ≠ ynum ∧ n2.b = n.b) ∨ w.heap.size ≤ n.b) : YldR w0 ρ' H' w' := by
  intro own rest hget
  obtain ⟨m, F, hm, hit, hd⟩ := g.yld own rest (hy _ _ hget)
  refine ⟨m, F, hle _ hm, g.itok.stable hit h1 h2 h3 hs (fun k hk hc => ?_), fun j n hj hlj hne hF => ?_⟩
  · rcases hw k hk with h | ⟨j, n, hj, hlj, hne, hmj, rfl⟩
    · exact h
    · exfalso
      rcases hc with ⟨hc1, hc2⟩ | hc
      · rcases Nat.lt_or_ge j gbase with hlt | hge
        · exact hc2 (.inl (.inl ⟨j, n, hmj, hlt, g.pins j n (Nat.le_trans (by decide) hmj) hlt hj, rfl⟩))
        · rcases (g.own j n hj).2 hge with h | h
          · omega
          · exact hc2 (.inl (.inr h))
      · exact hd j n hj hlj hne hc
  · rcases hl j n hj hlj hne with ⟨j2, n2, q1, q2, q3, q4⟩ | h
    · exact hd j2 n2 q1 q2 q3 (by rw [q4]; exact hF)
    · have := g.itok.bound hit _ hF; omega
theorem Gam.good (g : Gam w0 ρ H w) : GoodW P w := fun p hp => by
  obtain ⟨h1, h2⟩ := g.vars p hp
  have := VarKind.ok_some h1
  rw [g.below.block p.1 (by
    rcases Nat.lt_or_ge p.1 w0.w.heap.size with h | h
    · exact h
    · rw [Array.getElem?_eq_none h] at this; cases this) h2]
  exact h1
theorem vars_still {s : Start P} (hg : GoodW P s.w) (hs : s.still) : ∀ q ∈ varsOf P, q.2.ok s.w.heap[q.1]? ∧ ¬ s.may q.1 :=
  fun q hq => ⟨hg q hq, hs.may q.1⟩
/-- A round has been carried out. -/
theorem Gam.round (g : Gam w0 ρ H w) {own : Bool} {r r' : Option (List (List D))} {m : Meta} {F F' : Nat → Prop} {w' : World} (hget : H.get ynum = some (.yld own r)) (hm : ρ ynum = some m) (hd : ∀ j n, ρ j = some n → H.live j → j ≠ ynum → ¬ F n.b)
    (hit : w0.it own r F m.b w) (hit' : w0.it own r' F' m.b w') (h1 : w'.os = w.os) (h2 : w'.tape = w.tape) (h3 : w'.output = w.output) (hs : w.heap.size ≤ w'.heap.size)
    (hk : ∀ k, k < w.heap.size → ¬ F k → w'.heap[k]? = w.heap[k]?) (hF : ∀ k, F' k → F k ∨ w.heap.size ≤ k) : Gam w0 ρ (H.set ynum (.yld own r')) w' ∧ Ext ρ ρ H (H.set ynum (.yld own r')) := by
  have live : ∀ j, (H.set ynum (.yld own r')).live j → H.live j := by
    rintro j ⟨o, ho, ha⟩
    rw [Heap.get_set] at ho
    split at ho
    · rename_i e; exact ⟨_, by rw [e]; exact hget, rfl⟩
    · exact ⟨o, ho, ha⟩
  refine ⟨⟨g.gb, g.fresh, ⟨h1.trans g.below.os, h2.trans g.below.tape, h3.trans g.below.output, Nat.le_trans g.below.size hs, fun k hk' hm' => ?_⟩, fun i n hi => ⟨Nat.lt_of_lt_of_le (g.own i n hi).1 hs, (g.own i n hi).2⟩, g.glob,
    fun i j mi mj hgi hi hj => g.inj i j mi mj hgi (live i hi) (live j hj), fun i n o hi ho => ?_, fun i hi hn => ?_, g.pins, g.vars, g.itok, fun own2 rest2 h => ?_⟩, ⟨ρ.le_refl, Nat.le_refl _, fun i hi hn => ⟨hn, ?_⟩⟩⟩
  · refine (hk k (Nat.lt_of_lt_of_le hk' g.below.size) (fun hf => ?_)).trans (g.below.block k hk' hm')
    exact hm' (.inr (g.itok.free hit k hf hk'))
  · rw [Heap.get_set] at ho
    split at ho
    · cases ho; trivial
    · rename_i hne
      exact (g.obj i n o hi ho).mono ρ.le_refl (fun ha => hk _ (g.own i n hi).1 (hd i n hi ⟨o, ho, ha⟩ hne))
  · rw [Heap.get_set] at hn
    split at hn
    · rename_i e; exact ⟨m, by rw [e]; exact hm⟩
    · exact g.gmap i hi hn
  · rw [Heap.get_set, if_pos rfl] at h
    simp only [Option.some.injEq, AObj.yld.injEq] at h
    obtain ⟨rfl, rfl⟩ := h
    refine ⟨m, F', hm, hit', fun j n hj hl hne hf => ?_⟩
    rcases hF _ hf with h | h
    · exact hd j n hj (live j hl) hne h
    · have := (g.own j n hj).1; omega
  · rw [Heap.get_set, if_neg (fun e => by rw [e, hm] at hn; cases hn)]
theorem mb_of {i : Nat} (h : gbase ≤ i) : mbase ≤ i := Nat.le_trans (by decide) h
theorem Gam.lt (g : Gam w0 ρ H w) {i : Nat} {m : Meta} (h : ρ i = some m) : i < H.next := by
  rcases Nat.lt_or_ge i H.next with hl | hl
  · exact hl
  · rw [g.fresh i hl] at h; cases h

def Ren.put (ρ : Ren) (i : Nat) (m : Meta) : Ren := fun j => if j = i then some m else ρ j
theorem Gam.le_put (g : Gam w0 ρ H w) (m : Meta) : ρ.le (ρ.put H.next m) := fun j n h => by
  have : j ≠ H.next := fun e => by rw [e, g.fresh _ (Nat.le_refl _)] at h; cases h
  simp [Ren.put, this, h]

/-- A new block. -/
theorem Gam.new (g : Gam w0 ρ H w) (x : AObj) (obj : Obj) (m : Meta) (hb : m.b = w.heap.size) (hr : ObjR (ρ.put H.next m) (w.alloc obj) m x) :
    Gam w0 (ρ.put H.next m) (H.new x) (w.alloc obj) ∧ Ext ρ (ρ.put H.next m) H (H.new x) := by
  have hle := g.le_put m
  have hold : ∀ k, k < w.heap.size → (w.alloc obj).heap[k]? = w.heap[k]? := fun k hk => Below.heap_alloc w obj k hk
  refine ⟨⟨Nat.le_trans g.gb (by simp), ?_, g.below.alloc obj, ?_, ?_, ?_, ?_, ?_, ?_, g.vars, g.itok, ?_⟩, ⟨hle, by simp, ?_⟩⟩
  · intro i hi
    simp only [Heap.next_new] at hi
    have : i ≠ H.next := by omega
    simp only [Ren.put, this, if_false]
    exact g.fresh i (by omega)
  · intro i n hn
    simp only [Ren.put] at hn
    split at hn
    · cases hn
      exact ⟨by rw [hb]; simp, fun _ => .inl (by rw [hb]; exact g.below.size)⟩
    · have := g.own i n hn
      exact ⟨by simp; omega, this.2⟩
  · intro i n hn hi
    simp only [Ren.put] at hn
    split at hn
    · have := g.gb; unfold gbase abase at *; omega
    · exact g.glob i n hn hi
  · intro i j mi mj hgi hi hj ei ej hbb
    simp only [Ren.put] at ei ej
    obtain ⟨oi, gi, ai⟩ := hi
    obtain ⟨oj, gj, aj⟩ := hj
    rw [Heap.get_new] at gi gj
    by_cases e1 : i = H.next
    · by_cases e2 : j = H.next
      · rw [e1, e2]
      · simp only [e1, if_true, Option.some.injEq] at ei
        simp only [e2, if_false] at ej
        have := (g.own j mj ej).1
        rw [← ei, hb] at hbb
        omega
    · by_cases e2 : j = H.next
      · simp only [e2, if_true, Option.some.injEq] at ej
        simp only [e1, if_false] at ei
        have := (g.own i mi ei).1
        rw [← ej, hb] at hbb
        omega
      · simp only [e1, e2, if_false] at ei ej gi gj
        exact g.inj i j mi mj hgi ⟨oi, gi, ai⟩ ⟨oj, gj, aj⟩ ei ej hbb
  · intro i n o hn ho
    rw [Heap.get_new] at ho
    simp only [Ren.put] at hn
    by_cases e : i = H.next
    · simp only [e, if_true, Option.some.injEq] at hn ho
      subst hn ho
      exact hr
    · simp only [e, if_false] at hn ho
      exact (g.obj i n o hn ho).mono hle (fun _ => hold _ (g.own i n hn).1)
  · intro i hi hn
    have : i ≠ H.next := by have := g.gb; unfold gbase abase at *; omega
    rw [Heap.get_new, if_neg this] at hn
    obtain ⟨n, h⟩ := g.gmap i hi hn
    exact ⟨n, hle _ _ h⟩
  · intro i n ha hi hn
    simp only [Ren.put] at hn
    split at hn
    · have := g.gb; omega
    · exact g.pins i n ha hi hn
  · have hyn : ynum ≠ H.next := by have := g.gb; unfold gbase at this; unfold ynum; omega
    refine g.yld_step (fun own rest h => by rwa [Heap.get_new, if_neg hyn] at h) (fun m h => hle _ _ h) rfl rfl rfl (by simp) (fun k hk => .inl (hold k hk)) (fun j n hj hl hne => ?_)
    simp only [Ren.put] at hj
    split at hj
    · cases hj; exact .inr (by omega)
    · rename_i hjn
      obtain ⟨o, ho, ha⟩ := hl
      exact .inl ⟨j, n, hj, ⟨o, by rwa [Heap.get_new, if_neg hjn] at ho, ha⟩, hne, rfl⟩
  · intro i hi hn
    have : i ≠ H.next := by omega
    exact ⟨by simp [Ren.put, this, hn], by rw [Heap.get_new, if_neg this]⟩

/-- A change of one block of the call's own. -/
theorem Gam.updateM (g : Gam w0 ρ H w) {i : Nat} {m : Meta} {o o' : AObj} {w' : World} (hm : ρ i = some m) (hi : mbase ≤ i) (ho : H.get i = some o) (ha : o.alive = true)
    (hs : w'.heap.size = w.heap.size) (hk : ∀ k, k ≠ m.b → w'.heap[k]? = w.heap[k]?) (h1 : w'.os = w.os) (h2 : w'.tape = w.tape) (h3 : w'.output = w.output) (hr : ObjR ρ w' m o') (hyo : o'.isYld = false := by rfl) :
    Gam w0 ρ (H.set i o') w' ∧ Ext ρ ρ H (H.set i o') := by
  have hiy : ∀ own rest, (H.set i o').get ynum = some (.yld own rest) → H.get ynum = some (.yld own rest) ∧ ynum ≠ i := by
    intro own rest h
    rw [Heap.get_set] at h
    split at h
    · cases h; cases hyo
    · rename_i hne; exact ⟨h, hne⟩
  have hne : ∀ k, k < w0.w.heap.size → ¬ w0.may k → k ≠ m.b := by
    intro k hk' hmay e
    rcases Nat.lt_or_ge i gbase with hl | hl
    · exact hmay (.inl (.inl ⟨i, m, hi, hl, g.pins i m (by unfold mbase hbase at *; omega) hl hm, e.symm⟩))
    · rcases (g.own i m hm).2 hl with h | h
      · omega
      · exact hmay (.inl (.inr (e ▸ h)))
  refine ⟨⟨g.gb, g.fresh, ⟨h1.trans g.below.os, h2.trans g.below.tape, h3.trans g.below.output, by rw [hs]; exact g.below.size, fun k hk' hm' => (hk k (hne k hk' hm')).trans (g.below.block k hk' hm')⟩, ?_, g.glob, ?_, ?_, ?_, g.pins, g.vars, g.itok, ?_⟩, ⟨ρ.le_refl, Nat.le_refl _, ?_⟩⟩
  · intro j n hn
    rw [hs]; exact g.own j n hn
  · intro j k mj mk hgj hj hk' ej ek hbb
    have conv : ∀ x, (H.set i o').live x → H.live x := by
      rintro x ⟨ox, gx, ax⟩
      rw [Heap.get_set] at gx
      split at gx
      · rename_i e; exact ⟨o, by rw [e]; exact ho, ha⟩
      · exact ⟨ox, gx, ax⟩
    exact g.inj j k mj mk hgj (conv j hj) (conv k hk') ej ek hbb
  · intro j n x hn hx
    rw [Heap.get_set] at hx
    split at hx
    · rename_i e
      subst e
      rw [hm] at hn
      cases hn
      cases hx
      exact hr
    · rename_i e
      refine (g.obj j n x hn hx).mono ρ.le_refl (fun hal => hk _ ?_)
      intro hbb
      exact e (g.inj i j m n hi ⟨o, ho, ha⟩ ⟨x, hx, hal⟩ hm hn hbb.symm).symm
  · intro j hj hn
    rw [Heap.get_set] at hn
    split at hn
    · rename_i e; exact ⟨m, by rw [e]; exact hm⟩
    · exact g.gmap j hj hn
  · by_cases hq : i = ynum
    · intro own rest h
      exact absurd hq.symm (hiy own rest h).2
    · refine g.yld_step (fun own rest h => (hiy own rest h).1) (fun _ h => h) h1 h2 h3 (by rw [hs]; exact Nat.le_refl _) (fun k _ => ?_) (fun j n hj hl hne => ?_)
      · by_cases e : k = m.b
        · exact .inr ⟨i, m, hm, ⟨o, ho, ha⟩, hq, hi, e.symm⟩
        · exact .inl (hk k e)
      · obtain ⟨x, hx, hax⟩ := hl
        rw [Heap.get_set] at hx
        split at hx
        · rename_i e; exact .inl ⟨j, n, hj, ⟨o, by rw [e]; exact ho, ha⟩, hne, rfl⟩
        · exact .inl ⟨j, n, hj, ⟨x, hx, hax⟩, hne, rfl⟩
  · intro j hj hn
    have : j ≠ i := fun e => by rw [e, hm] at hn; cases hn
    exact ⟨hn, by rw [Heap.get_set, if_neg this]⟩

theorem Gam.update (g : Gam w0 ρ H w) {i : Nat} {m : Meta} {o o' : AObj} {w' : World} (hm : ρ i = some m) (hi : gbase ≤ i) (ho : H.get i = some o) (ha : o.alive = true)
    (hs : w'.heap.size = w.heap.size) (hk : ∀ k, k ≠ m.b → w'.heap[k]? = w.heap[k]?) (h1 : w'.os = w.os) (h2 : w'.tape = w.tape) (h3 : w'.output = w.output) (hr : ObjR ρ w' m o') (hyo : o'.isYld = false := by rfl) :
    Gam w0 ρ (H.set i o') w' ∧ Ext ρ ρ H (H.set i o') := g.updateM hm (mb_of hi) ho ha hs hk h1 h2 h3 hr hyo

/-! ### Cells read and written -/
theorem take_get {l l' : List Value} {off n : Nat} {v : Value} {j : Nat} (hl : l = (l'.drop off).take n) (h : l[j]? = some v) : l'[off + j]? = some v := by
  subst hl
  rw [List.getElem?_take] at h
  split at h
  · rwa [List.getElem?_drop] at h
  · cases h

/-- What the abstract heap says of cells, of the world. -/
theorem Gam.cellsAt (g : Gam w0 ρ H w) {i k n : Nat} {m : Meta} {cs : List Value} (hm : ρ i = some m) (h : H.cellsAt i k n = some cs) :
    cs.length = n ∧ ∃ cs', LR ρ cs cs' ∧ ∀ j v, cs'[j]? = some v → w.cell? ⟨m.b, m.o + k + j, none⟩ = some v := by
  unfold Heap.cellsAt at h
  cases ho : H.get i with
  | none => simp [ho] at h
  | some o =>
    cases o with
    | cells l ty opn es =>
      simp only [ho] at h
      split at h
      · rename_i hle
        simp only [Option.some.injEq] at h
        obtain ⟨e1, e2, e3, c, ty', hb, hsz, hlr⟩ := g.obj i m _ hm ho
        have hw := m.hw
        refine ⟨by rw [← h]; simp; omega, ((c.toList.drop m.o).take l.length).drop k |>.take n, ?_, ?_⟩
        · rw [← h]; exact (hlr.drop k).take n
        · intro j v hv
          have h1 := take_get rfl hv
          have h2 := take_get rfl h1
          simp only [World.cell?, hb, Option.isSome_none, Bool.false_eq_true, if_false]
          rw [← Array.getElem?_toList, Nat.add_assoc]
          exact h2
      · cases h
    | sym l opn es =>
      simp only [ho] at h
      split at h
      · rename_i hle
        simp only [Option.some.injEq] at h
        obtain ⟨⟨e1, e2, e3, c, ty', fz, ⟨hb, _⟩, hsz, hlr⟩, _⟩ := g.obj i m _ hm ho
        have hw := m.hw
        refine ⟨by rw [← h]; simp; omega, ((c.toList.drop m.o).take l.length).drop k |>.take n, ?_, ?_⟩
        · rw [← h]; exact (hlr.drop k).take n
        · intro j v hv
          have h1 := take_get rfl hv
          have h2 := take_get rfl h1
          simp only [World.cell?, hb, Option.isSome_none, Bool.false_eq_true, if_false]
          rw [← Array.getElem?_toList, Nat.add_assoc]
          exact h2
      · cases h
    | _ => simp [ho] at h

theorem isAgg_run {t : TypeId} {b : Bool} (h : isAggP P t = some b) (w : World) : (isAgg t).run P w = .ok b w := by
  unfold isAggP at h
  cases hu : P.underlying t with
  | none => simp [hu] at h
  | some d =>
    simp only [hu, Option.map_some, Option.some.injEq] at h
    unfold isAgg
    simp only [Sem.run_bind, und_run hu, Result.andThen_ok]
    subst h
    cases d <;> rfl

theorem cell_of_glob (g : Gam w0 ρ H w) {i k n : Nat} {cs : List Value} (hi : i < abase) (h : H.cellsAt i k n = some cs) :
    ∃ m, ρ i = some m ∧ m.b = i ∧ m.o = 0 := by
  obtain ⟨m, hm⟩ := g.gmap i (.inl hi) (fun e => by simp [Heap.cellsAt, e] at h)
  exact ⟨m, hm, g.glob i m hm hi⟩

/-- A load. -/
theorem loadA_sound (g : Gam w0 ρ H w) {t : TypeId} {p p' v : Value} (hp : VR ρ p p') (h : loadA P H t p = some v) :
    ∃ v', VR ρ v v' ∧ (Instr.loadAt t p').run P w = .ok v' w := by
  have core : ∀ (i k : Nat) (m : Meta), ρ i = some m → loadA P H t (.pointer (some ⟨i, k, none⟩)) = some v →
      ∃ v', VR ρ v v' ∧ (Instr.loadAt t (.pointer (some ⟨m.b, m.o + k, none⟩))).run P w = .ok v' w := by
    intro i k m hm h
    unfold loadA at h
    simp only at h
    cases ha : isAggP P t with
    | none => simp [ha] at h
    | some b =>
      have hrun := isAgg_run ha w
      cases b with
      | true =>
        simp only [ha] at h
        cases hn : sizeP P t with
        | none => simp [hn] at h
        | some n =>
          simp only [hn, Option.bind_eq_bind, Option.bind_some] at h
          cases hc : H.cellsAt i k n with
          | none => simp [hc] at h
          | some cs =>
            simp only [hc, Option.bind_some, Option.some.injEq] at h
            subst h
            obtain ⟨hlen, cs', hlr, hcell⟩ := g.cellsAt hm hc
            refine ⟨.agg cs'.toArray, VR.agg' (by simpa using hlr), ?_⟩
            have hl := run_loadCells_list (P := P) w ⟨m.b, m.o + k, none⟩ cs' (fun j u hu => by
              have := hcell j u hu
              unfold Addr.add
              split
              · rename_i e; subst e; simpa using this
              · simpa using this)
            rw [← hlr.length, hlen] at hl
            simp only [Instr.loadAt, Instr.sureAddr, loadVar, Sem.run_bind, Sem.run_pure, Result.andThen_ok, hrun, if_true, size_run hn, hl]
      | false =>
        simp only [ha] at h
        cases hc : H.cellsAt i k 1 with
        | none => simp [hc] at h
        | some cs =>
          simp only [hc, Option.bind_eq_bind, Option.bind_some] at h
          obtain ⟨hlen, cs', hlr, hcell⟩ := g.cellsAt hm hc
          cases hlr with
          | nil => simp at hlen
          | @cons u u' l l' hu ht =>
            simp only [List.head?_cons, Option.some.injEq] at h
            subst h
            have hc0 := hcell 0 u' rfl
            refine ⟨u', hu, ?_⟩
            simp only [Instr.loadAt, Instr.sureAddr, loadVar, Sem.run_bind, Sem.run_pure, Result.andThen_ok, hrun, Bool.false_eq_true, if_false]
            simp only [Nat.add_zero] at hc0
            simp [load, Sem.run, hc0]
  cases hp with
  | ptr i k m hm => exact core i k m hm h
  | glob i k hi =>
    have hc : ∃ n cs, H.cellsAt i k n = some cs := by
      unfold loadA at h
      simp only at h
      cases ha : isAggP P t with
      | none => simp [ha] at h
      | some b =>
        cases b with
        | true =>
          simp only [ha] at h
          cases hn : sizeP P t with
          | none => simp [hn] at h
          | some n =>
            simp only [hn, Option.bind_eq_bind, Option.bind_some] at h
            cases hc : H.cellsAt i k n with
            | none => simp [hc] at h
            | some cs => exact ⟨n, cs, hc⟩
        | false =>
          simp only [ha] at h
          cases hc : H.cellsAt i k 1 with
          | none => simp [hc] at h
          | some cs => exact ⟨1, cs, hc⟩
    obtain ⟨n, cs, hc⟩ := hc
    obtain ⟨m, hm, hb, ho⟩ := cell_of_glob g hi hc
    have := core i k m hm h
    rwa [hb, ho, Nat.zero_add] at this
  | _ => simp [loadA] at h

theorem VR.one {v v' : Value} (h : VR ρ v v') (hc : cellOk v = true) : v'.oneCell' = true := by
  cases h <;> first | rfl | simp [cellOk] at hc
theorem LR.one {l l' : List Value} (h : LR ρ l l') : l.all cellOk = true → ∀ v ∈ l', v.oneCell' = true := by
  induction h with
  | nil => intro _ v hv; cases hv
  | cons h _ ih =>
    intro hc v hv
    simp only [List.all_cons, Bool.and_eq_true] at hc
    cases hv with
    | head => exact h.one hc.1
    | tail _ hv => exact ih hc.2 v hv

theorem listSet_LR {cs cs' vs vs' : List Value} (h : LR ρ cs cs') (k : LR ρ vs vs') (off : Nat) : LR ρ (listSet cs off vs) (listSet cs' off vs') := by
  unfold listSet
  rw [← k.length]
  exact ((h.take off).append k).append (h.drop _)

theorem setRow_heap_ne (w : World) (g k : Nat) (c : Array Value) (h : k ≠ g) : (w.setRow g c).heap[k]? = w.heap[k]? := by
  simp only [World.setRow, Array.getElem?_modify]
  rw [if_neg (by omega)]
theorem setRow_size (w : World) (g : Nat) (c : Array Value) : (w.setRow g c).heap.size = w.heap.size := by simp [World.setRow]

/-- A row of cells written. -/
theorem Gam.write (g : Gam w0 ρ H w) {i k : Nat} {m : Meta} {vs vs' : List Value} {H' : Heap} (hm : ρ i = some m) (hv : LR ρ vs vs') (h : H.write i k vs = some H') :
    ∃ w', (storeCells ⟨m.b, m.o + k, none⟩ vs').run P w = .ok () w' ∧ Gam w0 ρ H' w' ∧ Ext ρ ρ H H' := by
  unfold Heap.write at h
  cases ho : H.get i with
  | none => simp [ho] at h
  | some o =>
    cases o with
    | cells l ty opn es =>
      simp only [ho] at h
      split at h
      · rename_i hc
        simp only [Bool.and_eq_true, decide_eq_true_eq] at hc
        obtain ⟨⟨hle, hok⟩, hi⟩ := hc
        simp only [Option.some.injEq] at h
        subst h
        obtain ⟨e1, e2, e3, c, ty', hb, hsz, hlr⟩ := g.obj i m _ hm ho
        have hw := m.hw
        have hlen := hv.length
        have hst := run_storeCells_at (P := P) m.b (m.o + k) ty' vs' 0 c w hb (by omega) (hv.one hok)
        simp only [Nat.add_zero] at hst
        refine ⟨_, hst, ?_⟩
        refine g.updateM hm hi ho rfl (setRow_size _ _ _) (fun j hj => setRow_heap_ne _ _ _ _ hj) rfl rfl rfl ?_
        have hnew := setRow_heap w m.b c (c.toList.take (m.o + k) ++ vs' ++ c.toList.drop (m.o + k + vs'.length)).toArray ty' (0, 0) hb
        refine ⟨?_, e2, e3, _, ty', hnew, ?_, ?_⟩
        · rw [e1]; simp [listSet]; omega
        · simp; omega
        · have hl2 : (listSet l k vs).length = l.length := by simp [listSet]; omega
          rw [hl2]
          have := listSet_LR hlr hv k
          have e : listSet ((c.toList.drop m.o).take l.length) k vs' = ((c.toList.take (m.o + k) ++ vs' ++ c.toList.drop (m.o + k + vs'.length)).drop m.o).take l.length := by
            apply List.ext_getElem?
            intro j
            simp only [listSet, List.getElem?_take, List.getElem?_append, List.getElem?_drop, List.length_take, List.length_drop, List.length_append, Array.length_toList]
            have hcs : c.size = m.size := hsz
            repeat' split
            all_goals first
              | rfl
              | omega
              | (congr 1; omega)
          rw [e] at this
          simpa using this
      · cases h
    | _ => simp [ho] at h

end Go.Abs

/- Operations that lay a new block. -/
namespace Go.Abs
open Go.RowKit
variable {P : Program} {ρ : Ren} {w0 : Start P} {w : World} {H : Heap}

theorem info_run {t : TypeId} {i : TypeInfo} (h : P.info? t = some i) (w : World) : (typeInfo t).run P w = .ok i w := by
  show Sem.run P (match P.info? t with | some i => Pure.pure i | none => Go.stuck "no such type") w = _
  rw [h]; rfl
theorem zero_run {t : TypeId} {i : TypeInfo} {z : Value} (h : P.info? t = some i) (hz : i.zero = some z) (w : World) : (zeroValue t).run P w = .ok z w := by
  unfold zeroValue
  simp only [Sem.run_bind, info_run h, Result.andThen_ok, hz]
  rfl
theorem sizeOf_run {t : TypeId} {i : TypeInfo} (h : P.info? t = some i) (w : World) : (sizeOf t).run P w = .ok i.size w := size_run (by simp [sizeP, h]) w
theorem known_of_plain {n : Nat} {v : Value} (h : plain n v = true) : known v = true := by
  cases n with
  | zero => simp [plain] at h
  | succ n => cases v <;> first | rfl | (simp [plain] at h)
theorem plain_cells {n : Nat} {z : Value} (h : plain n z = true) : LR ρ z.cells.toList z.cells.toList := cells_LR (plain_refl ρ n z h) (known_of_plain h)

/-- The new block laid by an operation. -/
structure Laid (P : Program) (ρ : Ren) (e : Sem Next) (k : Mk) (x : AObj) (w : World) : Prop where
  run : ∃ (obj : Obj) (m : Meta), m.b = w.heap.size ∧ e.run P w = .ok (.value (k.val w.heap.size)) (w.alloc obj) ∧
    (∀ ρ' : Ren, ρ.le ρ' → ObjR ρ' (w.alloc obj) m x) ∧ ∀ (ρ' : Ren) (i : Nat), ρ' i = some m → VR ρ' (k.val i) (k.val w.heap.size)

theorem alloc_get (w : World) (o : Obj) : (w.alloc o).heap[w.heap.size]? = some o := by
  show (w.heap.push o)[w.heap.size]? = some o
  simp

theorem Laid.cells {e : Sem Next} {k : Mk} {cs : List Value} {ty : TypeId} {es : Nat} {c : Array Value} (hk : k ≠ .map) (hkl : ∀ l c', k = .slice l c' → l ≤ c') (hrun : e.run P w = .ok (.value (k.val w.heap.size)) (w.alloc (.cells c ty))) (h : LR ρ cs c.toList) :
    Laid P ρ e k (.cells cs ty false es) w := by
  refine ⟨⟨.cells c ty, ⟨w.heap.size, 0, cs.length, false, es, c.size, by have := h.length; simp at this; omega⟩, rfl, hrun, ?_, ?_⟩⟩
  · intro ρ' hle
    refine ⟨rfl, rfl, rfl, c, ty, alloc_get _ _, rfl, ?_⟩
    simp only [List.drop_zero]
    rw [List.take_of_length_le (by have := h.length; omega)]
    exact h.mono hle
  · intro ρ' i hi
    cases k with
    | ptr => have := VR.ptr (ρ := ρ') i 0 _ hi; simpa [Mk.val] using this
    | slice l c' => have := mkSlice (ρ := ρ') hi 0 l c' (hkl l c' rfl); simpa [Mk.val] using this
    | map => exact absurd rfl hk
theorem Laid.map {e : Sem Next} (hrun : e.run P w = .ok (.value (.map (some w.heap.size))) (w.alloc (.map #[] 0))) : Laid P ρ e .map (.map [] 0) w :=
  ⟨⟨.map #[] 0, ⟨w.heap.size, 0, 0, false, 0, 0, by omega⟩, rfl, hrun, fun ρ' _ => ⟨#[], alloc_get _ _, .nil⟩, fun ρ' i hi => VR.map (ρ := ρ') i _ hi⟩⟩

theorem parts_R {env env' : Operand → Value} : ∀ (l : List (Nat × Operand)), (∀ p ∈ l, VR ρ (env p.2) (env' p.2)) → (l.all fun p => known (env p.2)) = true →
    PartsR ρ (l.map fun (p : Nat × Operand) => (p.1, env p.2)) (l.map fun (p : Nat × Operand) => (p.1, env' p.2))
  | [], _, _ => .nil
  | p :: l, h, hk => by
    simp only [List.all_cons, Bool.and_eq_true] at hk
    exact .cons (h p (by simp)) hk.1 (parts_R l (fun q hq => h q (by simp [hq])) hk.2)

theorem zeroCells_LR {z : Value} {n : Nat} (h : plain 8 z = true) (k : Nat) : LR ρ (Builtin.zeroCells z.cells k).toList (Builtin.zeroCells z.cells k).toList := by
  have hz := plain_cells (ρ := ρ) h
  have : n = n := rfl
  clear this n
  apply LR.of_get rfl
  intro j hj
  simp only [Builtin.zeroCells, Array.toList_map, List.length_map, Array.length_toList, Array.size_range] at hj
  have hpos : 0 < z.cells.size := by
    rcases Nat.eq_zero_or_pos z.cells.size with h0 | h0
    · rw [h0] at hj; simp at hj
    · exact h0
  have hlt : j % z.cells.size < z.cells.size := Nat.mod_lt _ hpos
  obtain ⟨v', hv', hr⟩ := hz.get (n := j % z.cells.size) (v := z.cells[j % z.cells.size]) (by simp [hlt])
  have e : v' = z.cells[j % z.cells.size] := by simp [hlt] at hv'; exact hv'.symm
  subst e
  have hget : (Builtin.zeroCells z.cells k).toList.getD j undef = z.cells[j % z.cells.size] := by
    simp only [Builtin.zeroCells, Array.toList_map, List.getD_eq_getElem?_getD, List.getElem?_map, Array.getElem?_toList]
    rw [Array.getElem?_range]
    simp only [hj, if_true, Option.map_some, Option.getD_some]
    simp [hlt]
  rw [hget]
  exact hr

theorem wrap_small {n : Int} (h0 : 0 ≤ n) (h : n ≤ 2 ^ 40) : IntKind.i64.wrap n = n := by
  exact IntWalk.i64_in _ (by omega)
theorem askRoom_run (n : Nat) (w : World) : (askRoom n).run P w = .ok () w := by
  unfold askRoom
  split <;> rfl

theorem VR.int_inv {k : IntKind} {n : Int} {v : Value} (h : VR ρ (.int k n) v) : v = .int k n := by cases h; rfl
theorem VR.bool_inv {b : Bool} {v : Value} (h : VR ρ (.bool b) v) : v = .bool b := by cases h; rfl
theorem allocOf_sound {env env' : Operand → Value} {o : Oper} {k : Mk} {x : AObj} (henv : ∀ y ∈ o.op.operands, VR ρ (env y) (env' y)) (h : allocOf P env o = some (k, x)) (w : World) :
    Laid P ρ (execOp env' o) k x w := by
  unfold allocOf at h
  cases hop : o.op with
  | alloc elem =>
    simp only [hop] at h
    cases hi : P.info? elem with
    | none => simp [hi] at h
    | some i =>
      simp only [hi, Option.bind_eq_bind, Option.bind_some] at h
      cases hz : i.zero with
      | none => simp [hz] at h
      | some z =>
        simp only [hz, Option.bind_some] at h
        split at h
        · rename_i hp
          simp only [Option.some.injEq, Prod.mk.injEq] at h
          obtain ⟨rfl, rfl⟩ := h
          refine Laid.cells (c := z.cells) (by simp) (fun _ _ h => by cases h) ?_ (plain_cells hp)
          simp only [execOp, hop, Instr.alloc, Sem.run_bind, zero_run hi hz, Result.andThen_ok, newVar, newRow]
          rfl
        · cases h
  | box elem y =>
    simp only [hop] at h
    split at h
    · rename_i hk
      simp only [Option.some.injEq, Prod.mk.injEq] at h
      obtain ⟨rfl, rfl⟩ := h
      have hv := henv y (by simp [hop, Op.operands])
      refine Laid.cells (c := (env' y).cells) (by simp) (fun _ _ h => by cases h) ?_ (cells_LR hv hk)
      simp only [execOp, hop, Instr.box, newVar, newRow]
      rfl
    · cases h
  | buildSlice t len parts =>
    simp only [hop] at h
    cases hu : P.underlying t with
    | none => simp [hu] at h
    | some d =>
      cases d with
      | slice elem =>
        simp only [hu, Option.bind_eq_bind, Option.bind_some] at h
        cases hi : P.info? elem with
        | none => simp [hi] at h
        | some i =>
          simp only [hi, Option.bind_some] at h
          cases hz : i.zero with
          | none => simp [hz] at h
          | some z =>
            simp only [hz, Option.bind_some] at h
            split at h
            · cases h
            · rename_i hc
              simp only [Bool.or_eq_true, decide_eq_true_eq, Bool.not_eq_true', bne_iff_ne, ne_eq, not_or, Bool.not_eq_false, Nat.not_lt, Decidable.not_not] at hc
              obtain ⟨⟨⟨h1, hp⟩, hs⟩, hk⟩ := hc
              cases hf : Instr.fill (fun j => some (j * i.size, i.size)) (Builtin.zeroCells z.cells len) (parts.toList.map fun (x : Nat × Operand) => (x.1, env x.2)) with
              | none => simp [hf] at h
              | some cs =>
                simp only [hf, Option.bind_some, Option.some.injEq, Prod.mk.injEq] at h
                obtain ⟨rfl, rfl⟩ := h
                have hparts : PartsR ρ (parts.toList.map fun (p : Nat × Operand) => (p.1, env p.2)) (parts.toList.map fun (p : Nat × Operand) => (p.1, env' p.2)) := by
                  refine parts_R _ (fun p hpm => henv p.2 ?_) (by simpa using hk)
                  simp only [hop, Op.operands]
                  simp only [List.mem_toArray, List.mem_map]
                  exact ⟨p, hpm, rfl⟩
                obtain ⟨r', hf', hr⟩ := fill_LR _ hparts (zeroCells_LR (ρ := ρ) (n := 0) hp len) hf
                refine Laid.cells (c := r') (by simp) (fun _ _ h => by cases h; exact Nat.le_refl _) ?_ hr
                simp only [execOp, hop, Instr.buildSlice, Sem.run_bind, und_run hu, sizeOf_run hi, Result.andThen_ok]
                rw [if_neg (by omega)]
                by_cases h0 : len * i.size = 0
                · simp only [h0, if_true, Sem.run_bind, Sem.run_pure, Result.andThen_ok]
                  have e1 : (Array.map (fun x => (#[] : Array Value)[x % (#[] : Array Value).size]!) (Array.range 0)) = Builtin.zeroCells z.cells len := by
                    simp [Builtin.zeroCells, hs, h0]
                  rw [e1, Array.toList_map, hf']
                  rfl
                · simp only [h0, if_false, Sem.run_bind, Sem.run_pure, Result.andThen_ok, zero_run hi hz]
                  have e1 : (Array.map (fun x => z.cells[x % z.cells.size]!) (Array.range (len * i.size))) = Builtin.zeroCells z.cells len := by
                    simp [Builtin.zeroCells, hs]
                  rw [e1, Array.toList_map, hf']
                  rfl
      | _ => simp [hu] at h
  | makeSlice t l c =>
    simp only [hop] at h
    have hl := henv l (by simp [hop, Op.operands])
    have hc := henv c (by simp [hop, Op.operands])
    split at h
    · rename_i l0 c0 el ec
      rw [el] at hl
      rw [ec] at hc
      have hl' : env' l = .int .i64 l0 := hl.int_inv
      have hc' : env' c = .int .i64 c0 := hc.int_inv
      cases hu : P.underlying t with
      | none => simp [hu] at h
      | some d =>
        cases d with
        | slice elem =>
          simp only [hu, Option.bind_eq_bind, Option.bind_some] at h
          cases hi : P.info? elem with
          | none => simp [hi] at h
          | some i =>
            simp only [hi, Option.bind_some] at h
            cases hz : i.zero with
            | none => simp [hz] at h
            | some z =>
              simp only [hz, Option.bind_some] at h
              split at h
              · rename_i hcond
                obtain ⟨c1, c2, c3, c4, hp, hs⟩ := hcond
                simp only [Option.some.injEq, Prod.mk.injEq] at h
                obtain ⟨rfl, rfl⟩ := h
                refine Laid.cells (c := Builtin.zeroCells z.cells c0.toNat) (by simp) (fun _ _ h => by cases h; omega) ?_ (zeroCells_LR (n := 0) hp _)
                have w1 := wrap_small c1 (by omega)
                have w2 := wrap_small (n := c0) (by omega) c4
                simp only [execOp, hop, hl', hc', Instr.makeSlice, asInt, asIntOf, Sem.run_bind, Sem.run_pure, und_run hu, info_run hi, Result.andThen_ok, w1, w2]
                have hb : (0 : Int) ≤ i.bytes := Int.natCast_nonneg _
                have hm : (i.bytes : Int) * c0 ≤ 2 ^ 48 := by omega
                have cond : (decide (c0 < 0) || decide ((i.bytes : Int) * c0 > 2 ^ 48) || decide (l0 < 0) || decide (l0 > c0)) = false := by
                  simp only [Bool.or_eq_false_iff, decide_eq_false_iff_not]
                  exact ⟨⟨⟨by omega, by omega⟩, by omega⟩, by omega⟩
                rw [cond]
                simp only [Bool.false_eq_true, if_false, Sem.run_bind, askRoom_run, Result.andThen_ok, sizeOf_run hi]
                by_cases h0 : c0.toNat * i.size = 0
                · have e1 : (Array.map (fun x => (#[] : Array Value)[x % (#[] : Array Value).size]!) (Array.range 0)) = Builtin.zeroCells z.cells c0.toNat := by
                    simp [Builtin.zeroCells, hs, h0]
                  simp only [h0, if_true, Sem.run_bind, Sem.run_pure, Result.andThen_ok, e1]
                  rfl
                · have e1 : (Array.map (fun x => z.cells[x % z.cells.size]!) (Array.range (c0.toNat * i.size))) = Builtin.zeroCells z.cells c0.toNat := by
                    simp [Builtin.zeroCells, hs]
                  simp only [h0, if_false, Sem.run_bind, Sem.run_pure, Result.andThen_ok, zero_run hi hz, e1]
                  rfl
              · cases h
        | _ => simp [hu] at h
    · cases h
  | makeMap t r =>
    cases r with
    | none =>
      simp only [hop] at h
      cases hu : P.underlying t with
      | none => simp [hu] at h
      | some d =>
        cases d with
        | map a b =>
          simp only [hu, Option.bind_eq_bind, Option.bind_some, Option.some.injEq, Prod.mk.injEq] at h
          obtain ⟨rfl, rfl⟩ := h
          refine Laid.map ?_
          simp only [execOp, hop, Instr.makeMap, Option.map_none]
          rfl
        | _ => simp [hu] at h
    | some y =>
      simp only [hop] at h
      have hy := henv y (by simp [hop, Op.operands])
      split at h
      · rename_i a n e
        rw [e] at hy
        have hy' : env' y = .int a n := hy.int_inv
        cases hu : P.underlying t with
        | none => simp [hu] at h
        | some d =>
          cases d with
          | map a b =>
            simp only [hu, Option.bind_eq_bind, Option.bind_some, Option.some.injEq, Prod.mk.injEq] at h
            obtain ⟨rfl, rfl⟩ := h
            refine Laid.map ?_
            simp only [execOp, hop, Instr.makeMap, Option.map_some, hy', Sem.run_bind, und_run hu, Result.andThen_ok]
            rfl
          | _ => simp [hu] at h
      · cases h
  | _ => simp [hop] at h

end Go.Abs

/- append: the evaluator against the machine. -/
namespace Go.Abs
open Go.RowKit
variable {P : Program} {ρ : Ren} {w0 : Start P} {w : World} {H : Heap}

theorem lenA_run {x x' : Value} (hx : VR ρ x x') {n : Nat} (h : lenA x = some n) (w : World) : (Builtin.lenOf x').run P w = .ok n w := by
  cases hx with
  | string s => simp only [lenA, Option.some.injEq] at h; subst h; rfl
  | nilSlice l c => simp only [lenA, Option.some.injEq] at h; subst h; rfl
  | slice i k len cap m hm ho hl => simp only [lenA, Option.some.injEq] at h; subst h; rfl
  | opened i k len cap capC m hm ho hc hs hl => simp only [lenA, Option.some.injEq] at h; subst h; rfl
  | empty i k off m hm ho _ => simp only [lenA, Option.some.injEq] at h; subst h; rfl
  | _ => simp [lenA] at h

theorem addr_add (b o j : Nat) : (⟨b, o, none⟩ : Addr).add j = ⟨b, o + j, none⟩ := by
  unfold Addr.add; split <;> simp_all

theorem cellsAt_run (g : Gam w0 ρ H w) {i k n : Nat} {m : Meta} {cs : List Value} (hm : ρ i = some m) (h : H.cellsAt i k n = some cs) :
    ∃ cs', LR ρ cs cs' ∧ (loadCells ⟨m.b, m.o + k, none⟩ n).run P w = .ok cs'.toArray w := by
  obtain ⟨hlen, cs', hlr, hcell⟩ := g.cellsAt hm h
  refine ⟨cs', hlr, ?_⟩
  have := run_loadCells_list (P := P) w ⟨m.b, m.o + k, none⟩ cs' (fun j u hu => by rw [addr_add]; exact hcell j u hu)
  rwa [← hlr.length, hlen] at this

theorem bytes_LR : ∀ l : List UInt8, LR ρ (l.map fun b => Value.int .u8 b.toNat) (l.map fun b => Value.int .u8 b.toNat)
  | [] => .nil
  | _ :: l => .cons (.int _ _) (bytes_LR l)

theorem cellsAt_known {i k n : Nat} {cs : List Value} {m : Meta} (g : Gam w0 ρ H w) (hm : ρ i = some m) (h : H.cellsAt i k n = some cs) : k + n ≤ m.known := by
  unfold Heap.cellsAt at h
  cases ho : H.get i with
  | none => simp [ho] at h
  | some o =>
    cases o with
    | cells l ty opn es =>
      simp only [ho] at h
      split at h
      · have := (g.obj i m _ hm ho).1
        omega
      · cases h
    | sym l opn es =>
      simp only [ho] at h
      split at h
      · have := (g.obj i m _ hm ho).1.1
        omega
      · cases h
    | _ => simp [ho] at h

theorem firstA_run (g : Gam w0 ρ H w) {x x' : Value} (hx : VR ρ x x') {size n : Nat} {cs : List Value} (h : firstA H size n x = some cs) :
    ∃ cs', LR ρ cs cs' ∧ (Builtin.firstCells size n x').run P w = .ok cs'.toArray w := by
  cases hx with
  | string s =>
    simp only [firstA, Option.some.injEq] at h
    subst h
    refine ⟨_, bytes_LR _, ?_⟩
    simp only [Builtin.firstCells, Sem.run_pure]
    congr 1
    apply Array.toList_inj.1
    simp [List.extract_eq_take_drop]
  | nilSlice l c =>
    simp only [firstA, Option.some.injEq] at h
    subst h
    exact ⟨[], .nil, rfl⟩
  | slice i k len cap m hm ho hl => exact cellsAt_run g hm h
  | opened i k len cap capC m hm ho hc hs hl => exact cellsAt_run g hm h
  | empty i k off m hm ho _ =>
    have h' : H.cellsAt i k (n * size) = some cs := h
    have hk := cellsAt_known g hm h'
    simp only [Meta.isOpen, Bool.and_eq_true, beq_iff_eq] at ho
    have h0 : n * size = 0 := by omega
    obtain ⟨hlen, _⟩ := g.cellsAt hm h'
    rw [h0] at hlen
    have : cs = [] := List.length_eq_zero_iff.1 hlen
    subst this
    refine ⟨[], .nil, ?_⟩
    simp only [Builtin.firstCells, h0]
    rfl
  | _ => simp [firstA] at h

theorem growBy_le (n : Nat) : ∀ (r c : Nat), c ≤ 2 * n + 768 → Builtin.growBy n r c ≤ 2 * n + 768
  | 0, c, h => h
  | r + 1, c, h => by
    unfold Builtin.growBy
    split
    · exact h
    · exact growBy_le n r _ (by omega)
theorem nextcap_le {n c : Nat} (h : c < n) : Builtin.nextslicecap n c ≤ 2 * n + 768 := by
  unfold Builtin.nextslicecap
  split
  · omega
  · split
    · omega
    · exact growBy_le n 4 c (by omega)

/-- Growing: a new array, however much larger. -/
theorem append_grows {argTypes : Array TypeId} {type : TypeId} {args : Array Value} {sType elem : TypeId} {base : Option Addr} {sLen sCap n : Nat} {x : Value} {i : TypeInfo} {z : Value} {old new : List Value}
    (h0 : argTypes[0]? = some sType) (h1 : args[0]? = some (.slice base sLen sCap)) (h2 : args[1]? = some x) (hu : P.underlying sType = some (.slice elem)) (hi : P.info? elem = some i) (hz : i.zero = some z)
    (hzero : ∀ xType, argTypes[1]? = some xType → ∃ d, P.underlying xType = some d ∧ (match d with | .int _ => true | _ => false) = false)
    (hlen : (Builtin.lenOf x).run P w = .ok n w) (hgt : ¬ sLen + n ≤ sCap) (hb : (2 * (sLen + n) + 768) * i.bytes ≤ 2 ^ 48) (hs : sLen + n ≤ 2 ^ 40)
    (hold : (Builtin.firstCells i.size sLen (.slice base sLen sCap)).run P { w with drawn := w.drawn + 1 } = .ok old.toArray { w with drawn := w.drawn + 1 })
    (hnew : (Builtin.firstCells i.size n x).run P { w with drawn := w.drawn + 1 } = .ok new.toArray { w with drawn := w.drawn + 1 }) :
    ∃ newCap, sLen + n ≤ newCap ∧ (Builtin.append_ argTypes type args).run P w = .ok (.slice (some ⟨w.heap.size, 0, none⟩) (sLen + n) newCap)
      (World.alloc { w with drawn := w.drawn + 1 } (.cells (old.toArray ++ new.toArray ++ Builtin.zeroCells z.cells (newCap - (sLen + n))) elem)) := by
  refine ⟨(Question.appendCap (sLen + n) sCap elem).cut (w.tape w.drawn (Question.appendCap (sLen + n) sCap elem)), by simp [Question.cut], ?_⟩
  have hn : Builtin.nextslicecap (sLen + n) sCap * i.bytes ≤ 2 ^ 48 := Nat.le_trans (Nat.mul_le_mul_right _ (nextcap_le (by omega))) hb
  have hmax : ¬ ((((sLen + n : Nat) : Int) > IntKind.i64.max) ∧ (False ∨ i.bytes = 0)) := by
    rintro ⟨h, _⟩
    simp [IntKind.max, IntKind.bits, IntKind.signed] at h
    omega
  have hch : Sem.run P (choose (Question.appendCap (sLen + n) sCap elem)) w =
      .ok ((Question.appendCap (sLen + n) sCap elem).cut (w.tape w.drawn (Question.appendCap (sLen + n) sCap elem))) { w with drawn := w.drawn + 1 } := rfl
  unfold Builtin.append_
  simp only [h0, h1, h2, Sem.run_bind, und_run hu, Result.andThen_ok, sizeOf_run hi]
  cases h4 : (argTypes[1]? : Option TypeId) with
  | none =>
    simp only [Sem.run_bind, Sem.run_pure, Result.andThen_ok, Bool.false_eq_true, if_false, hlen, hgt, info_run hi, hmax, gt_iff_lt, Nat.not_lt.2 hn, Bool.not_false, if_true]
    simp only [hch, Result.andThen_ok, askRoom_run, hold, hnew, zero_run hi hz]
    rfl
  | some xType =>
    obtain ⟨d, hd, hd2⟩ := hzero xType h4
    cases d with
    | int k => simp at hd2
    | _ =>
      simp only [Sem.run_bind, Sem.run_pure, Result.andThen_ok, und_run hd, Bool.false_eq_true, if_false, hlen, hgt, info_run hi, hmax, gt_iff_lt, Nat.not_lt.2 hn, Bool.not_false, if_true]
      simp only [hch, Result.andThen_ok, askRoom_run, hold, hnew, zero_run hi hz]
      rfl

/-- There is room: the elements are laid behind the last one. -/
theorem append_fits {argTypes : Array TypeId} {type : TypeId} {args : Array Value} {sType elem : TypeId} {base : Option Addr} {sLen sCap n : Nat} {x : Value} {i : TypeInfo} {new : List Value} {w' : World}
    (h0 : argTypes[0]? = some sType) (h1 : args[0]? = some (.slice base sLen sCap)) (h2 : args[1]? = some x) (hu : P.underlying sType = some (.slice elem)) (hi : P.info? elem = some i)
    (hzero : ∀ xType, argTypes[1]? = some xType → ∃ d, P.underlying xType = some d ∧ (match d with | .int _ => true | _ => false) = false)
    (hlen : (Builtin.lenOf x).run P w = .ok n w) (hle : sLen + n ≤ sCap)
    (hnew : (Builtin.firstCells i.size n x).run P w = .ok new.toArray w)
    (hst : (match base with | some a => storeCells (a.add (sLen * i.size)) new | none => pure ()).run P w = .ok () w') :
    (Builtin.append_ argTypes type args).run P w = .ok (.slice base (sLen + n) sCap) w' := by
  have fin : ∀ e : Sem Value, (e = match base with | some a => (do storeCells (a.add (sLen * i.size)) new; pure (Value.slice base (sLen + n) sCap)) | _ => pure (Value.slice base (sLen + n) sCap)) → Sem.run P e w = .ok (.slice base (sLen + n) sCap) w' := by
    intro e he
    rw [he]
    cases base with
    | none =>
      have hst' : (Result.ok () w : Result Unit) = .ok () w' := hst
      cases hst'
      rfl
    | some a =>
      simp only [Sem.run_bind, hst, Result.andThen_ok]
      rfl
  unfold Builtin.append_
  simp only [h0, h1, h2, Sem.run_bind, und_run hu, Result.andThen_ok, sizeOf_run hi]
  cases h4 : (argTypes[1]? : Option TypeId) with
  | none =>
    simp only [Sem.run_bind, Sem.run_pure, Result.andThen_ok, Bool.false_eq_true, if_false, hlen, hle, Bool.not_false, if_true, hnew]
    exact fin _ (by cases base <;> rfl)
  | some xType =>
    obtain ⟨d, hd, hd2⟩ := hzero xType h4
    cases d with
    | int k => simp at hd2
    | _ =>
      simp only [Sem.run_bind, Sem.run_pure, Result.andThen_ok, und_run hd, Bool.false_eq_true, if_false, hlen, hle, Bool.not_false, if_true, hnew]
      exact fin _ (by cases base <;> rfl)
end Go.Abs

/- append: the evaluator is sound. -/
namespace Go.Abs
open Go.RowKit
variable {P : Program} {ρ : Ren} {w0 : Start P} {w : World} {H : Heap}

/-- A block whose cells go on under a new number. -/
theorem Gam.move (g : Gam w0 ρ H w) {i : Nat} {m n : Meta} {o x d : AObj} {w' : World} (hm : ρ i = some m) (hi : gbase ≤ i) (ho : H.get i = some o) (ha : o.alive = true) (hd : d.alive = false)
    (hb : n.b = m.b) (hs : w'.heap.size = w.heap.size) (hk : ∀ k, k ≠ m.b → w'.heap[k]? = w.heap[k]?) (h1 : w'.os = w.os) (h2 : w'.tape = w.tape) (h3 : w'.output = w.output)
    (hr : ObjR (ρ.put H.next n) w' n x) (hrd : ObjR ρ w' m d) :
    Gam w0 (ρ.put H.next n) ((H.set i d).new x) w' ∧ Ext ρ (ρ.put H.next n) H ((H.set i d).new x) := by
  have hle := g.le_put n
  have hlt := g.lt hm
  have hown := g.own i m hm
  have hnn : ∀ j, ((H.set i d).new x).get j = if j = H.next then some x else if j = i then some d else H.get j := by
    intro j
    rw [Heap.get_new, Heap.get_set]
    rfl
  refine ⟨⟨Nat.le_trans g.gb (by simp), ?_, ⟨h1.trans g.below.os, h2.trans g.below.tape, h3.trans g.below.output, by rw [hs]; exact g.below.size, fun k hk' hm' => (hk k (by
      rcases hown.2 hi with h | h
      · omega
      · intro e; subst e; exact hm' (.inl (.inr h)))).trans (g.below.block k hk' hm')⟩, ?_, ?_, ?_, ?_, ?_, ?_, g.vars, g.itok, ?_⟩, ⟨hle, by simp, ?_⟩⟩
  · intro j hj
    simp only [Heap.next_new, Heap.next_set] at hj
    have : j ≠ H.next := by omega
    simp only [Ren.put, this, if_false]
    exact g.fresh j (by omega)
  · intro j mj hj
    rw [hs]
    simp only [Ren.put] at hj
    split at hj
    · cases hj
      rw [hb]
      exact ⟨hown.1, fun _ => hown.2 hi⟩
    · exact g.own j mj hj
  · intro j mj hj hjb
    simp only [Ren.put] at hj
    split at hj
    · have := g.gb; unfold gbase abase at *; omega
    · exact g.glob j mj hj hjb
  · have conv : ∀ j, j ≠ H.next → ((H.set i d).new x).live j → H.live j ∧ j ≠ i := by
      rintro j hj ⟨oj, gj, aj⟩
      rw [hnn, if_neg hj] at gj
      split at gj
      · cases gj; rw [hd] at aj; cases aj
      · rename_i e; exact ⟨⟨oj, gj, aj⟩, e⟩
    intro j k mj mk hgj hj hk' ej ek hbb
    simp only [Ren.put] at ej ek
    by_cases e1 : j = H.next
    · by_cases e2 : k = H.next
      · rw [e1, e2]
      · obtain ⟨lk, nk⟩ := conv k e2 hk'
        simp only [e1, if_true, Option.some.injEq] at ej
        simp only [e2, if_false] at ek
        subst ej
        exact absurd (g.inj i k m mk (mb_of hi) ⟨o, ho, ha⟩ lk hm ek (by rw [← hbb, hb])).symm nk
    · obtain ⟨lj, nj⟩ := conv j e1 hj
      simp only [e1, if_false] at ej
      by_cases e2 : k = H.next
      · simp only [e2, if_true, Option.some.injEq] at ek
        subst ek
        exact absurd (g.inj i j m mj (mb_of hi) ⟨o, ho, ha⟩ lj hm ej (by rw [hbb, hb])).symm nj
      · obtain ⟨lk, nk⟩ := conv k e2 hk'
        simp only [e2, if_false] at ek
        exact g.inj j k mj mk hgj lj lk ej ek hbb
  · intro j mj y hj hy
    rw [hnn] at hy
    simp only [Ren.put] at hj
    by_cases e1 : j = H.next
    · simp only [e1, if_true, Option.some.injEq] at hj hy
      subst hj hy
      exact hr
    · simp only [e1, if_false] at hj hy
      by_cases e2 : j = i
      · simp only [e2, if_true, Option.some.injEq] at hy
        subst hy
        rw [e2, hm] at hj
        cases hj
        exact hrd.mono hle (fun _ => rfl)
      · simp only [e2, if_false] at hy
        refine (g.obj j mj y hj hy).mono hle (fun hal => hk _ ?_)
        intro hbb
        exact e2 (g.inj i j m mj (mb_of hi) ⟨o, ho, ha⟩ ⟨y, hy, hal⟩ hm hj hbb.symm).symm
  · intro j hj hn
    rw [hnn, if_neg (by have := g.gb; unfold gbase abase at *; omega)] at hn
    split at hn
    · rename_i e; exact ⟨m, by rw [e]; exact hle _ _ hm⟩
    · obtain ⟨mm, hmm⟩ := g.gmap j hj hn
      exact ⟨mm, hle _ _ hmm⟩
  · intro j mj ha2 hj hjm
    simp only [Ren.put] at hjm
    split at hjm
    · have := g.gb; omega
    · exact g.pins j mj ha2 hj hjm
  · have hyn : ynum ≠ H.next := by have := g.gb; unfold gbase at this; unfold ynum; omega
    have hyi : ynum ≠ i := by unfold gbase at hi; unfold ynum; omega
    refine g.yld_step (fun own rest h => by rwa [hnn, if_neg hyn, if_neg hyi] at h) (fun _ h => hle _ _ h) h1 h2 h3 (by rw [hs]; exact Nat.le_refl _) (fun k _ => ?_) (fun j n' hj hl hne => ?_)
    · by_cases e : k = m.b
      · exact .inr ⟨i, m, hm, ⟨o, ho, ha⟩, fun h => hyi h.symm, mb_of hi, e.symm⟩
      · exact .inl (hk k e)
    · simp only [Ren.put] at hj
      obtain ⟨y, hy, hay⟩ := hl
      rw [hnn] at hy
      by_cases e1 : j = H.next
      · simp only [e1, if_true, Option.some.injEq] at hj
        subst hj
        exact .inl ⟨i, m, hm, ⟨o, ho, ha⟩, fun h => hyi h.symm, hb.symm⟩
      · simp only [e1, if_false] at hj hy
        split at hy
        · cases hy; rw [hd] at hay; cases hay
        · exact .inl ⟨j, n', hj, ⟨y, hy, hay⟩, hne, rfl⟩
  · intro j hj hn
    have e1 : j ≠ H.next := by omega
    have e2 : j ≠ i := fun e => by rw [e, hm] at hn; cases hn
    exact ⟨by simp [Ren.put, e1, hn], by rw [hnn, if_neg e1, if_neg e2]⟩

/-- A block that is given up. -/
theorem Gam.die (g : Gam w0 ρ H w) {i : Nat} {m : Meta} {o d : AObj} (hm : ρ i = some m) (hi : gbase ≤ i) (ho : H.get i = some o) (ha : o.alive = true) (hr : ObjR ρ w m d) (hdy : d.isYld = false := by rfl) :
    Gam w0 ρ (H.set i d) w ∧ Ext ρ ρ H (H.set i d) :=
  g.update hm hi ho ha rfl (fun _ _ => rfl) rfl rfl rfl hr hdy

/-- A new array behind append. -/
theorem Gam.grown (g : Gam w0 ρ H w) {cs old new : List Value} {es newCap need : Nat} {elem : TypeId} {z : Value} (hcs : LR ρ cs (old ++ new)) (hlen : cs.length = need * es) (hz : z.cells.size = es) (hcap : need ≤ newCap) :
    ∃ ρ', Gam w0 ρ' (H.new (.cells cs elem true es)) (World.alloc { w with drawn := w.drawn + 1 } (.cells (old.toArray ++ new.toArray ++ Builtin.zeroCells z.cells (newCap - need)) elem)) ∧
      Ext ρ ρ' H (H.new (.cells cs elem true es)) ∧ VR ρ' (.slice (some ⟨H.next, 0, none⟩) need need) (.slice (some ⟨w.heap.size, 0, none⟩) need newCap) := by
  have hl2 := hcs.length
  have hzc : (Builtin.zeroCells z.cells (newCap - need)).size = (newCap - need) * es := by simp [Builtin.zeroCells, hz]
  have hsz : (old.toArray ++ new.toArray ++ Builtin.zeroCells z.cells (newCap - need)).size = need * es + (newCap - need) * es := by
    simp only [Array.size_append, List.size_toArray, hzc]
    simp only [List.length_append] at hl2
    omega
  have hmul : need * es + (newCap - need) * es = newCap * es := by rw [← Nat.add_mul]; congr 1; omega
  let m : Meta := ⟨w.heap.size, 0, need * es, true, es, need * es + (newCap - need) * es, by omega⟩
  have gd := g.drawn (w.drawn + 1)
  obtain ⟨g', e'⟩ := gd.new (.cells cs elem true es) (.cells (old.toArray ++ new.toArray ++ Builtin.zeroCells z.cells (newCap - need)) elem) m rfl (by
    refine ⟨hlen.symm, rfl, rfl, _, elem, alloc_get _ _, hsz, ?_⟩
    simp only [Array.toList_append]
    rw [show m.o = 0 from rfl, List.drop_zero, hl2, List.take_append_of_le_length (by simp), List.take_of_length_le (Nat.le_refl _)]
    exact hcs.mono (gd.le_put m))
  refine ⟨_, g', e', ?_⟩
  have hput : (ρ.put H.next m) H.next = some m := by simp [Ren.put]
  have := VR.opened (ρ := ρ.put H.next m) H.next 0 need need newCap m hput (by simp [Meta.isOpen, m]) hcap (by simp [m]; omega) (Nat.le_refl _)
  simpa [m] using this

theorem isIntP_spec {t : TypeId} {b : Bool} (h : isIntP P t = some b) : ∃ d, P.underlying t = some d ∧ (match d with | .int _ => true | _ => false) = b := by
  unfold isIntP at h
  cases hu : P.underlying t with
  | none => simp [hu] at h
  | some d =>
    simp only [hu, Option.map_some, Option.some.injEq] at h
    refine ⟨d, rfl, ?_⟩
    first | exact h | (rw [← h]; cases d <;> rfl)


/-- Cells behind which others have been laid. -/
theorem laid_behind {c : List Value} {a l n : Nat} {old new : List Value} (hl : old.length = l) (ho : ∀ j v, old[j]? = some v → c[a + j]? = some v) (hn : new.length = n) (hfit : a + l + n ≤ c.length) :
    ((c.take (a + l) ++ new ++ c.drop (a + l + n)).drop a).take (l + n) = old ++ new := by
  apply List.ext_getElem?
  intro j
  simp only [List.getElem?_take, List.getElem?_drop, List.getElem?_append, List.length_append, List.length_take, hl, hn]
  by_cases h1 : j < l
  · obtain ⟨v, hv⟩ : ∃ v, old[j]? = some v := ⟨_, List.getElem?_eq_getElem (by omega)⟩
    have h2 := ho j v hv
    rw [if_pos (by omega), if_pos (by omega), if_pos (by omega), if_pos (by omega), if_pos h1, h2, hv]
  · by_cases h2 : j < l + n
    · rw [if_pos h2, if_pos (by omega), if_neg (by omega), if_neg h1]
      congr 1; omega
    · rw [if_neg h2, if_neg h1]
      rw [List.getElem?_eq_none (by omega)]

/-- What a slice of the evaluator is. -/
theorem slice_inv {i k len cap : Nat} {x' : Value} (h : VR ρ (.slice (some ⟨i, k, none⟩) len cap) x') :
    ∃ m, ρ i = some m ∧ ∃ (off capC : Nat), x' = .slice (some ⟨m.b, off, none⟩) len capC ∧ cap ≤ capC ∧ (m.isOpen k cap = false → off = m.o + k ∧ capC = cap) ∧
      (m.isOpen k cap = true → (off = m.o + k ∧ off + capC * m.es ≤ m.size) ∨ (len = 0 ∧ cap = 0 ∧ capC = 0)) := by
  cases h with
  | slice i k len cap m hm ho hl =>
    refine ⟨m, hm, _, _, rfl, Nat.le_refl _, fun _ => ⟨rfl, rfl⟩, ?_⟩
    intro h; rw [ho] at h; cases h
  | opened i k len cap capC m hm ho hc hs hl =>
    refine ⟨m, hm, _, _, rfl, hc, ?_, fun _ => .inl ⟨rfl, hs⟩⟩
    intro h; rw [ho] at h; cases h
  | empty i k off m hm ho _ =>
    refine ⟨m, hm, _, _, rfl, Nat.le_refl _, ?_, fun _ => .inr ⟨rfl, rfl, rfl⟩⟩
    intro h; rw [ho] at h; cases h
theorem slice_lc {i k len cap : Nat} {x' : Value} (h : VR ρ (.slice (some ⟨i, k, none⟩) len cap) x') : len ≤ cap := by
  cases h with
  | slice i k len cap m hm ho hl => exact hl
  | opened i k len cap capC m hm ho hc hs hl => exact hl
  | empty i k off m hm ho _ => exact Nat.le_refl _
theorem slice_off {i k len cap : Nat} {x' : Value} (h : VR ρ (.slice (some ⟨i, k, none⟩) len cap) x') {m : Meta} {off capC : Nat} (hm : ρ i = some m) (e : x' = .slice (some ⟨m.b, off, none⟩) len capC) (ho : m.isOpen k cap = true) : off ≤ m.size := by
  cases h with
  | slice i k len cap m' hm' ho' _ => rw [hm] at hm'; cases hm'; rw [ho] at ho'; cases ho'
  | opened i k len cap capC' m' hm' ho' hc hs _ => rw [hm] at hm'; cases hm'; cases e; omega
  | empty i k off' m' hm' ho' hz => rw [hm] at hm'; cases hm'; cases e; exact hz
theorem slice_mk {i k len len' cap : Nat} {m : Meta} {off capC : Nat} (hm : ρ i = some m) (hc : cap ≤ capC) (h1 : m.isOpen k cap = false → off = m.o + k ∧ capC = cap)
    (h2 : m.isOpen k cap = true → (off = m.o + k ∧ off + capC * m.es ≤ m.size) ∨ (len' = 0 ∧ cap = 0 ∧ capC = 0)) (hl : cap = 0 → len = 0) (hz : m.isOpen k cap = true → off ≤ m.size) (hlc : len ≤ cap) :
    VR ρ (.slice (some ⟨i, k, none⟩) len cap) (.slice (some ⟨m.b, off, none⟩) len capC) := by
  by_cases ho : m.isOpen k cap = true
  · rcases h2 ho with ⟨rfl, hs⟩ | ⟨_, rfl, rfl⟩
    · exact .opened i k len cap capC m hm ho hc hs hlc
    · rw [hl rfl]; exact .empty i k off m hm ho (hz ho)
  · obtain ⟨rfl, rfl⟩ := h1 (by simpa using ho)
    exact .slice i k len _ m hm (by simpa using ho) hlc

theorem write_empty {i k : Nat} {m : Meta} {H' : Heap} (g : Gam w0 ρ H w) (hm : ρ i = some m) (h : H.write i k [] = some H') : Gam w0 ρ H' w ∧ Ext ρ ρ H H' := by
  obtain ⟨w', hr, h1, h2⟩ := g.write hm .nil h
  have : w' = w := by cases hr; rfl
  subst this
  exact ⟨h1, h2⟩

theorem appendA_sound (g : Gam w0 ρ H w) {argTypes : Array TypeId} {type : TypeId} {args args' : Array Value} {v : Value} {H' : Heap} (ha : LR ρ args.toList args'.toList) (h : appendA P H argTypes args = some (v, H')) :
    ∃ ρ' v' w', Gam w0 ρ' H' w' ∧ Ext ρ ρ' H H' ∧ VR ρ' v v' ∧ (Builtin.append_ argTypes type args').run P w = .ok v' w' := by
  unfold appendA at h
  split at h
  case h_2 => cases h
  rename_i o1 o2 o3 sType base sLen sCap x h0 h1 h2
  have h0' : argTypes[0]? = some sType := h0
  obtain ⟨s', e1, hs⟩ := ha.get (n := 0) (v := .slice base sLen sCap) (by simpa [vAt] using h1)
  obtain ⟨x', e2, hx⟩ := ha.get (n := 1) (v := x) (by simpa [vAt] using h2)
  have e1' : args'[0]? = some s' := by simpa using e1
  have e2' : args'[1]? = some x' := by simpa using e2
  cases hu : P.underlying sType with
  | none => simp [hu] at h
  | some d =>
    cases d with
    | slice elem =>
      simp only [hu, Option.bind_eq_bind, Option.bind_some] at h
      cases hi : P.info? elem with
      | none => simp [hi] at h
      | some i =>
        simp only [hi, Option.bind_some] at h
        cases hz : i.zero with
        | none => simp [hz] at h
        | some z =>
          simp only [hz, Option.bind_some] at h
          obtain ⟨zeros, hzs, h⟩ := Option.bind_eq_some_iff.1 h
          obtain ⟨n, hn, h⟩ := Option.bind_eq_some_iff.1 h
          obtain ⟨new, hnew, h⟩ := Option.bind_eq_some_iff.1 h
          split at h
          · cases h
          · rename_i hc
            simp only [Bool.or_eq_true, bne_iff_ne, ne_eq, not_or, Bool.not_eq_true, Decidable.not_not] at hc
            obtain ⟨⟨hz0, hzs2⟩, hnl⟩ := hc
            have hzero : ∀ xType, argTypes[1]? = some xType → ∃ d, P.underlying xType = some d ∧ (match d with | .int _ => true | _ => false) = false := by
              intro xType hx1
              have ht : tAt argTypes 1 = some xType := hx1
              simp only [zerosP, ht] at hzs
              obtain ⟨d, hd, hd2⟩ := isIntP_spec hzs
              exact ⟨d, hd, by rw [hz0] at hd2; cases d <;> first | rfl | simp at hd2⟩
            have hlr := lenA_run (P := P) hx hn w
            obtain ⟨new', hnlr, hnrun⟩ := firstA_run (P := P) g hx hnew
            have gd := g.drawn (w.drawn + 1)
            obtain ⟨new2, hnlr2, hnrun2⟩ := firstA_run (P := P) gd hx hnew
            split at h
            · -- there is room
              rename_i hle
              cases base with
              | none =>
                simp only at h
                split at h
                · rename_i hn0
                  simp only [Option.some.injEq, Prod.mk.injEq] at h
                  obtain ⟨rfl, rfl⟩ := h
                  have hs' : s' = .slice none sLen sCap := by cases hs; rfl
                  rw [hs'] at e1'
                  refine ⟨ρ, _, w, g, .refl _ _, .nilSlice _ _, ?_⟩
                  exact append_fits h0' e1' e2' hu hi hzero hlr hle hnrun rfl
                · cases h
              | some a =>
                obtain ⟨b, off, sp⟩ := a
                cases sp with
                | some q => simp at h
                | none =>
                  simp only at h
                  obtain ⟨H1, hw1, h⟩ := Option.bind_eq_some_iff.1 h
                  simp only [Option.some.injEq, Prod.mk.injEq] at h
                  obtain ⟨rfl, rfl⟩ := h
                  obtain ⟨m, hm, offC, capC, es', hcap, hx1, hx2⟩ := slice_inv hs
                  rw [es'] at e1'
                  have hmk : VR ρ (.slice (some ⟨b, off, none⟩) (sLen + n) sCap) (.slice (some ⟨m.b, offC, none⟩) (sLen + n) capC) :=
                    slice_mk (len' := sLen) hm hcap hx1 hx2 (by omega) (slice_off hs hm es') (by omega)
                  by_cases hoff : offC = m.o + off
                  · obtain ⟨w', hst, g', ext⟩ := g.write (P := P) hm hnlr hw1
                    refine ⟨ρ, _, w', g', ext, hmk, ?_⟩
                    refine append_fits h0' e1' e2' hu hi hzero hlr (by omega) hnrun ?_
                    simp only [addr_add, hoff]
                    rw [Nat.add_assoc]; exact hst
                  · have h0c : sLen = 0 ∧ sCap = 0 ∧ capC = 0 := by
                      by_cases ho : m.isOpen off sCap = true
                      · rcases hx2 ho with h | h
                        · exact absurd h.1 hoff
                        · exact h
                      · exact absurd (hx1 (by simpa using ho)).1 hoff
                    obtain ⟨s0, c0, cc0⟩ := h0c
                    have hn0 : n = 0 := by omega
                    have hnil : new = [] := List.length_eq_zero_iff.1 (by rw [hnl, hn0]; simp)
                    subst hnil
                    cases hnlr
                    obtain ⟨g', ext⟩ := write_empty g hm hw1
                    refine ⟨ρ, _, w, g', ext, hmk, ?_⟩
                    exact append_fits h0' e1' e2' hu hi hzero hlr (by omega) hnrun rfl
            · rename_i hgt
              split at h
              · cases h
              · rename_i hc2
                simp only [Bool.or_eq_true, decide_eq_true_eq, not_or, gt_iff_lt, Nat.not_lt] at hc2
                obtain ⟨hbytes, hsmall⟩ := hc2
                cases base with
                | none =>
                  simp only at h
                  split at h
                  · rename_i hs0
                    simp only [Option.some.injEq, Prod.mk.injEq] at h
                    obtain ⟨rfl, rfl⟩ := h
                    have hs' : s' = .slice none sLen sCap := by cases hs; rfl
                    rw [hs'] at e1'
                    obtain ⟨newCap, hcap, hrun⟩ := append_grows (type := type) (old := []) h0' e1' e2' hu hi hz hzero hlr hgt hbytes hsmall rfl hnrun2
                    obtain ⟨ρ', g', ext, hv⟩ := g.grown (cs := new) (old := []) (new := new2) (es := i.size) (newCap := newCap) (need := sLen + n) (elem := elem) hnlr2 (by rw [hnl, hs0, Nat.zero_add]) hzs2 hcap
                    exact ⟨ρ', _, _, g', ext, hv, hrun⟩
                  · cases h
                | some a =>
                  obtain ⟨b, off, sp⟩ := a
                  cases sp with
                  | some q => simp at h
                  | none =>
                    simp only at h
                    obtain ⟨old, hold, h⟩ := Option.bind_eq_some_iff.1 h
                    obtain ⟨ob, hob, h⟩ := Option.bind_eq_some_iff.1 h
                    obtain ⟨m, hm, offC, capC, es', hcap, hx1, hx2⟩ := slice_inv hs
                    rw [es'] at e1'
                    obtain ⟨holdlen, old', holr, hocell⟩ := g.cellsAt hm hold
                    have holdrun : (Builtin.firstCells i.size sLen (.slice (some ⟨m.b, offC, none⟩) sLen capC)).run P { w with drawn := w.drawn + 1 } = .ok old'.toArray { w with drawn := w.drawn + 1 } := by
                      by_cases hoff : offC = m.o + off
                      · rw [hoff]
                        have h3 := run_loadCells_list (P := P) { w with drawn := w.drawn + 1 } ⟨m.b, m.o + off, none⟩ old' (fun j u hu => by rw [addr_add]; exact hocell j u hu)
                        rwa [← holr.length, holdlen] at h3
                      · have h0c : sLen = 0 := by
                          by_cases ho : m.isOpen off sCap = true
                          · rcases hx2 ho with h | h
                            · exact absurd h.1 hoff
                            · exact h.1
                          · exact absurd (hx1 (by simpa using ho)).1 hoff
                        rw [h0c, Nat.zero_mul] at holdlen
                        have : old' = [] := List.length_eq_zero_iff.1 (by rw [← holr.length, holdlen])
                        rw [this, h0c]
                        simp only [Builtin.firstCells, Nat.zero_mul]
                        rfl
                    have hlen2 : (old ++ new).length = (sLen + n) * i.size := by rw [List.length_append, holdlen, hnl, Nat.add_mul]
                    cases ob with
                    | cells cs ty o es =>
                      simp only at h
                      obtain ⟨k1, k2, k3, c, ty', hb, hsz, hlr2⟩ := g.obj b m _ hm hob
                      have hiso : m.isOpen off sCap = (o && off + sCap * es == cs.length) := by simp [Meta.isOpen, k1, k2, k3]
                      split at h
                      · rename_i hopen
                        rw [hopen] at hiso
                        split at h
                        · rename_i hcond
                          simp only [Bool.and_eq_true, decide_eq_true_eq] at hcond
                          obtain ⟨⟨hes, hgb⟩, hok⟩ := hcond
                          simp only [Option.some.injEq, Prod.mk.injEq] at h
                          obtain ⟨rfl, rfl⟩ := h
                          by_cases hfit : sLen + n ≤ capC
                          · obtain ⟨hoff, hroom⟩ : offC = m.o + off ∧ offC + capC * m.es ≤ m.size := by
                              rcases hx2 hiso with h | h
                              · exact h
                              · omega
                            rw [k3, hes] at hroom
                            have hmul : (sLen + n) * i.size ≤ capC * i.size := Nat.mul_le_mul_right _ hfit
                            have hnl' : new'.length = n * i.size := by rw [← hnlr.length, hnl]
                            have hadd : (sLen + n) * i.size = sLen * i.size + n * i.size := Nat.add_mul _ _ _
                            have hst := run_storeCells_at (P := P) m.b (offC + sLen * i.size) ty' new' 0 c w hb (by omega) (hnlr.one hok)
                            simp only [Nat.add_zero] at hst
                            have hnewrow := setRow_heap w m.b c (c.toList.take (offC + sLen * i.size) ++ new' ++ c.toList.drop (offC + sLen * i.size + new'.length)).toArray ty' (0, 0) hb
                            let mm : Meta := ⟨m.b, m.o + off, (sLen + n) * i.size, true, i.size, m.size, by omega⟩
                            obtain ⟨g', ext⟩ := g.move (n := mm) (x := .cells (old ++ new) elem true i.size) (d := .dead cs.length o es)
                              (w' := w.setRow m.b (c.toList.take (offC + sLen * i.size) ++ new' ++ c.toList.drop (offC + sLen * i.size + new'.length)).toArray) hm hgb hob rfl rfl rfl (setRow_size _ _ _) (fun k hk => setRow_heap_ne _ _ _ _ hk) rfl rfl rfl
                              (by
                                refine ⟨hlen2.symm, rfl, rfl, _, ty', hnewrow, ?_, ?_⟩
                                · simp only [List.size_toArray, List.length_append, List.length_take, List.length_drop, Array.length_toList]
                                  show _ = m.size
                                  omega
                                · rw [show mm.o = offC from hoff.symm, hlen2, hadd, hnl']
                                  rw [laid_behind (c := c.toList) (a := offC) (l := sLen * i.size) (n := n * i.size) (old := old') (new := new') (by rw [← holr.length, holdlen]) (fun j v hv => by
                                      have h5 := hocell j v hv
                                      simp only [World.cell?, hb, Option.isSome_none, Bool.false_eq_true, if_false] at h5
                                      rw [hoff]; simpa using h5) hnl' (by simp only [Array.length_toList]; omega)]
                                  exact (holr.append hnlr).mono (g.le_put mm)) ⟨k1, k2, k3⟩
                            have hput : (ρ.put H.next mm) H.next = some mm := by simp [Ren.put]
                            have hv := VR.opened (ρ := ρ.put H.next mm) H.next 0 (sLen + n) (sLen + n) capC mm hput (by simp [Meta.isOpen, mm]) hfit (by
                              show m.o + off + 0 + capC * i.size ≤ m.size
                              omega) (Nat.le_refl _)
                            refine ⟨_, _, _, g', ext, ?_, append_fits h0' e1' e2' hu hi hzero hlr hfit hnrun (by simp only [addr_add]; exact hst)⟩
                            rw [show mm.o + 0 = offC from by rw [hoff]; rfl] at hv
                            exact hv
                          · obtain ⟨gk, extk⟩ := g.die (d := .dead cs.length o es) hm hgb hob rfl ⟨k1, k2, k3⟩
                            obtain ⟨newCap, hcap2, hrun⟩ := append_grows (type := type) h0' e1' e2' hu hi hz hzero hlr hfit hbytes hsmall holdrun hnrun2
                            obtain ⟨ρ', g', ext, hv⟩ := gk.grown (cs := old ++ new) (es := i.size) (newCap := newCap) (need := sLen + n) (elem := elem) (holr.append hnlr2) hlen2 hzs2 hcap2
                            exact ⟨ρ', _, _, g', extk.trans ext, hv, hrun⟩
                        · cases h
                      · rename_i hopen
                        simp only [Bool.not_eq_true] at hopen
                        rw [hopen] at hiso
                        obtain ⟨hoff, hcc⟩ := hx1 hiso
                        simp only [Option.some.injEq, Prod.mk.injEq] at h
                        obtain ⟨rfl, rfl⟩ := h
                        obtain ⟨newCap, hcap2, hrun⟩ := append_grows (type := type) h0' e1' e2' hu hi hz hzero hlr (by rw [hcc]; exact hgt) hbytes hsmall holdrun hnrun2
                        obtain ⟨ρ', g', ext, hv⟩ := g.grown (cs := old ++ new) (es := i.size) (newCap := newCap) (need := sLen + n) (elem := elem) (holr.append hnlr2) hlen2 hzs2 hcap2
                        exact ⟨ρ', _, _, g', ext, hv, hrun⟩
                    | _ => simp at h
    | _ => simp [hu] at h

end Go.Abs

/- copy, clear, maps: the evaluator is sound. -/
namespace Go.Abs
open Go.RowKit
variable {P : Program} {ρ : Ren} {w0 : Start P} {w : World} {H : Heap}

theorem firstA_len (g : Gam w0 ρ H w) {x x' : Value} (hx : VR ρ x x') {size : Nat} {cs : List Value} (h : firstA H size 0 x = some cs) : cs = [] := by
  cases hx with
  | string s => simp only [firstA, List.take_zero, List.map_nil, Option.some.injEq] at h; exact h.symm
  | nilSlice l c => simp only [firstA, Option.some.injEq] at h; exact h.symm
  | slice i k len cap m hm ho hl => exact List.length_eq_zero_iff.1 (by have := (g.cellsAt hm (show H.cellsAt i k (0 * size) = some cs from h)).1; omega)
  | opened i k len cap capC m hm ho hc hs hl => exact List.length_eq_zero_iff.1 (by have := (g.cellsAt hm (show H.cellsAt i k (0 * size) = some cs from h)).1; omega)
  | empty i k off m hm ho _ => exact List.length_eq_zero_iff.1 (by have := (g.cellsAt hm (show H.cellsAt i k (0 * size) = some cs from h)).1; omega)
  | _ => simp [firstA] at h

theorem copyA_sound (g : Gam w0 ρ H w) {argTypes : Array TypeId} {type : TypeId} {args args' : Array Value} {v : Value} {H' : Heap} (ha : LR ρ args.toList args'.toList) (h : copyA P H argTypes args = some (v, H')) :
    ∃ v' w', Gam w0 ρ H' w' ∧ Ext ρ ρ H H' ∧ VR ρ v v' ∧ (Builtin.copy_ argTypes type args').run P w = .ok v' w' := by
  unfold copyA at h
  split at h
  case h_2 => cases h
  rename_i o1 o2 o3 sType base dLen dCap x h0 h1 h2
  have h0' : argTypes[0]? = some sType := h0
  obtain ⟨s', e1, hs⟩ := ha.get (n := 0) (v := .slice base dLen dCap) (by simpa [vAt] using h1)
  obtain ⟨x', e2, hx⟩ := ha.get (n := 1) (v := x) (by simpa [vAt] using h2)
  have e1' : args'[0]? = some s' := by simpa using e1
  have e2' : args'[1]? = some x' := by simpa using e2
  cases hu : P.underlying sType with
  | none => simp [hu] at h
  | some d =>
    cases d with
    | slice elem =>
      simp only [hu, Option.bind_eq_bind, Option.bind_some] at h
      obtain ⟨size, hsz, h⟩ := Option.bind_eq_some_iff.1 h
      obtain ⟨n, hn, h⟩ := Option.bind_eq_some_iff.1 h
      obtain ⟨cs, hcs, h⟩ := Option.bind_eq_some_iff.1 h
      have hlr := lenA_run (P := P) hx hn w
      obtain ⟨cs', hclr, hcrun⟩ := firstA_run (P := P) g hx hcs
      cases base with
      | none =>
        simp only at h
        split at h
        · rename_i hz
          simp only [Option.some.injEq, Prod.mk.injEq] at h
          obtain ⟨rfl, rfl⟩ := h
          have hs' : s' = .slice none dLen dCap := by cases hs; rfl
          rw [hs'] at e1'
          refine ⟨_, w, g, .refl _ _, .int _ _, ?_⟩
          unfold Builtin.copy_
          simp only [h0', e1', e2', Sem.run_bind, und_run hu, Result.andThen_ok, hlr, size_run hsz, hcrun]
          rfl
        · cases h
      | some a =>
        obtain ⟨b, off, sp⟩ := a
        cases sp with
        | some q => simp at h
        | none =>
          simp only at h
          obtain ⟨H1, hw1, h⟩ := Option.bind_eq_some_iff.1 h
          simp only [Option.some.injEq, Prod.mk.injEq] at h
          obtain ⟨rfl, rfl⟩ := h
          obtain ⟨m, hm, offC, capC, es', hcap, hx1, hx2⟩ := slice_inv hs
          rw [es'] at e1'
          have fin : ∀ w', (storeCells ⟨m.b, offC, none⟩ cs').run P w = .ok () w' → (Builtin.copy_ argTypes type args').run P w = .ok (.int .i64 (Nat.min n dLen)) w' := by
            intro w' hst
            unfold Builtin.copy_
            simp only [h0', e1', e2', Sem.run_bind, und_run hu, Result.andThen_ok, hlr, size_run hsz, hcrun, hst]
            rfl
          by_cases hoff : offC = m.o + off
          · obtain ⟨w', hst, g', ext⟩ := g.write (P := P) hm hclr hw1
            exact ⟨_, w', g', ext, .int _ _, fin w' (by rw [hoff]; exact hst)⟩
          · have h0c : dLen = 0 := by
              by_cases ho : m.isOpen off dCap = true
              · rcases hx2 ho with h | h
                · exact absurd h.1 hoff
                · exact h.1
              · exact absurd (hx1 (by simpa using ho)).1 hoff
            have hnil : cs = [] := firstA_len g hx (size := size) (by rw [← hcs, h0c]; simp)
            subst hnil
            cases hclr
            obtain ⟨g', ext⟩ := write_empty g hm hw1
            exact ⟨_, w, g', ext, .int _ _, fin w rfl⟩
    | _ => simp [hu] at h

theorem clearA_sound (g : Gam w0 ρ H w) {argTypes : Array TypeId} {type : TypeId} {args args' : Array Value} {v : Value} {H' : Heap} (ha : LR ρ args.toList args'.toList) (h : clearA P H argTypes args = some (v, H')) :
    ∃ v' w', Gam w0 ρ H' w' ∧ Ext ρ ρ H H' ∧ VR ρ v v' ∧ (Builtin.clear_ argTypes type args').run P w = .ok v' w' := by
  have vt : VR ρ (.tuple #[]) (.tuple #[]) := VR.tuple' .nil
  unfold clearA at h
  split at h
  case h_2 => cases h
  rename_i o1 o2 t base n cap h0 h1
  have h0' : argTypes[0]? = some t := h0
  obtain ⟨s', e1, hs⟩ := ha.get (n := 0) (v := .slice base n cap) (by simpa [vAt] using h1)
  have e1' : args'[0]? = some s' := by simpa using e1
  cases hu : P.underlying t with
  | none =>
    simp only [hu] at h
    cases base with
    | none => simp at h
    | some a =>
      obtain ⟨b, off, sp⟩ := a
      cases sp with
      | some q => simp at h
      | none => simp at h
  | some d =>
    simp only [hu, Option.isSome_some, if_true, Option.bind_eq_bind, Option.bind_some] at h
    cases base with
    | none =>
      simp only [Option.some.injEq, Prod.mk.injEq] at h
      obtain ⟨rfl, rfl⟩ := h
      have hs' : s' = .slice none n cap := by cases hs; rfl
      rw [hs'] at e1'
      refine ⟨_, w, g, .refl _ _, vt, ?_⟩
      unfold Builtin.clear_
      simp only [h0', e1', Sem.run_bind, und_run hu, Result.andThen_ok]
      cases d <;> rfl
    | some a =>
      obtain ⟨b, off, sp⟩ := a
      cases sp with
      | some q => simp at h
      | none =>
        simp only at h
        obtain ⟨m, hm, offC, capC, es', hcap, hx1, hx2⟩ := slice_inv hs
        rw [es'] at e1'
        split at h
        · rename_i hn
          subst hn
          simp only [Option.some.injEq, Prod.mk.injEq] at h
          obtain ⟨rfl, rfl⟩ := h
          refine ⟨_, w, g, .refl _ _, vt, ?_⟩
          unfold Builtin.clear_
          simp only [h0', e1', Sem.run_bind, und_run hu, Result.andThen_ok]
          cases d <;> rfl
        · rename_i hn
          cases d with
          | slice elem =>
            simp only at h
            obtain ⟨i, hi, h⟩ := Option.bind_eq_some_iff.1 h
            obtain ⟨z, hz, h⟩ := Option.bind_eq_some_iff.1 h
            split at h
            · cases h
            · rename_i hp
              simp only [Bool.not_eq_true', Bool.not_eq_false] at hp
              obtain ⟨H1, hw1, h⟩ := Option.bind_eq_some_iff.1 h
              simp only [Option.some.injEq, Prod.mk.injEq] at h
              obtain ⟨rfl, rfl⟩ := h
              have hoff : offC = m.o + off := by
                by_cases ho : m.isOpen off cap = true
                · rcases hx2 ho with h | h
                  · exact h.1
                  · exact absurd h.1 hn
                · exact (hx1 (by simpa using ho)).1
              obtain ⟨w', hst, g', ext⟩ := g.write (P := P) hm (zeroCells_LR (ρ := ρ) (n := 0) hp n) hw1
              refine ⟨_, w', g', ext, vt, ?_⟩
              unfold Builtin.clear_
              simp only [h0', e1', Sem.run_bind, und_run hu, Result.andThen_ok, zero_run hi hz, hoff, hst]
              rfl
          | _ => simp at h

/-! ### Maps -/
theorem beqB {x y : ByteArray} (h : (x == y) = true) : x = y := by
  cases x with
  | mk a =>
    cases y with
    | mk b =>
      have h2 : (a == b) = true := h
      rw [eq_of_beq h2]
theorem sameNow_spec {d : TypeDesc} {a b : Value} {r : Bool} (h : Instr.sameNow d a b = some r) : r = true → a = b ∧ Instr.sameBits 10000 b a = true := by
  unfold Instr.sameNow at h
  split at h
  · rename_i k0 k x k' y
    split at h
    · rename_i e
      subst e
      simp only [Option.some.injEq] at h
      intro hr
      rw [hr] at h
      have e2 : x = y := by simpa using h
      subst e2
      exact ⟨rfl, by simp [Instr.sameBits]⟩
    · cases h
  · rename_i x y
    simp only [Option.some.injEq] at h
    intro hr
    rw [hr] at h
    have e2 : x = y := beqB h
    subst e2
    exact ⟨rfl, by simp only [Instr.sameBits]; exact h⟩
  · rename_i x y
    simp only [Option.some.injEq] at h
    intro hr
    rw [hr] at h
    have e2 : x = y := by simpa using h
    subst e2
    exact ⟨rfl, by simp [Instr.sameBits]⟩
  · cases h

theorem findNow_R {d : TypeDesc} {k : Value} : ∀ {es es' : List MapEntry}, ER ρ es es' → ∀ {i : Nat} {r : Option (Nat × Value)}, Instr.findNow d k es i = some r →
    (r = none ∧ Instr.findNow d k es' i = some none) ∨
    (∃ j v v' e', r = some (i + j, v) ∧ VR ρ v v' ∧ Instr.findNow d k es' i = some (some (i + j, v')) ∧ es'[j]? = some e' ∧ e'.key = k ∧ Instr.sameBits 10000 e'.key k = true) := by
  intro es es' h
  induction h with
  | nil => intro i r e; simp only [Instr.findNow, Option.some.injEq] at e; exact .inl ⟨e.symm, rfl⟩
  | @cons e e' l l' hk kk hv hb _ ih =>
    intro i r he
    have ek : e'.key = e.key := plain_eq 1 _ _ kk hk
    simp only [Instr.findNow] at he ⊢
    rw [ek]
    cases hsn : Instr.sameNow d k e.key with
    | none => simp [hsn] at he
    | some b =>
      cases b with
      | true =>
        simp only [hsn, Option.some.injEq] at he
        obtain ⟨h1, h2⟩ := sameNow_spec hsn rfl
        refine .inr ⟨0, e.val, e'.val, e', by rw [← he]; rfl, hv, rfl, rfl, ?_, ?_⟩
        · rw [ek, h1]
        · rw [ek]; exact h2
      | false =>
        simp only [hsn] at he
        rcases ih he with ⟨h1, h2⟩ | ⟨j, v, v', e2, h1, h2, h3, h4, h5⟩
        · exact .inl ⟨h1, h2⟩
        · refine .inr ⟨j + 1, v, v', e2, ?_, h2, ?_, h4, h5⟩
          · rw [h1, show i + 1 + j = i + (j + 1) by omega]
          · rw [h3, show i + 1 + j = i + (j + 1) by omega]

theorem checkKey_run {key : TypeId} {kd : TypeDesc} (hu : P.underlying key = some kd) (hs : simpleKey kd = true) (b : Bool) (k : Value) (w : World) : (Instr.checkKey b 10000 key k).run P w = .ok () w := by
  unfold Instr.checkKey
  simp only [Sem.run_bind, und_run hu, Result.andThen_ok]
  cases kd <;> first | rfl | simp [simpleKey] at hs

theorem findKey_run {key : TypeId} {kd : TypeDesc} (hu : P.underlying key = some kd) {k : Value} {es : List MapEntry} {r : Option (Nat × Value)} (h : Instr.findNow kd k es 0 = some r) (w : World) : (Instr.findKey key k es).run P w = .ok r w := by
  unfold Instr.findKey
  simp only [Sem.run_bind, und_run hu, Result.andThen_ok, h]
  rfl

theorem lookupA_sound (g : Gam w0 ρ H w) {t : TypeId} {m m' k k' v : Value} {ok : Bool} (hm : VR ρ m m') (hk : VR ρ k k') (h : lookupA P H t m k ok = some v) :
    ∃ v', VR ρ v v' ∧ (Instr.lookup t m' k' ok).run P w = .ok v' w := by
  unfold lookupA at h
  cases hu : P.underlying t with
  | none => simp [hu] at h
  | some d =>
    cases d with
    | map key elem =>
      simp only [hu, Option.bind_eq_bind, Option.bind_some] at h
      obtain ⟨kd, hkd, h⟩ := Option.bind_eq_some_iff.1 h
      split at h
      · cases h
      · rename_i hc
        simp only [Bool.or_eq_true, Bool.not_eq_true', not_or, Bool.not_eq_false] at hc
        obtain ⟨hsk, hpk⟩ := hc
        have ekk : k' = k := plain_eq 1 _ _ hpk hk
        subst ekk
        obtain ⟨es, hes, h⟩ := Option.bind_eq_some_iff.1 h
        obtain ⟨i, hi, h⟩ := Option.bind_eq_some_iff.1 h
        obtain ⟨z, hz, h⟩ := Option.bind_eq_some_iff.1 h
        split at h
        · cases h
        · rename_i hpz
          simp only [Bool.not_eq_true', Bool.not_eq_false] at hpz
          obtain ⟨r, hr, h⟩ := Option.bind_eq_some_iff.1 h
          have fin : ∀ es' : Array MapEntry, ER ρ es es'.toList → ∃ v', VR ρ v v' ∧ ∀ E : Sem Value, (E.run P w = Sem.run P (do
              Instr.checkKey es'.isEmpty 10000 key k'
              match ← Instr.findKey key k' es'.toList with
              | some (_, v) => pure (if ok then .tuple #[v, .bool true] else v)
              | none => (do let z ← zeroValue elem; pure (if ok then .tuple #[z, .bool false] else z))) w) → E.run P w = .ok v' w := by
            intro es' her
            rcases findNow_R her hr with ⟨rfl, h2⟩ | ⟨j, u, u', e', rfl, h2, h3, _⟩
            · simp only [Option.some.injEq] at h
              subst h
              refine ⟨if ok = true then Value.tuple #[z, Value.bool false] else z, ?_, ?_⟩
              · have hzr := plain_refl ρ 8 z hpz
                cases ok
                · exact hzr
                · exact VR.tuple' (.cons hzr (.cons (.bool _) .nil))
              · intro E hE
                rw [hE]
                simp only [Sem.run_bind, checkKey_run hkd hsk, Result.andThen_ok, findKey_run hkd h2, zero_run hi hz]
                rfl
            · simp only [Option.some.injEq] at h
              subst h
              refine ⟨if ok = true then Value.tuple #[u', Value.bool true] else u', ?_, ?_⟩
              · cases ok
                · exact h2
                · exact VR.tuple' (.cons h2 (.cons (.bool _) .nil))
              · intro E hE
                rw [hE]
                simp only [Sem.run_bind, checkKey_run hkd hsk, Result.andThen_ok, findKey_run hkd h3]
                rfl
          cases hm with
          | nilMap =>
            simp only [entriesA, Option.some.injEq] at hes
            subst hes
            obtain ⟨v', hv, hE⟩ := fin #[] .nil
            refine ⟨v', hv, hE _ ?_⟩
            unfold Instr.lookup
            simp only [Sem.run_bind, und_run hu, Result.andThen_ok, Sem.run_pure]
            rcases findNow_R (ρ := ρ) (.nil : ER ρ [] []) hr with ⟨rfl, h2⟩ | ⟨j, u, u', e', rfl, h2, h3, h4, _⟩
            · simp only [checkKey_run hkd hsk, Result.andThen_ok, findKey_run hkd (show Instr.findNow kd k' [] 0 = some none from rfl), Sem.run_bind, zero_run hi hz, Sem.run_pure]
            · simp at h4
          | map j mm hmm =>
            simp only [entriesA] at hes
            cases ho : H.get j with
            | none => simp [ho] at hes
            | some o =>
              cases o with
              | map es0 clock =>
                simp only [ho, Option.some.injEq] at hes
                subst hes
                obtain ⟨es', hb, her⟩ := g.obj j mm _ hmm ho
                have hget : (getObj mm.b).run P w = .ok (.map es' clock) w := by simp [getObj, Sem.run, hb]
                obtain ⟨v', hv, hE⟩ := fin es' her
                refine ⟨v', hv, hE _ ?_⟩
                unfold Instr.lookup
                simp only [Sem.run_bind, und_run hu, Result.andThen_ok, Sem.run_pure, hget]
                rcases findNow_R her hr with ⟨rfl, h2⟩ | ⟨j, u, u', e', rfl, h2, h3, _⟩
                · simp only [checkKey_run hkd hsk, Result.andThen_ok, findKey_run hkd h2, Sem.run_bind, zero_run hi hz, Sem.run_pure]
                · simp only [checkKey_run hkd hsk, Result.andThen_ok, findKey_run hkd h3, Sem.run_bind, Sem.run_pure]
              | _ => simp [ho] at hes
          | _ => simp [entriesA] at hes
    | _ => simp [hu] at h

theorem ER.append {l l' : List MapEntry} (h : ER ρ l l') {e e' : MapEntry} (k : VR ρ e.key e'.key) (kk : plain 1 e.key = true) (v : VR ρ e.val e'.val) (b : e.born = e'.born) : ER ρ (l ++ [e]) (l' ++ [e']) := by
  induction h with
  | nil => exact .cons k kk v b .nil
  | cons h1 h2 h3 h4 _ ih => exact .cons h1 h2 h3 h4 ih
theorem ER.setVal {l l' : List MapEntry} (h : ER ρ l l') {v v' : Value} (hv : VR ρ v v') : ∀ (i : Nat) (k : Value) (e : MapEntry), l'[i]? = some e → e.key = k → ER ρ (setVal v l i) (l'.modify i fun e => { e with key := k, val := v' }) := by
  induction h with
  | nil => intro i k e he; simp at he
  | cons h1 h2 h3 h4 t ih =>
    intro i k e he hk
    cases i with
    | zero =>
      simp only [List.getElem?_cons_zero, Option.some.injEq] at he
      subst he hk
      exact .cons h1 h2 hv h4 t
    | succ i =>
      simp only [List.getElem?_cons_succ] at he
      exact .cons h1 h2 h3 h4 (ih i k e he hk)

theorem updateA_sound (g : Gam w0 ρ H w) {t : TypeId} {m m' k k' v v' : Value} {H' : Heap} (hm : VR ρ m m') (hk : VR ρ k k') (hv : VR ρ v v') (h : updateA P H t m k v = some H') :
    ∃ w', Gam w0 ρ H' w' ∧ Ext ρ ρ H H' ∧ (Instr.mapUpdate t m' k' v').run P w = .ok () w' := by
  unfold updateA at h
  cases hu : P.underlying t with
  | none => simp [hu] at h
  | some d =>
    cases d with
    | map key elem =>
      simp only [hu, Option.bind_eq_bind, Option.bind_some] at h
      obtain ⟨kd, hkd, h⟩ := Option.bind_eq_some_iff.1 h
      split at h
      · cases h
      · rename_i hc
        simp only [Bool.or_eq_true, Bool.not_eq_true', not_or, Bool.not_eq_false] at hc
        obtain ⟨hsk, hpk⟩ := hc
        have ekk : k' = k := plain_eq 1 _ _ hpk hk
        subst ekk
        cases hm with
        | map j mm hmm =>
          simp only at h
          split at h
          · cases h
          rename_i hjb
          have hgb : gbase ≤ j := by omega
          cases ho : H.get j with
          | none => simp [ho] at h
          | some o =>
            cases o with
            | map es clock =>
              simp only [ho] at h
              obtain ⟨r, hr, h⟩ := Option.bind_eq_some_iff.1 h
              obtain ⟨es', hb, her⟩ := g.obj j mm _ hmm ho
              have hget : (getObj mm.b).run P w = .ok (.map es' clock) w := by simp [getObj, Sem.run, hb]
              have hlt : mm.b < w.heap.size := (g.own j mm hmm).1
              have hset : ∀ x : Obj, (setObj mm.b x).run P w = .ok () { w with heap := w.heap.setIfInBounds mm.b x } := fun x => by simp [setObj, Sem.run, hb]
              have upd : ∀ (y : AObj) (x : Obj) (_ : y.isYld = false), ObjR ρ { w with heap := w.heap.setIfInBounds mm.b x } mm y → Gam w0 ρ (H.set j y) { w with heap := w.heap.setIfInBounds mm.b x } ∧ Ext ρ ρ H (H.set j y) := by
                intro y x hy hx
                refine g.update hmm hgb ho rfl (by simp) (fun k hk => ?_) rfl rfl rfl hx hy
                simp only [Array.getElem?_setIfInBounds]
                rw [if_neg (fun e => hk e.symm)]
              have newget : ∀ x : Obj, (w.heap.setIfInBounds mm.b x)[mm.b]? = some x := fun x => by simp [hlt]
              rcases findNow_R her hr with ⟨rfl, h2⟩ | ⟨i, u, u', e', rfl, h2, h3, h4, h5, h6⟩
              · simp only [Option.some.injEq] at h
                subst h
                obtain ⟨g', ext⟩ := upd (.map (es ++ [{ key := k', val := v, born := clock }]) (clock + 1)) (.map (es'.push { key := k', val := v', born := clock }) (clock + 1)) rfl
                  ⟨_, newget _, by simpa using her.append (e := { key := k', val := v, born := clock }) (e' := { key := k', val := v', born := clock }) hk hpk hv rfl⟩
                refine ⟨_, g', ext, ?_⟩
                unfold Instr.mapUpdate
                simp only [Sem.run_bind, und_run hu, Result.andThen_ok, hget, checkKey_run hkd hsk, findKey_run hkd h2, hset]
              · simp only [Option.some.injEq, Nat.zero_add] at h
                subst h
                have hi : es'.toList[i]? = some e' := h4
                have hi' : es'[i]? = some e' := by simpa using hi
                have hsv := her.setVal hv i k' e' hi h5
                obtain ⟨g', ext⟩ := upd (.map (setVal v es i) clock) (.map (es'.modify i fun e => { e with key := k', val := v' }) clock) rfl ⟨_, newget _, by simpa using hsv⟩
                refine ⟨_, g', ext, ?_⟩
                unfold Instr.mapUpdate
                simp only [Nat.zero_add] at h3
                simp only [Sem.run_bind, und_run hu, Result.andThen_ok, hget, checkKey_run hkd hsk, findKey_run hkd h3, Instr.keyThatStays, hi', Option.map_some, Option.getD_some, h6, if_true, Sem.run_pure, hset]
            | _ => simp [ho] at h
        | _ => simp at h
    | _ => simp [hu] at h

end Go.Abs

/- One operation: the evaluator is sound. -/
namespace Go.Abs
open Go.RowKit
variable {P : Program} {ρ : Ren} {w0 : Start P} {w : World} {H : Heap}

inductive NxR (ρ : Ren) (w : World) : ANext → Next → Prop
  | value {v v' : Value} (h : VR ρ v v') : NxR ρ w (.value v) (.value v')
  | skip : NxR ρ w .skip .skip
  | enter {f : FuncId} {a a' : Array Value} (h : LR ρ a.toList a'.toList) : NxR ρ w (.enter f a) (.enter f a')
  | round {l : Nat} {a a' : Array Value} {m : Meta} {L : Loop} (hm : ρ l = some m) (hL : w.heap[m.b]? = some (.loop L)) (h : LR ρ a.toList a'.toList) :
      NxR ρ w (.round l a) (.round m.b L.fn ((L.params.zip a').foldl (fun tmps (t, a) => tmps.setIfInBounds t a) L.tmps) L.assign L.body)

/-- What is shown of one operation. -/
def OpS (P : Program) (w0 : Start P) (ρ : Ren) (H : Heap) (w : World) (nx : ANext) (H' : Heap) (e : Sem Next) : Prop :=
  ∃ ρ' nx' w', Gam w0 ρ' H' w' ∧ Ext ρ ρ' H H' ∧ NxR ρ' w' nx nx' ∧ e.run P w = .ok nx' w'

theorem OpS.val (g : Gam w0 ρ H w) {v v' : Value} (h : VR ρ v v') {e : Sem Next} (he : e.run P w = .ok (.value v') w) : OpS P w0 ρ H w (.value v) H e :=
  ⟨ρ, _, w, g, .refl _ _, .value h, he⟩

theorem pv (g : Gam w0 ρ H w) {e e' : Sem Value} {E : Sem Next} {nx : ANext} {H' : Heap} (hpr : PR P (VR ρ) e e') (h : ((pureRun P e).bind fun x => some (ANext.value x, H)) = some (nx, H'))
    (hE : E = (do pure (.value (← e')))) : OpS P w0 ρ H w nx H' E := by
  obtain ⟨x, hx, h⟩ := Option.bind_eq_some_iff.1 h
  simp only [Option.some.injEq, Prod.mk.injEq] at h
  obtain ⟨rfl, rfl⟩ := h
  obtain ⟨y, hy, hrun⟩ := hpr.sound hx
  refine .val g hy ?_
  rw [hE]
  simp only [Sem.run_bind, hrun w, Result.andThen_ok]
  rfl
theorem storeA_sound (g : Gam w0 ρ H w) {t : TypeId} {p p' v v' : Value} {H' : Heap} (hp : VR ρ p p') (hv : VR ρ v v') (h : storeA P H t p v = some H') :
    ∃ w', Gam w0 ρ H' w' ∧ Ext ρ ρ H H' ∧ (Instr.storeAt t p' v').run P w = .ok () w' := by
  unfold storeA at h
  have core : ∀ (i k : Nat) (m : Meta), ρ i = some m → (do
      let n ← sizeP P t
      if v.cells.size = n && known v then H.write i k v.cells.toList else none : Option Heap) = some H' →
      ∃ w', Gam w0 ρ H' w' ∧ Ext ρ ρ H H' ∧ (Instr.storeAt t (.pointer (some ⟨m.b, m.o + k, none⟩)) v').run P w = .ok () w' := by
    intro i k m hm h
    obtain ⟨n, hn, h⟩ := Option.bind_eq_some_iff.1 h
    split at h
    · rename_i hc
      simp only [Bool.and_eq_true, decide_eq_true_eq] at hc
      have hcl := cells_LR hv hc.2
      obtain ⟨w', hst, g', ext⟩ := g.write (P := P) hm hcl h
      refine ⟨w', g', ext, ?_⟩
      have hsz := hcl.size
      simp only [Instr.storeAt, Instr.sureAddr, storeVar, Sem.run_bind, Sem.run_pure, Result.andThen_ok, size_run hn]
      rw [if_neg (by rw [← hsz, hc.1]; simp)]
      exact hst
    · cases h
  cases hp with
  | ptr i k m hm => exact core i k m hm h
  | glob i k hi =>
    exfalso
    obtain ⟨n, hn, h⟩ := Option.bind_eq_some_iff.1 h
    split at h
    · unfold Heap.write at h
      cases ho : H.get i with
      | none => simp [ho] at h
      | some o =>
        cases o with
        | cells l ty opn es =>
          simp only [ho] at h
          split at h
          · rename_i hc2
            simp only [Bool.and_eq_true, decide_eq_true_eq] at hc2
            (unfold mbase abase at *; omega)
          · cases h
        | _ => simp [ho] at h
    · cases h
  | _ => simp at h

theorem isOpen_of (g : Gam w0 ρ H w) {i : Nat} {m : Meta} (hm : ρ i = some m) (k cap : Nat) (h : H.isOpen i k cap = false) : m.isOpen k cap = false := by
  unfold Heap.isOpen at h
  cases ho : H.get i with
  | none => simp [ho] at h
  | some o =>
    simp only [ho, Option.map_some, Option.getD_some] at h
    have hr := g.obj i m o hm ho
    cases o with
    | cells l ty opn es =>
      obtain ⟨e1, e2, e3, _⟩ := hr
      simpa [Meta.isOpen, AObj.isOpen, e1, e2, e3] using h
    | dead n opn es =>
      obtain ⟨e1, e2, e3⟩ := hr
      simpa [Meta.isOpen, AObj.isOpen, e1, e2, e3] using h
    | sym l opn es =>
      obtain ⟨⟨e1, e2, e3, _⟩, _⟩ := hr
      simpa [Meta.isOpen, AObj.isOpen, e1, e2, e3] using h
    | _ => simp [AObj.isOpen] at h

theorem sliceA_sound (g : Gam w0 ρ H w) {t : TypeId} {x x' r : Value} {lo lo' hi hi' mx mx' : Option Value} (hx : VR ρ x x') (hlo : OptR ρ lo lo') (hhi : OptR ρ hi hi') (hmx : OptR ρ mx mx')
    (h : sliceA P H t x lo hi mx = some r) : ∃ r', VR ρ r r' ∧ (Instr.sliceAt t x' lo' hi' mx').run P w = .ok r' w := by
  have viaPR : (∀ i k len cap m, x = .slice (some ⟨i, k, none⟩) len cap → ρ i = some m → m.isOpen k cap = true → mx ≠ none) → (∀ a, x = .pointer (some a) → gbase ≤ a.block) →
      pureRun P (Instr.sliceAt t x lo hi mx) = some r → ∃ r', VR ρ r r' ∧ (Instr.sliceAt t x' lo' hi' mx').run P w = .ok r' w := by
    intro h1 h2 h3
    obtain ⟨r', hr, hrun⟩ := (sliceAt_PR (P := P) hx hlo hhi hmx h1 h2).sound h3
    exact ⟨r', hr, hrun w⟩
  unfold sliceA at h
  split at h
  · rename_i i k len cap
    split at h
    · rename_i hop
      simp only [Bool.and_eq_true] at hop
      obtain ⟨hop, hmn⟩ := hop
      cases hmx with
      | some hm => simp at hmn
      | none =>
        cases hu : P.underlying t with
        | none => simp [hu] at h
        | some d =>
          cases d with
          | slice elem =>
            simp only [hu, Option.bind_eq_bind, Option.bind_some] at h
            obtain ⟨size, hsz, h⟩ := Option.bind_eq_some_iff.1 h
            obtain ⟨o, ho, h⟩ := Option.bind_eq_some_iff.1 h
            obtain ⟨es, hes, h⟩ := Option.bind_eq_some_iff.1 h
            split at h
            · rename_i hee
              obtain ⟨⟨l, hh, mm⟩, hb, h⟩ := Option.bind_eq_some_iff.1 h
              split at h
              case isFalse => cases h
              rename_i hhc
              dsimp only at hhc h
              simp only [Option.some.injEq] at h
              subst h
              have hlc := slice_lc hx
              obtain ⟨m, hm, off, capC, rfl, hcap, hx1, hx2⟩ := slice_inv hx
              have hrm := g.obj i m o hm ho
              have hmo : m.isOpen k cap = true ∧ m.es = es := by
                unfold Heap.isOpen at hop
                simp only [ho, Option.map_some, Option.getD_some] at hop
                cases o with
                | cells l ty opn es0 =>
                  obtain ⟨e1, e2, e3, _⟩ := hrm
                  simp only [AObj.es?, Option.some.injEq] at hes
                  exact ⟨by simpa [Meta.isOpen, AObj.isOpen, e1, e2, e3] using hop, by rw [e3, hes]⟩
                | dead n opn es0 =>
                  obtain ⟨e1, e2, e3⟩ := hrm
                  simp only [AObj.es?, Option.some.injEq] at hes
                  exact ⟨by simpa [Meta.isOpen, AObj.isOpen, e1, e2, e3] using hop, by rw [e3, hes]⟩
                | sym l opn es0 =>
                  obtain ⟨⟨e1, e2, e3, _⟩, _⟩ := hrm
                  simp only [AObj.es?, Option.some.injEq] at hes
                  exact ⟨by simpa [Meta.isOpen, AObj.isOpen, e1, e2, e3] using hop, by rw [e3, hes]⟩
                | _ => simp [AObj.es?] at hes
              obtain ⟨hmo, hmes⟩ := hmo
              obtain ⟨⟨l', h', m'⟩, hbd, hrun⟩ := (sliceBounds_PR (P := P) (lc := True) hlo hhi .none true len hcap (fun _ => hlc)).sound hb
              obtain ⟨b1, b2, b3, b4, b5, b6⟩ := hbd
              simp only at b1 b2 b3 b5
              obtain ⟨b7, b8⟩ := b3 trivial
              subst b1 b2 b7 b8
              have hopn : m.opn = true ∧ k + mm * m.es = m.known := by
                simpa [Meta.isOpen] using hmo
              obtain ⟨hopn, hko⟩ := hopn
              rw [hmes, hee] at hko
              refine ⟨.slice (if m' = l then some ⟨m.b, off, none⟩ else some ((⟨m.b, off, none⟩ : Addr).add (l * size))) (hh - l) (m' - l), ?_, ?_⟩
              · by_cases hml : m' = l
                · obtain rfl : mm = l := by omega
                  have e0 : hh - mm = 0 := by omega
                  have e1 : m' - mm = 0 := by omega
                  rw [if_pos hml, e0, e1, Nat.sub_self]
                  refine .empty i (k + mm * size) off m hm ?_ (slice_off hx hm rfl hmo)
                  simp only [Meta.isOpen, hopn, Bool.true_and, beq_iff_eq]
                  omega
                · rw [if_neg hml, addr_add]
                  have hlm : l ≤ mm := by omega
                  rcases hx2 hmo with ⟨hoff, hroom⟩ | ⟨_, c1, c2⟩
                  · rw [hoff, Nat.add_assoc]
                    have e2 : mm * size = l * size + (mm - l) * size := by rw [← Nat.add_mul]; congr 1; omega
                    have e3 : m' * size = l * size + (m' - l) * size := by rw [← Nat.add_mul]; congr 1; omega
                    rw [hmes, hee] at hroom
                    refine .opened i (k + l * size) (hh - l) (mm - l) (m' - l) m hm ?_ (by omega) ?_ (by have := b6 (.inl trivial); omega)
                    · simp only [Meta.isOpen, hopn, Bool.true_and, beq_iff_eq, hmes, hee]
                      omega
                    · rw [hmes, hee]
                      omega
                  · exact absurd (by omega) hml
              · unfold Instr.sliceAt
                simp only [Sem.run_bind, und_run hu, Result.andThen_ok]
                unfold Instr.slice
                simp only [Sem.run_bind, und_run hu, Result.andThen_ok, hrun w, size_run hsz, Sem.run_pure, Option.map_some]
            · cases h
          | _ => simp [hu] at h
    · rename_i hop
      simp only [Bool.and_eq_true, not_and, Bool.not_eq_true] at hop
      refine viaPR ?_ (fun a e => by cases e) h
      intro i' k' len' cap' m e hm ho
      cases e
      by_cases hp : H.isOpen i k cap = true
      · have := hop hp
        intro e
        rw [e] at this
        cases this
      · have := isOpen_of g hm k cap (by simpa using hp)
        rw [this] at ho
        cases ho
  · rename_i a
    split at h
    · rename_i hg
      refine viaPR (fun _ _ _ _ _ e => by cases e) ?_ h
      intro a' e
      cases e
      exact hg
    · cases h
  · rename_i n1 n2
    refine viaPR ?_ ?_ h
    · intro i k len cap m e
      exact absurd e (n1 i k len cap)
    · intro a e
      exact absurd e (n2 a)

end Go.Abs
