/- The evaluator: runs a closed call of the program on an abstract heap, independent of the tape. -/
import Derived.CallsIn
import Derived.RangeFuncLeaves
namespace Go.Abs

/-- A map from numbers, read in few steps. -/
inductive Tree (α : Type) where
  | leaf
  | node (v : Option α) (l r : Tree α)

namespace Tree
variable {α : Type}
def get : Tree α → Nat → Option α
  | leaf, _ => none
  | node v l r, n => if n = 0 then v else if n % 2 = 1 then l.get (n / 2) else r.get (n / 2 - 1)
def set : Nat → Tree α → Nat → α → Tree α
  | 0, t, _, _ => t
  | f + 1, leaf, n, a => if n = 0 then node (some a) leaf leaf else if n % 2 = 1 then node none (set f leaf (n / 2) a) leaf else node none leaf (set f leaf (n / 2 - 1) a)
  | f + 1, node v l r, n, a => if n = 0 then node (some a) l r else if n % 2 = 1 then node v (set f l (n / 2) a) r else node v l (set f r (n / 2 - 1) a)
end Tree

/-- A value that holds no address. -/
def plain : Nat → Value → Bool
  | 0, _ => false
  | n + 1, v =>
    match v with
    | .bool _ | .int _ _ | .float _ _ | .complex _ _ _ | .string _ | .nilFunc | .nilIface | .pointer none | .slice none _ _ | .map none => true
    | .agg cs | .tuple cs => cs.all (plain n)
    | .iface _ x => plain n x
    | .func (.func _) a b => a.all (plain n) && b.all (plain n)
    | _ => false

/-- The slots of an activation, and its deferred calls. -/
structure AAct where
  tmps : Tree Value
  size : Nat
  defers : List Nat

def AAct.slot (A : AAct) (t : Tmp) : Value := (A.tmps.get t).getD undef
def AAct.put1 (A : AAct) (d : Tmp) (v : Value) : AAct := if d < A.size then { A with tmps := A.tmps.set (d + 1) d v } else A
def AAct.put (A : AAct) (dst : Option Tmp) (v : Value) : AAct :=
  match dst with
  | some d => A.put1 d v
  | none => A
/-- An abstract value of which nothing is known. -/
def unknown : Value := .chan (some 0)
/-- Blocks below this number are the package-level variables. -/
def abase : Nat := 500
/-- Blocks from abase up to this number are what the call was handed: they are read, never written. From here on they are the call's own. -/
def gbase : Nat := 1000
def AAct.eval (A : AAct) : Operand → Value
  | .tmp t => A.slot t
  | .const v => if plain 8 v then v else unknown
  | .global g => if g < abase then .pointer (some ⟨g, 0, none⟩) else unknown
  | .func f => .func (.func f) #[] #[]
def AAct.putAll (A : AAct) : List (Tmp × Value) → AAct
  | [] => A
  | (t, v) :: l => (A.put1 t v).putAll l
def AAct.ofArgs : List Value → Nat → Tree Value → Tree Value
  | [], _, t => t
  | v :: vs, i, t => AAct.ofArgs vs (i + 1) (t.set (i + 1) i v)
/-- Is an operation carried out? (none: not known) -/
def wantedA (ops : Array Oper) (A : AAct) (o : Oper) : Option Bool :=
  match o.guard with
  | none => some true
  | some (j, want) =>
    match (ops[j]?).bind (·.dst) with
    | none => some false
    | some d =>
      match A.slot d with
      | .bool b => some (b == want)
      | .chan _ => none
      | _ => some false

/-- The record of a range over a function. -/
structure ALoop where
  state : LoopState
  pending : Option Code
  act : AAct
  params : Array Tmp
  assign : Code
  body : Code
  defers : Nat

inductive AObj where
  | cells (cs : List Value) (ty : TypeId) (opn : Bool) (es : Nat)
  | dead (known : Nat) (opn : Bool) (es : Nat)
  | map (es : List MapEntry) (clock : Nat)
  | loop (l : ALoop)
  | deferred
  | taken
  | siter (s : ByteArray) (pos : Nat)
  /-- cells that hold no address, in any number -/
  | sym (cs : List Value) (opn : Bool) (es : Nat)

structure Heap where
  tree : Tree AObj
  next : Nat

def Heap.get (H : Heap) (i : Nat) : Option AObj := H.tree.get i
def Heap.set (H : Heap) (i : Nat) (o : AObj) : Heap := ⟨H.tree.set (i + 1) i o, H.next⟩
def Heap.new (H : Heap) (o : AObj) : Heap := ⟨H.tree.set (H.next + 1) H.next o, H.next + 1⟩

/-- Is something known of a value? -/
def known : Value → Bool
  | .chan _ => false
  | _ => true

/-- What a computation that touches no memory yields. -/
def pureRun (P : Program) {α : Type} : Sem α → Option α
  | .pure a => some a
  | .program k => pureRun P (k P)
  | .mark _ k => pureRun P k
  | _ => none

def listSet (cs : List Value) (off : Nat) (vs : List Value) : List Value := cs.take off ++ vs ++ cs.drop (off + vs.length)

def Heap.cellsAt (H : Heap) (i off n : Nat) : Option (List Value) :=
  match H.get i with
  | some (.cells cs _ _ _) => if off + n ≤ cs.length then some ((cs.drop off).take n) else none
  | some (.sym cs _ _) => if off + n ≤ cs.length then some ((cs.drop off).take n) else none
  | _ => none
def cellOk : Value → Bool
  | .agg _ | .tuple _ | .chan _ => false
  | _ => true
/-- A cell that holds no address. -/
def cellP (v : Value) : Bool := plain 8 v && cellOk v
def Heap.write (H : Heap) (i off : Nat) (vs : List Value) : Option Heap :=
  match H.get i with
  | some (.cells cs ty o es) => if off + vs.length ≤ cs.length && vs.all cellOk && decide (gbase ≤ i) then some (H.set i (.cells (listSet cs off vs) ty o es)) else none
  | _ => none
/-- Is the room behind the end of such a slice not known? -/
def AObj.isOpen : AObj → Nat → Nat → Bool
  | .cells cs _ o es, k, cap => o && k + cap * es == cs.length
  | .sym cs o es, k, cap => o && k + cap * es == cs.length
  | .dead n o es, k, cap => o && k + cap * es == n
  | _, _, _ => true
def Heap.isOpen (H : Heap) (i k cap : Nat) : Bool := ((H.get i).map (·.isOpen k cap)).getD true
def AObj.es? : AObj → Option Nat
  | .cells _ _ _ es | .dead _ _ es | .sym _ _ es => some es
  | _ => none

inductive ANext where
  | value (v : Value)
  | skip
  | enter (f : FuncId) (args : Array Value)
  | round (l : Nat) (args : Array Value)

def isAggP (P : Program) (t : TypeId) : Option Bool := (P.underlying t).map fun | .struct _ | .array _ _ => true | _ => false
def sizeP (P : Program) (t : TypeId) : Option Nat := (P.info? t).map (·.size)

def loadA (P : Program) (H : Heap) (t : TypeId) (p : Value) : Option Value :=
  match p with
  | .pointer (some ⟨i, off, none⟩) =>
    match isAggP P t with
    | some true => do let n ← sizeP P t; let cs ← H.cellsAt i off n; some (.agg cs.toArray)
    | some false => do let cs ← H.cellsAt i off 1; cs.head?
    | none => none
  | _ => none
def storeA (P : Program) (H : Heap) (t : TypeId) (p v : Value) : Option Heap :=
  match p with
  | .pointer (some ⟨i, off, none⟩) => do
    let n ← sizeP P t
    if v.cells.size = n && known v then H.write i off v.cells.toList else none
  | _ => none

def vAt (a : Array Value) (i : Nat) : Option Value := a[i]?
def tAt (a : Array TypeId) (i : Nat) : Option TypeId := a[i]?

def lenA : Value → Option Nat
  | .slice _ n _ => some n
  | .string s => some s.size
  | _ => none
def firstA (H : Heap) (size n : Nat) : Value → Option (List Value)
  | .slice (some ⟨i, off, none⟩) _ _ => H.cellsAt i off (n * size)
  | .slice none _ _ => some []
  | .string s => some ((s.data.toList.take n).map fun b => .int .u8 b.toNat)
  | _ => none

def isIntP (P : Program) (t : TypeId) : Option Bool := (P.underlying t).map fun | .int _ => true | _ => false
def zerosP (P : Program) (argTypes : Array TypeId) : Option Bool :=
  match tAt argTypes 1 with
  | some xType => isIntP P xType
  | none => some false
def appendA (P : Program) (H : Heap) (argTypes : Array TypeId) (args : Array Value) : Option (Value × Heap) :=
  match tAt argTypes 0, vAt args 0, vAt args 1 with
  | some sType, some (.slice base sLen sCap), some x => do
    let .slice elem ← P.underlying sType | none
    let i ← P.info? elem
    let z ← i.zero
    let zeros ← zerosP P argTypes
    let n ← lenA x
    let new ← firstA H i.size n x
    if zeros || z.cells.size != i.size || new.length != n * i.size then none else
    if sLen + n ≤ sCap then
      match base with
      | some ⟨b, off, none⟩ => do
        let H' ← H.write b (off + sLen * i.size) new
        some (.slice base (sLen + n) sCap, H')
      | none => if n = 0 then some (.slice base (sLen + n) sCap, H) else none
      | _ => none
    else
      if (2 * (sLen + n) + 768) * i.bytes > 2 ^ 48 || decide (sLen + n > 2 ^ 40) then none else
      match base with
      | none => if sLen = 0 then some (.slice (some ⟨H.next, 0, none⟩) (sLen + n) (sLen + n), H.new (.cells new elem true i.size)) else none
      | some ⟨b, off, none⟩ => do
        let old ← H.cellsAt b off (sLen * i.size)
        let .cells cs _ o es ← H.get b | none
        if o && off + sCap * es == cs.length then
          if es = i.size && decide (gbase ≤ b) && new.all cellOk then
            let H' := H.set b (.dead cs.length o es)
            some (.slice (some ⟨H'.next, 0, none⟩) (sLen + n) (sLen + n), H'.new (.cells (old ++ new) elem true i.size))
          else none
        else some (.slice (some ⟨H.next, 0, none⟩) (sLen + n) (sLen + n), H.new (.cells (old ++ new) elem true i.size))
      | _ => none
  | _, _, _ => none

def copyA (P : Program) (H : Heap) (argTypes : Array TypeId) (args : Array Value) : Option (Value × Heap) :=
  match tAt argTypes 0, vAt args 0, vAt args 1 with
  | some sType, some (.slice base dLen _), some x => do
    let .slice elem ← P.underlying sType | none
    let size ← sizeP P elem
    let n := Nat.min (← lenA x) dLen
    let cs ← firstA H size n x
    match base with
    | some ⟨b, off, none⟩ => do let H' ← H.write b off cs; some (.int .i64 n, H')
    | none => if n = 0 then some (.int .i64 n, H) else none
    | _ => none
  | _, _, _ => none

def clearA (P : Program) (H : Heap) (argTypes : Array TypeId) (args : Array Value) : Option (Value × Heap) :=
  match tAt argTypes 0, vAt args 0 with
  | some t, some (.slice base n _) =>
    match base with
    | none => if (P.underlying t).isSome then some (.tuple #[], H) else none
    | some ⟨b, off, none⟩ =>
      if n = 0 then (if (P.underlying t).isSome then some (.tuple #[], H) else none) else do
      let .slice elem ← P.underlying t | none
      let i ← P.info? elem
      let z ← i.zero
      if !plain 8 z then none else
      let H' ← H.write b off (Builtin.zeroCells z.cells n).toList
      some (.tuple #[], H')
    | _ => none
  | _, _ => none

def findA (kind : TypeDesc) (k : Value) (es : List MapEntry) : Option (Option (Nat × Value)) := Instr.findNow kind k es 0
def simpleKey : TypeDesc → Bool
  | .int _ | .string | .bool => true
  | _ => false
def entriesA (H : Heap) : Value → Option (List MapEntry)
  | .map none => some []
  | .map (some r) => match H.get r with | some (.map es _) => some es | _ => none
  | _ => none
def lookupA (P : Program) (H : Heap) (t : TypeId) (m k : Value) (ok : Bool) : Option Value := do
  let .map key elem ← P.underlying t | none
  let kd ← P.underlying key
  if !simpleKey kd || !plain 1 k then none else
  let es ← entriesA H m
  let i ← P.info? elem
  let z ← i.zero
  if !plain 8 z then none else
  match ← findA kd k es with
  | some (_, v) => some (if ok then .tuple #[v, .bool true] else v)
  | none => some (if ok then .tuple #[z, .bool false] else z)
def setVal (v : Value) : List MapEntry → Nat → List MapEntry
  | [], _ => []
  | e :: es, 0 => { e with val := v } :: es
  | e :: es, i + 1 => e :: setVal v es i
def updateA (P : Program) (H : Heap) (t : TypeId) (m k v : Value) : Option Heap := do
  let .map key _ ← P.underlying t | none
  let kd ← P.underlying key
  if !simpleKey kd || !plain 1 k then none else
  match m with
  | .map (some r) =>
    if r < gbase then none else
    match H.get r with
    | some (.map es clock) =>
      match ← findA kd k es with
      | some (i, _) => some (H.set r (.map (setVal v es i) clock))
      | none => some (H.set r (.map (es ++ [{ key := k, val := v, born := clock }]) (clock + 1)))
    | _ => none
  | _ => none

def sliceA (P : Program) (H : Heap) (t : TypeId) (x : Value) (lo hi mx : Option Value) : Option Value :=
  match x with
  | .slice (some ⟨i, k, none⟩) len cap =>
    if H.isOpen i k cap && mx.isNone then do
      let .slice elem ← P.underlying t | none
      let size ← sizeP P elem
      let o ← H.get i
      let es ← o.es?
      if es = size then do
        let (l, h, _) ← pureRun P (Instr.sliceBounds true len cap lo hi none)
        if h ≤ cap then some (.slice (some ⟨i, k + l * size, none⟩) (h - l) (cap - l)) else none
      else none
    else pureRun P (Instr.sliceAt t x lo hi mx)
  | .pointer (some a) => if gbase ≤ a.block then pureRun P (Instr.sliceAt t x lo hi mx) else none
  | _ => pureRun P (Instr.sliceAt t x lo hi mx)

/-- What is made of a new block's number. -/
inductive Mk where
  | ptr
  | slice (len cap : Nat)
  | map
def Mk.val : Mk → Nat → Value
  | .ptr, i => .pointer (some ⟨i, 0, none⟩)
  | .slice l c, i => .slice (some ⟨i, 0, none⟩) l c
  | .map, i => .map (some i)

/-- The new block that an operation lays. -/
def allocOf (P : Program) (env : Operand → Value) (o : Oper) : Option (Mk × AObj) :=
  match o.op with
  | .alloc elem => do
    let i ← P.info? elem
    let z ← i.zero
    if plain 8 z then some (.ptr, .cells z.cells.toList elem false i.size) else none
  | .box elem x => if known (env x) then some (.ptr, .cells (env x).cells.toList elem false 1) else none
  | .buildSlice t len parts => do
    let .slice elem ← P.underlying t | none
    let i ← P.info? elem
    let z ← i.zero
    if len * i.size > 2 ^ 24 || !plain 8 z || z.cells.size != i.size || !parts.all (fun p => known (env p.2)) then none else
    let cs ← Instr.fill (fun j => some (j * i.size, i.size)) (Builtin.zeroCells z.cells len) (parts.toList.map fun (i, x) => (i, env x))
    some (.slice len len, .cells cs.toList elem false i.size)
  | .makeSlice t l c =>
    match env l, env c with
    | .int .i64 l, .int .i64 c => do
      let .slice elem ← P.underlying t | none
      let i ← P.info? elem
      let z ← i.zero
      if 0 ≤ l ∧ l ≤ c ∧ i.bytes * c ≤ 2 ^ 40 ∧ c ≤ 2 ^ 40 ∧ plain 8 z = true ∧ z.cells.size = i.size then
        some (.slice l.toNat c.toNat, .cells (Builtin.zeroCells z.cells c.toNat).toList elem false i.size)
      else none
    | _, _ => none
  | .makeMap t none => do
    let .map _ _ ← P.underlying t | none
    some (.map, .map [] 0)
  | .makeMap t (some x) =>
    match env x with
    | .int _ _ => do
      let .map _ _ ← P.underlying t | none
      some (.map, .map [] 0)
    | _ => none
  | _ => none

def callA (P : Program) (H : Heap) (env : Operand → Value) (c : Call) (type : TypeId) : Option (ANext × Heap) :=
  let args := c.args.map env
  match c.callee with
  | .builtin .append => do let (v, H') ← appendA P H c.argTypes args; some (.value v, H')
  | .builtin .copy => do let (v, H') ← copyA P H c.argTypes args; some (.value v, H')
  | .builtin .clear => do let (v, H') ← clearA P H c.argTypes args; some (.value v, H')
  | .builtin .len =>
    match vAt args 0 with
    | some (.map (some r)) =>
      match (tAt c.argTypes 0).bind P.underlying with
      | some (.map _ _) => match H.get r with | some (.map es _) => some (.value (.int .i64 es.length), H) | _ => none
      | _ => none
    | some (.chan _) => none
    | _ => do let v ← pureRun P (Builtin.len_ c.argTypes type args); some (.value v, H)
  | .builtin .cap =>
    match vAt args 0 with
    | some (.slice (some ⟨i, k, none⟩) _ cap) => 
      match (tAt c.argTypes 0).bind P.underlying with
      | some (.slice _) => if H.isOpen i k cap then none else some (.value (.int .i64 cap), H)
      | _ => none
    | some (.chan _) => none
    | _ => do let v ← pureRun P (Builtin.cap_ c.argTypes type args); some (.value v, H)
  | .builtin .min => if args.all (plain 8) then do let v ← pureRun P (Builtin.min_ c.argTypes type args); if plain 8 v then some (.value v, H) else none else none
  | .builtin .max => if args.all (plain 8) then do let v ← pureRun P (Builtin.max_ c.argTypes type args); if plain 8 v then some (.value v, H) else none else none
  | .value f =>
    match env f with
    | .func (.func g) first captured =>
      match P.funcs[g]? with
      | some fn =>
        if fn.body.isNone then
          if args.all (plain 8) && first.isEmpty && captured.isEmpty then
            match pureRun P (callFunc g args) with
            | some (.value v) => if plain 8 v then some (.value v, H) else none
            | _ => none
          else none
        else if fn.name == "runtime.NumGoroutine" then none else some (.enter g (first ++ args ++ captured), H)
      | none => none
    | .func (.yield l) first cap =>
      match H.get l with
      | some (.loop r) => if first.isEmpty && cap.isEmpty && args.size == r.params.size then some (.round l args, H) else none
      | _ => none
    | _ => none
  | _ => none

/-- A plain result of a computation that touches no memory. -/
def plainRun (P : Program) (e : Sem Value) : Option Value := do
  let x ← pureRun P e
  if plain 8 x then some x else none
def isNeq : BinOp → Option Bool
  | .eql => some false
  | .neq => some true
  | _ => none
/-- Is it a comparison of something with nil? -/
def nilCmp : TypeDesc → Value → Value → Bool
  | .pointer _, .pointer (some _), .pointer none => true
  | .slice _, .slice (some _) _ _, .slice none _ _ => true
  | .map _ _, .map (some _), .map none => true
  | .func _ _ _, .func _ _ _, .nilFunc => true
  | _, _, _ => false
/-- A part of a struct. -/
def partA (P : Program) (t : TypeId) (xs : Array Value) (off : Nat) : Option Value :=
  match isAggP P t with
  | some true => (sizeP P t).map fun n => .agg (xs.extract off (off + n))
  | some false => xs[off]?
  | none => none
def eqFieldsA (P : Program) (f : TypeId → Value → Value → Option Bool) (xs ys : Array Value) : List Field → Option Bool
  | [] => some true
  | fd :: fs =>
    if fd.name = "_" then none else
    match partA P fd.type xs fd.offset, partA P fd.type ys fd.offset with
    | some a, some b =>
      match f fd.type a b, eqFieldsA P f xs ys fs with
      | some r, some s => some (r && s)
      | _, _ => none
    | _, _ => none
/-- Two structs of numbers, bools and strings, compared. -/
def eqAtA (P : Program) : Nat → TypeId → Value → Value → Option Bool
  | 0, _, _, _ => none
  | n + 1, t, x, y =>
    match P.underlying t, x, y with
    | some (.int _), .int k a, .int k' b => if k = k' then some (a == b) else none
    | some .bool, .bool a, .bool b => some (a == b)
    | some .string, .string a, .string b => some (a == b)
    | some (.struct fs), .agg xs, .agg ys => if P.stoodInHeld t = true then none else eqFieldsA P (eqAtA P n) xs ys fs.toList
    | _, _, _ => none
def binA (P : Program) (op : BinOp) (t : TypeId) (x y : Operand) (a b : Value) : Option Value :=
  match isNeq op, a, b with
  | some neg, .agg xs, .agg ys =>
    if plain 8 (.agg xs) && plain 8 (.agg ys) && !(P.eqGuardType P.depth t) then (eqAtA P 8 t (.agg xs) (.agg ys)).map fun r => .bool (if neg then !r else r) else none
  | _, _, _ =>
  if plain 8 a && plain 8 b then plainRun P (do eqGuard op t x y a b; binOp op t a b)
  else do
    let r ← isNeq op
    let d ← P.underlying t
    if nilCmp d a b then some (.bool r) else none
def byteA : Value → Option Int
  | .int .u8 n => some n
  | _ => none
def bytesA : List Value → Option (List Int)
  | [] => some []
  | v :: l => do
    let b ← byteA v
    let bs ← bytesA l
    some (b :: bs)
def convA (P : Program) (H : Heap) (src dst : TypeId) (a : Value) : Option Value :=
  match a with
  | .slice (some ⟨i, off, none⟩) len _ =>
    match P.underlying src, P.underlying dst with
    | some (.slice e), some .string =>
      match P.underlying e with
      | some (.int .u8) => do
        let cs ← H.cellsAt i off len
        let bs ← bytesA cs
        some (.string (bs.foldl (fun r n => r.push (UInt8.ofNat n.toNat)) ByteArray.empty))
      | _ => none
    | _, _ => none
  | _ => if plain 8 a then plainRun P (convert src dst a) else none
def buildA (P : Program) (t : TypeId) (parts : Array (Nat × Value)) : Option Value :=
  match (P.info? t).bind (·.zero) with
  | some z => if plain 8 z && parts.all (fun p => known p.2) then pureRun P (Instr.build t parts) else none
  | none => none
def nilA : Value → Option Value
  | .pointer (some a) => some (.pointer (some a))
  | .func (.func f) a b => some (.func (.func f) a b)
  | .func (.yield f) a b => some (.func (.yield f) a b)
  | _ => none

/-- An operation that changes nothing and makes no call. -/
def valA (P : Program) (H : Heap) (env : Operand → Value) (o : Oper) : Option Value :=
  match o.op with
  | .move x | .assign x => some (env x)
  | .pick c a b => match env c with | .bool t => some (if t then env a else env b) | _ => none
  | .build t parts => buildA P t (parts.map fun (i, x) => (i, env x))
  | .load t a => loadA P H t (env a)
  | .nilCheck x => nilA (env x)
  | .binOp op t x y _ => binA P op t x y (env x) (env y)
  | .unOp op _ x => if plain 8 (env x) then plainRun P (Op.unary op (env x)) else none
  | .convert src dst x => convA P H src dst (env x)
  | .makeFunc (.func f) first captured => some (.func (.func f) (first.map env) (captured.map env))
  | .slice t x lo hi mx => sliceA P H t (env x) (lo.map env) (hi.map env) (mx.map env)
  | .fieldAddr s x f => pureRun P (Instr.fieldAt s (env x) f)
  | .field t x f => pureRun P (Instr.field t (env x) f)
  | .indexAddr t x ix => pureRun P (Instr.indexAt t (env x) (env ix))
  | .index t x ix => pureRun P (Instr.index t (env x) (env ix))
  | .lookup t x ix ok => lookupA P H t (env x) (env ix) ok
  | .extract t ix => pureRun P (Instr.extract (env t) ix)
  | _ => none
def opA (P : Program) (H : Heap) (env : Operand → Value) (o : Oper) : Option (ANext × Heap) :=
  match o.op with
  | .alloc _ | .box _ _ | .buildSlice _ _ _ | .makeMap _ _ | .makeSlice _ _ _ => do
    let (k, x) ← allocOf P env o
    some (.value (k.val H.next), H.new x)
  | .store t a x => do let H' ← storeA P H t (env a) (env x); some (.skip, H')
  | .mapUpdate t m k x | .insert t m k x => do let H' ← updateA P H t (env m) (env k) (env x); some (.skip, H')
  | .call c => callA P H env c o.type
  | _ => do let x ← valA P H env o; some (.value x, H)

structure Self where
  call : FuncId → Array Value → Heap → Option (Value × Heap)
  code : Option Nat → Code → AAct → Heap → Option (Exit × AAct × Heap)

def getLoopA (H : Heap) (l : Nat) : Option ALoop :=
  if l < gbase then none else
  match H.get l with
  | some (.loop r) => some r
  | _ => none
/-- What is left to do behind a round. -/
def jumpOf : Exit → Option (Option Code)
  | .normal => some none
  | .ret => some (some .ret)
  | .exit id => some (some (.exit id))
  | .goto t => some (some (.goto t))
  | _ => none
def isNormal : Exit → Bool
  | .normal => true
  | _ => false
/-- One round of a range over a function. -/
def roundA (s : Self) (l : Nat) (args : Array Value) (H : Heap) : Option (Value × Heap) :=
  (getLoopA H l).bind fun r =>
  if args.size ≠ r.params.size then none else
  (s.code (some l) r.assign ({ r.act with defers := [] }.putAll (r.params.toList.zip args.toList)) H).bind fun x =>
  if isNormal x.1 = false then none else
  (getLoopA x.2.2 l).bind fun r₁ =>
  if r₁.state ≠ .ready then none else
  (s.code (some l) r.body x.2.1 (x.2.2.set l (.loop { r₁ with state := .busy }))).bind fun y =>
  (getLoopA y.2.2 l).bind fun r₂ =>
  (jumpOf y.1).bind fun jump =>
  some (.bool jump.isNone, y.2.2.set l (.loop { r₂ with state := if jump.isNone then .ready else .done, pending := jump }))

/-- One operation, its calls carried out. -/
def stepA (P : Program) (s : Self) (o : Oper) (A : AAct) (H : Heap) : Option (AAct × Heap) := do
  match ← opA P H A.eval o with
  | (.value v, H') => some (A.put o.dst v, H')
  | (.skip, H') => some (A.put o.dst undef, H')
  | (.enter f args, H') => do
    let (v, H'') ← s.call f args H'
    some (A.put o.dst v, H'')
  | (.round l args, H') => do
    let (v, H'') ← roundA s l args H'
    some (A.put o.dst v, H'')

def opsA (P : Program) (s : Self) (ops : Array Oper) : List Nat → AAct → Heap → Option (AAct × Heap)
  | [], A, H => some (A, H)
  | i :: rest, A, H =>
    match ops[i]? with
    | none => opsA P s ops rest A H
    | some o =>
      match wantedA ops A o with
      | some true => do
        let (A', H') ← stepA P s o A H
        opsA P s ops rest A' H'
      | some false => opsA P s ops rest (A.put o.dst undef) H
      | none => none

/-! ### A region whose order is drawn -/
def bAfter (o : Oper) : List Nat := (o.after.toList.filter (Region.binds .any)).map (·.on)
def isMajor (o : Oper) : Bool :=
  match o.op with
  | .alloc _ | .box _ _ | .buildSlice _ _ _ | .makeMap _ _ | .makeSlice _ _ _ => false
  | .move _ | .pick .. | .build .. | .load .. | .nilCheck _ | .binOp .. | .unOp .. | .convert .. | .makeFunc .. | .slice .. | .fieldAddr .. | .field .. | .indexAddr .. | .index .. | .lookup .. | .extract .. => false
  | .call { callee := .builtin .len, .. } | .call { callee := .builtin .cap, .. } => false
  | _ => true

def isAlloc (o : Oper) : Bool :=
  match o.op with
  | .alloc _ | .box _ _ | .buildSlice _ _ _ | .makeMap _ _ | .makeSlice _ _ _ => true
  | _ => false
/-- What an operation that writes nothing leaves. -/
inductive Mes where
  | val (v : Value)
  | new (k : Mk) (x : AObj)
  | off
def minorA (P : Program) (ops : Array Oper) (A : AAct) (H : Heap) (o : Oper) : Option Mes :=
  match wantedA ops A o with
  | none => none
  | some false => some .off
  | some true =>
    match allocOf P A.eval o with
    | some (k, x) => some (.new k x)
    | none =>
      match opA P H A.eval o with
      | some (.value v, _) => some (.val v)
      | _ => none
def all2 {α : Type} (f : α → α → Bool) : List α → List α → Bool
  | [], [] => true
  | a :: as, b :: bs => f a b && all2 f as bs
  | _, _ => false
/-- Are two values one? (false: not known) -/
def veq : Nat → Value → Value → Bool
  | 0, _, _ => false
  | n + 1, x, y =>
    match x, y with
    | .bool a, .bool b => a == b
    | .int j a, .int k b => j == k && a == b
    | .string a, .string b => a.data.toList == b.data.toList
    | .pointer a, .pointer b => a == b
    | .slice a l c, .slice b m d => a == b && l == m && c == d
    | .map a, .map b => a == b
    | .nilFunc, .nilFunc => true
    | .nilIface, .nilIface => true
    | .func f a c, .func g b d => f == g && all2 (veq n) a.toList b.toList && all2 (veq n) c.toList d.toList
    | .agg a, .agg b | .tuple a, .tuple b => all2 (veq n) a.toList b.toList
    | .iface t a, .iface u b => t == u && veq n a b
    | _, _ => false
def meq : Mk → Mk → Bool
  | .ptr, .ptr => true
  | .slice l c, .slice m d => l == m && c == d
  | .map, .map => true
  | _, _ => false
def oeq : AObj → AObj → Bool
  | .cells a t o e, .cells b u p f => all2 (veq 8) a b && t == u && o == p && e == f
  | .map [] c, .map [] d => c == d
  | _, _ => false

inductive PItem where
  | minor (i : Nat)
  | major (i : Nat) (again : List Nat)
  | last (again : List Nat)

/-- What an operation looks at: its operands' slots, its guard's. -/
def looks (ops : Array Oper) (o : Oper) : List Tmp :=
  o.op.operands.toList.filterMap (fun | .tmp t => some t | _ => none) ++ (match o.guard with | some (j, _) => ((ops[j]?).bind (·.dst)).toList | none => [])

/-- The order in which a drawn region is run: what writes nothing as early as it can. -/
def planGo (l : List (Nat × Oper)) : Nat → List Nat → List Nat → List PItem → List PItem
  | 0, done, shut, acc => (.last (done.filter fun j => !shut.contains j) :: acc).reverse
  | f + 1, done, shut, acc =>
    let ready := fun (p : Nat × Oper) => !done.contains p.1 && (bAfter p.2).all done.contains
    match l.find? fun p => !isMajor p.2 && ready p with
    | some p => planGo l f (p.1 :: done) shut (.minor p.1 :: acc)
    | none =>
      match l.find? ready with
      | some p => planGo l f (p.1 :: done) (p.1 :: (bAfter p.2 ++ shut)) (.major p.1 (done.filter fun j => !shut.contains j) :: acc)
      | none => (.last (done.filter fun j => !shut.contains j) :: acc).reverse
def numbered (ops : Array Oper) : List (Nat × Oper) := (List.range ops.size).zip ops.toList
def plan (ops : Array Oper) : List PItem := planGo (numbered ops) ops.size [] [] []

/-- The parts of a plan that the proof leans on. -/
def planGood (ops : Array Oper) : List PItem → List Nat → List Nat → Bool
  | [], _, _ => false
  | .minor i :: rest, done, shut =>
    match ops[i]? with
    | some o => !isMajor o && !done.contains i && (bAfter o).all done.contains && planGood ops rest (i :: done) shut
    | none => false
  | .major i again :: rest, done, shut =>
    match ops[i]? with
    | some o =>
      isMajor o && !done.contains i && (bAfter o).all done.contains &&
      (List.range ops.size).all (fun j => j == i || done.contains j || !((ops[j]?).map fun p => (bAfter p).all done.contains).getD false) &&
      done.all (fun j => shut.contains j || again.contains j) &&
      planGood ops rest (i :: done) (i :: (bAfter o ++ shut))
    | none => false
  | .last again :: _, done, shut => (List.range ops.size).all done.contains && done.all (fun j => shut.contains j || again.contains j)
def flowGood (ops : Array Oper) : Bool :=
  (List.range ops.size).all fun p => (List.range ops.size).all fun q =>
    match ops[p]?, ops[q]? with
    | some op, some oq =>
      match oq.dst with
      | none => true
      | some d => (p == q || op.dst != some d) && (!(looks ops op).contains d || (bAfter op).contains q || isMajor oq)
    | _, _ => true
def regionGood (ops : Array Oper) : Bool := planGood ops (plan ops) [] [] && flowGood ops

/-- The block that a value of a new block names. -/
def blk : Value → Option Nat
  | .pointer (some ⟨i, _, _⟩) => some i
  | .slice (some ⟨i, _, _⟩) _ _ => some i
  | .map (some i) => some i
  | _ => none
def inRange (A : AAct) : Option Tmp → Bool
  | none => true
  | some d => d < A.size
def execMinor (P : Program) (ops : Array Oper) (A : AAct) (H : Heap) (o : Oper) : Option (AAct × Heap) :=
  if inRange A o.dst = false then none else
  match minorA P ops A H o with
  | some (.val v) => if isAlloc o then none else some (A.put o.dst v, H)
  | some (.new k x) => some (A.put o.dst (k.val H.next), H.new x)
  | some .off => some (A.put o.dst undef, H)
  | none => none
/-- Would what has been carried out be carried out likewise now? -/
def stillSo (P : Program) (ops : Array Oper) (A : AAct) (H : Heap) (j : Nat) : Bool :=
  match ops[j]? with
  | some o =>
    match minorA P ops A H o with
    | some (.val v) => !isAlloc o && (match o.dst with | none => true | some d => d < A.size && veq 8 v (A.slot d))
    | some (.new k x) =>
      match o.dst with
      | none => false
      | some d =>
        d < A.size &&
        match blk (A.slot d) with
        | some i => veq 8 (A.slot d) (k.val i) && (match H.get i with | some y => oeq x y | none => false)
        | none => false
    | some .off => (match o.dst with | none => true | some d => d < A.size && veq 8 undef (A.slot d))
    | none => false
  | none => false
/-- The block of an operation that lays one. -/
def laid (ops : Array Oper) (A : AAct) (j : Nat) : Option Nat :=
  match ops[j]? with
  | some o => if isAlloc o then o.dst.bind fun d => blk (A.slot d) else none
  | none => none
def distinctOk (l : List (Option Nat)) : Bool :=
  match l with
  | [] => true
  | none :: l => distinctOk l
  | some x :: l => !l.contains (some x) && distinctOk l
def allStill (P : Program) (ops : Array Oper) (A : AAct) (H : Heap) (again : List Nat) : Bool :=
  again.all (stillSo P ops A H) && distinctOk (again.map (laid ops A))
def anyA (P : Program) (s : Self) (ops : Array Oper) : List PItem → AAct → Heap → Option (AAct × Heap)
  | [], _, _ => none
  | .minor i :: rest, A, H =>
    match ops[i]? with
    | some o => (execMinor P ops A H o).bind fun x => anyA P s ops rest x.1 x.2
    | none => none
  | .major i again :: rest, A, H =>
    if allStill P ops A H again = false then none else
    match ops[i]? with
    | some o =>
      match wantedA ops A o with
      | some true => (stepA P s o A H).bind fun x => anyA P s ops rest x.1 x.2
      | some false => anyA P s ops rest (A.put o.dst undef) H
      | none => none
    | none => none
  | .last again :: _, A, H => if allStill P ops A H again = false then none else some (A, H)

/-- Is it a function with a Go body? -/
def enterable (P : Program) (g : FuncId) : Bool :=
  match P.funcs[g]? with
  | some fn => fn.body.isSome && !(fn.name == "runtime.NumGoroutine")
  | none => false
/-- The block for deferred calls at the entry of a range over a function. -/
def enterA (round : Option Nat) (H : Heap) : Option (Nat × List Nat × Heap) :=
  match round with
  | none => some (H.next, [H.next], H.new .deferred)
  | some l₀ => (getLoopA H l₀).bind fun r => some (r.defers, [], H)
def rangeA (P : Program) (s : Self) (round : Option Nat) (f : Operand) (ps : Array Tmp) (assign body : Code) (A : AAct) (H : Heap) : Option (Exit × AAct × Heap) :=
  (enterA round H).bind fun x =>
  match A.eval f with
  | .func (.func g) first captured =>
    if enterable P g = false then none else
    (s.call g (first ++ #[.func (.yield x.2.2.next) #[] #[]] ++ captured) (x.2.2.new (.loop { state := .ready, pending := none, act := A, params := ps, assign, body, defers := x.1 }))).bind fun y =>
    (getLoopA y.2 x.2.2.next).bind fun r =>
    if r.state = .busy then none else
    match r.pending with
    | none => some (.normal, { A with defers := x.2.1 ++ A.defers }, y.2.set x.2.2.next (.loop { r with state := .exhausted }))
    | some c => s.code round c { A with defers := x.2.1 ++ A.defers } (y.2.set x.2.2.next (.loop { r with state := .exhausted }))
  | _ => none

def codeA (P : Program) (s : Self) (round : Option Nat) : Code → AAct → Heap → Option (Exit × AAct × Heap)
  | .skip, A, H => some (.normal, A, H)
  | .region _ ops false, A, H => do let (A', H') ← opsA P s ops (List.range ops.size) A H; some (.normal, A', H')
  | .region _ ops true, A, H => do if regionGood ops then let (A', H') ← anyA P s ops (plan ops) A H; some (.normal, A', H') else none
  | .seq x y, A, H => do
    match ← codeA P s round x A H with
    | (.normal, A', H') => codeA P s round y A' H'
    | r => some r
  | .cond c x y, A, H =>
    match A.eval c with
    | .bool true => codeA P s round x A H
    | .bool false => codeA P s round y A H
    | _ => none
  | .block id body, A, H => do
    match ← codeA P s round body A H with
    | (.exit id', A', H') => if id' = id then some (.normal, A', H') else some (.exit id', A', H')
    | r => some r
  | .loop body, A, H => do
    match ← codeA P s round body A H with
    | (.normal, A', H') => s.code round (.loop body) A' H'
    | r => some r
  | .rangeFunc f ps assign body, A, H => rangeA P s round f ps assign body A H
  | .exit id, A, H => some (.exit id, A, H)
  | .label _, A, H => some (.normal, A, H)
  | .goto l, A, H => some (.goto l, A, H)
  | .ret, A, H => some (.ret, A, H)
  | _, _, _ => none

def resultsA (P : Program) (H : Heap) (fn : Func) (A : AAct) : Option Value := do
  let vs ← fn.results.toList.mapM fun
    | .tmp t => some (A.slot t)
    | .cell a t => loadA P H t (A.slot a)
  match vs with
  | [v] => some v
  | vs => some (.tuple vs.toArray)

def takeA : List Nat → Heap → Option Heap
  | [], H => some H
  | D :: ds, H => if D < gbase then none else match H.get D with | some .deferred => takeA ds (H.set D .taken) | _ => none

def callBody (P : Program) (s : Self) (f : FuncId) (args : Array Value) (H : Heap) : Option (Value × Heap) :=
  match P.funcs[f]? with
  | some fn =>
    match fn.body with
    | some c => do
      let (e, A, H₁) ← s.code none c { tmps := AAct.ofArgs args.toList 0 .leaf, size := max args.size fn.ntmps, defers := [] } H
      match e with
      | .normal | .ret => do
        let H₂ ← takeA A.defers H₁
        let v ← resultsA P H₂ fn A
        some (v, H₂)
      | _ => none
    | none => none
  | none => none

def evalN (P : Program) : Nat → Self
  | 0 => ⟨fun _ _ _ => none, fun _ _ _ _ => none⟩
  | n + 1 => ⟨fun f args H => callBody P (evalN P n) f args H, fun round c A H => codeA P (evalN P n) round c A H⟩

def callN (P : Program) (n : Nat) (f : FuncId) (args : Array Value) (H : Heap) : Option (Value × Heap) := (evalN P n).call f args H

end Go.Abs
