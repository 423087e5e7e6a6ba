/- What is left to show of code that is walked with the evaluator's states: definitions. -/
import Derived.Test.YtiahlinolhpecaaAbsFn
namespace Go.Abs

/-- A choice by a bool of which nothing need be known. -/
def bcase (b : Bool) (x y : Prop) : Prop := match b with | true => x | false => y
theorem bcase_intro {b : Bool} {x y : Prop} (h1 : b = true → x) (h2 : b = false → y) : bcase b x y := by cases b <;> simp_all [bcase]

/-- Data that a call is handed or gives back. -/
inductive D where
  | val (v : Value)
  | agg (cs : List D)
  | nil
  | sl (n es : Nat) (cs : List Value)

/-- The scalar parts of a type, in their order. -/
inductive Sc where
  | int (k : IntKind)
  | bool
  | str
  | sl (es : Nat)

def scal (P : Program) : Nat → TypeId → Option (List Sc)
  | 0, _ => none
  | n + 1, t =>
    match P.underlying t with
    | some (.int k) => some [.int k]
    | some .bool => some [.bool]
    | some .string => some [.str]
    | some (.slice e) => (sizeP P e).map fun s => [.sl s]
    | some (.struct fs) => (fs.toList.mapM fun f => scal P n f.type).map List.flatten
    | some (.array k e) => (scal P n e).map fun l => (List.replicate k l).flatten
    | _ => none

/-- Some values of these kinds, with their data, laid in the heap. -/
def someScal : List Sc → Heap → (List D → List Value → Heap → Prop) → Prop
  | [], H, k => k [] [] H
  | .int kd :: r, H, k => ∃ n : Int, someScal r H fun ds vs H' => k (.val (.int kd n) :: ds) (.int kd n :: vs) H'
  | .bool :: r, H, k => (someScal r H fun ds vs H' => k (.val (.bool true) :: ds) (.bool true :: vs) H') ∨ (someScal r H fun ds vs H' => k (.val (.bool false) :: ds) (.bool false :: vs) H')
  | .str :: r, H, k => ∃ s : ByteArray, someScal r H fun ds vs H' => k (.val (.string s) :: ds) (.string s :: vs) H'
  | .sl es :: r, H, k => (someScal r H fun ds vs H' => k (.nil :: ds) (.slice none 0 0 :: vs) H') ∨
      (∃ (n : Nat) (cs : List Value), someScal r (H.new (.sym cs true es)) fun ds vs H' => k (.sl n es cs :: ds) (.slice (some ⟨H.next, 0, none⟩) n n :: vs) H')
def someVal (P : Program) (t : TypeId) (H : Heap) (k : D → Value → Heap → Prop) : Prop :=
  match scal P 8 t with
  | none => False
  | some l =>
    match isAggP P t with
    | some true => someScal l H fun ds vs H' => k (.agg ds) (.agg vs.toArray) H'
    | _ => someScal l H fun ds vs H' => match ds, vs with | [d], [v] => k d v H' | _, _ => False
def someVals (P : Program) : List TypeId → Heap → (List D → List Value → Heap → Prop) → Prop
  | [], H, k => k [] [] H
  | t :: r, H, k => someVal P t H fun d v H' => someVals P r H' fun ds vs H'' => k (d :: ds) (v :: vs) H''
def tupleOf : List Value → Value
  | [v] => v
  | vs => .tuple vs.toArray

/-- The data of values that hold no struct. -/
def readCells (H : Heap) : List Value → (List D → Prop) → Prop
  | [], k => k []
  | v :: r, k =>
    match v with
    | .slice none 0 0 => readCells H r fun ds => k (.nil :: ds)
    | .slice (some ⟨i, o, none⟩) len _ =>
      match H.get i with
      | some (.sym cs _ es) => bcase (decide (o + len * es ≤ cs.length)) (readCells H r fun ds => k (.sl len es ((cs.drop o).take (len * es)) :: ds)) False
      | some (.cells cs _ _ es) => bcase (decide (o + len * es ≤ cs.length)) (bcase (((cs.drop o).take (len * es)).all cellP) (readCells H r fun ds => k (.sl len es ((cs.drop o).take (len * es)) :: ds)) False) False
      | _ => False
    | v => if plain 8 v then readCells H r fun ds => k (.val v :: ds) else False
/-- The data of values. -/
def readVals (H : Heap) : List Value → (List D → Prop) → Prop
  | [], k => k []
  | .agg cs :: r, k => readCells H cs.toList fun ds => readVals H r fun rs => k (.agg ds :: rs)
  | v :: r, k => readCells H [v] fun ds => readVals H r fun rs => k (ds ++ rs)

/-- Data are laid in the blocks that a call is handed. -/
def layCells (caps : Nat → Nat) : Nat → List D → List Value × List (Nat × AObj)
  | _, [] => ([], [])
  | i, .sl n es cs :: r => (.slice (some ⟨i, 0, none⟩) n (caps i) :: (layCells caps (i + 1) r).1, (i, .sym cs false es) :: (layCells caps (i + 1) r).2)
  | i, .nil :: r => (.slice none 0 0 :: (layCells caps i r).1, (layCells caps i r).2)
  | i, .val v :: r => (v :: (layCells caps i r).1, (layCells caps i r).2)
  | i, .agg _ :: r => (unknown :: (layCells caps i r).1, (layCells caps i r).2)
def countC : List D → Nat
  | [] => 0
  | .sl _ _ _ :: r => countC r + 1
  | _ :: r => countC r
def layVals (caps : Nat → Nat) : Nat → List D → List Value × List (Nat × AObj)
  | _, [] => ([], [])
  | i, .agg ds :: r => (.agg (layCells caps i ds).1.toArray :: (layVals caps (i + countC ds) r).1, (layCells caps i ds).2 ++ (layVals caps (i + countC ds) r).2)
  | i, d :: r => ((layCells caps i [d]).1 ++ (layVals caps (i + countC [d]) r).1, (layCells caps i [d]).2 ++ (layVals caps (i + countC [d]) r).2)
def countV : List D → Nat
  | [] => 0
  | .agg ds :: r => countC ds + countV r
  | d :: r => countC [d] + countV r

/-! ### What is kept at a loop -/
def blocksV : Nat → Value → List Nat
  | 0, _ => []
  | n + 1, v =>
    match v with
    | .pointer (some ⟨i, _, _⟩) | .slice (some ⟨i, _, _⟩) _ _ | .map (some i) => [i]
    | .agg cs | .tuple cs => cs.toList.flatMap (blocksV n)
    | .func _ a b => a.toList.flatMap (blocksV n) ++ b.toList.flatMap (blocksV n)
    | .iface _ x => blocksV n x
    | _ => []
def blocksO : AObj → List Nat
  | .cells cs _ _ _ => cs.flatMap (blocksV 8)
  | .map es _ => es.flatMap fun e => blocksV 8 e.val
  | _ => []
abbrev Mu := List (Nat × Nat)
def Mu.find : Mu → Nat → Option Nat
  | [], _ => none
  | (a, b) :: r, i => if a = i then some b else Mu.find r i
def mapV (μ : Mu) : Nat → Value → Value
  | 0, _ => unknown
  | n + 1, v =>
    match v with
    | .pointer (some ⟨i, k, none⟩) => match μ.find i with | some j => .pointer (some ⟨j, k, none⟩) | none => unknown
    | .slice (some ⟨i, k, none⟩) l c => match μ.find i with | some j => .slice (some ⟨j, k, none⟩) l c | none => unknown
    | .map (some i) => match μ.find i with | some j => .map (some j) | none => unknown
    | .agg cs => .agg (cs.toList.map (mapV μ n)).toArray
    | .tuple cs => .tuple (cs.toList.map (mapV μ n)).toArray
    | .func (.func f) a b => .func (.func f) (a.toList.map (mapV μ n)).toArray (b.toList.map (mapV μ n)).toArray
    | .iface t x => .iface t (mapV μ n x)
    | .bool _ | .int _ _ | .float _ _ | .complex _ _ _ | .string _ | .nilFunc | .nilIface | .pointer none | .slice none _ _ | .map none => v
    | _ => unknown
def mapO (μ : Mu) : AObj → Option AObj
  | .cells cs ty o es => some (.cells (cs.map (mapV μ 8)) ty o es)
  | .sym cs o es => some (.sym cs o es)
  | .map es c => if es.all (fun e => plain 1 e.key) then some (.map (es.map fun e => { e with val := mapV μ 8 e.val }) c) else none
  | .deferred => some .deferred
  | .taken => some .taken
  | _ => none
/-- The blocks that are reached, each with its new number. -/
def reach (H : Heap) : Nat → List Nat → Mu → Nat → Mu
  | 0, _, μ, _ => μ
  | _, [], μ, _ => μ
  | f + 1, i :: work, μ, next =>
    match μ.find i with
    | some _ => reach H f work μ next
    | none =>
      match H.get i with
      | none => reach H f work μ next
      | some o => if i < gbase then reach H f (work ++ blocksO o) (μ ++ [(i, i)]) next else reach H f (work ++ blocksO o) (μ ++ [(i, next)]) (next + 1)
abbrev Slots := List (Tmp × Value)
abbrev Blocks := List (Nat × AObj)
def blank (sz : Nat) : Tree Value := (List.range sz).foldl (fun t k => t.set (k + 1) k unknown) .leaf
def actOf (sz : Nat) (l : Slots) : AAct := { tmps := l.foldl (fun t (p : Tmp × Value) => t.set (p.1 + 1) p.1 p.2) (blank sz), size := sz, defers := [] }
def heapOf (bs : Blocks) : Heap := { tree := bs.foldl (fun t (p : Nat × AObj) => t.set (p.1 + 1) p.1 p.2) .leaf, next := gbase + (bs.filter fun p => gbase ≤ p.1).length }
def gcS (μ : Mu) (keep : List Tmp) (A : AAct) : Slots := keep.map fun k => (k, mapV μ 8 (A.slot k))
def gcB (H : Heap) : Mu → Mu → Blocks
  | _, [] => []
  | μ, p :: r => match (H.get p.1).bind (mapO μ) with | some o => (p.2, o) :: gcB H μ r | none => gcB H μ r
def nodupB : List Nat → Bool
  | [] => true
  | x :: l => !l.contains x && nodupB l
/-- The numbers are changed one to one, and those of what was handed stay. -/
def gcGood (μ : Mu) (b : Blocks) : Bool :=
  nodupB (μ.map (·.1)) && nodupB (μ.map (·.2)) && μ.all fun p => if p.1 < gbase then p.2 == p.1 else decide (gbase ≤ p.2) && decide (p.2 < (heapOf b).next)
def gcMu (keep : List Tmp) (A : AAct) (H : Heap) : Mu := reach H 1000 (keep.flatMap fun k => blocksV 8 (A.slot k)) [] gbase

/-! ### Which slots are read later -/
def uni (a b : List Tmp) : List Tmp := a.filter (fun x => !b.contains x) ++ b
def insert1 (x : Tmp) : List Tmp → List Tmp
  | [] => [x]
  | y :: l => if x < y then x :: y :: l else if x = y then y :: l else y :: insert1 x l
def sortT (l : List Tmp) : List Tmp := l.foldr insert1 []
def tmpsOf (l : List Operand) : List Tmp := l.filterMap fun | .tmp t => some t | _ => none
def liveOp (ops : Array Oper) (o : Oper) (out : List Tmp) : List Tmp :=
  uni (looks ops o) (match o.dst with | some d => out.filter (· != d) | none => out)
structure Lv where
  normal : List Tmp
  ret : List Tmp
  exits : List (Nat × List Tmp)
def findX : List (Nat × List Tmp) → Nat → List Tmp
  | [], _ => []
  | (a, b) :: r, i => if a = i then b else findX r i
def Lv.exit (l : Lv) (id : Nat) : List Tmp := findX l.exits id
def liveIn : Code → Lv → List Tmp
  | .skip, L => L.normal
  | .region _ ops _, L => ops.toList.foldr (liveOp ops) L.normal
  | .seq x y, L => liveIn x { L with normal := liveIn y L }
  | .cond c x y, L => uni (tmpsOf [c]) (uni (liveIn x L) (liveIn y L))
  | .block id b, L => liveIn b { L with exits := (id, L.normal) :: L.exits }
  | .loop b, L =>
    let l1 := liveIn b { L with normal := [] }
    let l2 := liveIn b { L with normal := l1 }
    uni l1 l2
  | .rangeFunc f _ a b, L => uni (tmpsOf [f]) (uni L.normal (uni (liveIn a L) (uni (liveIn b L) L.ret)))
  | .exit id, L => L.exit id
  | .ret, L => L.ret
  | _, L => L.normal

/-! ### What is left to show -/
/-- Calls that are met: what must be shown of one. -/
abbrev Handler := FuncId → Array Value → Array TypeId → Heap → (Value → Heap → Prop) → Prop
/-- Loops that are met: what must be shown at the head. -/
abbrev AtLoop := Nat → Slots → Blocks → Prop
/-- (the data of a contract; a wrapper that is not unfolded) -/
structure Says (C : FuncId → List D → List D → Prop) (g : FuncId) (ds rs : List D) : Prop where
  out : C g ds rs

def wpVal (v : Value) (k : Value → Prop) : Prop :=
  match v with
  | .bool b => bcase b (k (.bool true)) (k (.bool false))
  | .int j n => k (.int j n)
  | .string s => k (.string s)
  | .agg cs => k (.agg cs)
  | .tuple cs => k (.tuple cs)
  | .pointer a => k (.pointer a)
  | .slice a l c => k (.slice a l c)
  | .func f a b => k (.func f a b)
  | .map r => k (.map r)
  | v => k v

/-- Cells of a list, from a place on. -/
structure At (cs : List Value) (k n : Nat) (row : List Value) : Prop where
  len : k + n ≤ cs.length
  eq : (cs.drop k).take n = row
/-- Values of kinds, whatever they are, that a list has from a place on. -/
def rowOf : List Sc → (List Value → Prop) → Prop
  | [], k => k []
  | .int kd :: r, k => ∃ n : Int, rowOf r fun vs => k (.int kd n :: vs)
  | .bool :: r, k => (rowOf r fun vs => k (.bool true :: vs)) ∨ (rowOf r fun vs => k (.bool false :: vs))
  | .str :: r, k => ∃ s : ByteArray, rowOf r fun vs => k (.string s :: vs)
  | .sl _ :: _, _ => False
def wpLoad (P : Program) (H : Heap) (t : TypeId) (p : Value) (k : Value → Prop) : Prop :=
  match p with
  | .pointer (some ⟨i, off, none⟩) =>
    match H.get i with
    | some (.sym cs _ _) =>
      match scal P 8 t, isAggP P t with
      | some l, some true => if sizeP P t = some l.length then rowOf l fun vs => At cs off l.length vs ∧ k (.agg vs.toArray) else False
      | some [s], some false => rowOf [s] fun vs => At cs off 1 vs ∧ k (vs.headD undef)
      | _, _ => False
    | some (.cells _ _ _ _) => match loadA P H t p with | some v => wpVal v k | none => False
    | _ => False
  | _ => False
def wpIndexAddr (P : Program) (t : TypeId) (x ix : Value) (k : Value → Prop) : Prop :=
  match x, ix with
  | .slice (some ⟨i, o, none⟩) len _, .int _ n =>
    match P.underlying t with
    | some (.slice e) => match sizeP P e with | some es => bcase (decide (0 ≤ n)) (bcase (decide (n < len)) (k (.pointer (some ⟨i, o + n.toNat * es, none⟩))) False) False | none => False
    | _ => False
  | .pointer _, .int _ _ => match pureRun P (Instr.indexAt t x ix) with | some v => k v | none => False
  | _, _ => False
/-- A byte of a string. -/
structure ByteAt (s : ByteArray) (i : Nat) (b : UInt8) : Prop where
  out : s[i]? = some b
def wpIndex (P : Program) (t : TypeId) (x ix : Value) (k : Value → Prop) : Prop :=
  match x, ix with
  | .string s, .int _ n => match P.underlying t with | some .string => bcase (decide (0 ≤ n)) (∃ b : UInt8, ByteAt s n.toNat b ∧ k (.int .u8 b.toNat)) False | _ => False
  | x, ix => match pureRun P (Instr.index t x ix) with | some v => wpVal v k | none => False
def wpBin (P : Program) (op : BinOp) (t : TypeId) (x y : Operand) (a b : Value) (k : Value → Prop) : Prop :=
  match op, a, b with
  | .quo, .int j m, .int j' n => if j = j' then bcase (n != 0) (k (.int j (j.wrap (m.tdiv n)))) False else False
  | .rem, .int j m, .int j' n => if j = j' then bcase (n != 0) (k (.int j (m.tmod n))) False else False
  | op, a, b => match binA P op t x y a b with | some v => wpVal v k | none => False

/-- Calls of functions that are known by what they do (sig: their results' types), the others are entered, so many deep. -/
def wpSaid (P : Program) (C : FuncId → List D → List D → Prop) (g : FuncId) (res : List TypeId) (args : Array Value) (H : Heap) (k : Value → Heap → Prop) : Prop :=
  readVals H args.toList fun ds => someVals P res H fun rs vs H' => Says C g ds rs ∧ k (tupleOf vs) H'

/-- Is it a type whose values hold no address? -/
def plainTy (P : Program) (t : TypeId) : Bool :=
  match scal P 8 t with
  | some l => l.all fun s => match s with | .sl _ => false | _ => true
  | none => false
/-- The cells of a slice that is appended. -/
def srcK (H : Heap) (es n : Nat) (x : Value) (k : List Value → Prop) : Prop :=
  match x with
  | .slice (some ⟨i, o, none⟩) _ _ =>
    match H.get i with
    | some (.sym cs _ _) => bcase (decide (o + n * es ≤ cs.length)) (k ((cs.drop o).take (n * es))) False
    | some (.cells cs _ _ _) => bcase (decide (o + n * es ≤ cs.length)) (bcase (((cs.drop o).take (n * es)).all cellP) (k ((cs.drop o).take (n * es))) False) False
    | _ => False
  | .slice none _ _ => bcase (n == 0) (k []) False
  | _ => False
def arrOf : AObj → Option (List Value × Bool × Nat × Bool)
  | .sym cs o es => some (cs, o, es, true)
  | .cells cs _ o es => some (cs, o, es, false)
  | _ => none
def growK (H : Heap) (es : Nat) (base : Option Addr) (sLen sCap n : Nat) (new : List Value) (k : Value → Heap → Prop) : Prop :=
  match base with
  | none => bcase (sLen == 0) (k (.slice (some ⟨H.next, 0, none⟩) (sLen + n) (sLen + n)) (H.new (.sym new true es))) False
  | some ⟨b, off, none⟩ =>
    match (H.get b).bind arrOf with
    | some (cs, o, es', sy) =>
      if es' = es ∧ gbase ≤ b then
        bcase (decide (off + sLen * es ≤ cs.length)) (bcase (sy || ((cs.drop off).take (sLen * es)).all cellP)
          (if o then bcase (decide (off + sCap * es = cs.length)) (k (.slice (some ⟨H.next, 0, none⟩) (sLen + n) (sLen + n)) ((H.set b (.dead cs.length o es)).new (.sym ((cs.drop off).take (sLen * es) ++ new) true es))) False
           else if sy then False else k (.slice (some ⟨H.next, 0, none⟩) (sLen + n) (sLen + n)) (H.new (.sym ((cs.drop off).take (sLen * es) ++ new) true es))) False) False
      else False
    | none => False
  | _ => False
def keepK (H : Heap) (es : Nat) (base : Option Addr) (sLen sCap : Nat) (k : Value → Heap → Prop) : Prop :=
  match base with
  | none => k (.slice none sLen sCap) H
  | some ⟨b, off, none⟩ =>
    match (H.get b).bind arrOf with
    | some (cs, o, es', sy) => if es' = es ∧ gbase ≤ b ∧ (sy = true → o = true) then bcase (decide (off + sLen * es ≤ cs.length)) (k (.slice (some ⟨b, off, none⟩) sLen sCap) H) False else False
    | none => False
  | _ => False
def wpAppend (P : Program) (H : Heap) (argTypes : Array TypeId) (args : Array Value) (k : Value → Heap → Prop) : Prop :=
  match tAt argTypes 0, vAt args 0, vAt args 1 with
  | some sType, some (.slice base sLen sCap), some x =>
    match P.underlying sType with
    | some (.slice elem) =>
      match P.info? elem, zerosP P argTypes, lenA x with
      | some i, some false, some n =>
        if plainTy P elem = true ∧ (i.zero.map fun z => z.cells.size) = some i.size then
          srcK H i.size n x fun new =>
            bcase (n == 0) (bcase (decide (sLen ≤ sCap)) (keepK H i.size base sLen sCap k) False)
              (bcase (decide (sCap < sLen + n)) (bcase (decide ((2 * (sLen + n) + 768) * i.bytes ≤ 281474976710656)) (bcase (decide (sLen + n ≤ 1099511627776)) (growK H i.size base sLen sCap n new k) False) False) False)
        else match appendA P H argTypes args with | some (v, H') => k v H' | none => False
      | _, _, _ => False
    | _ => False
  | _, _, _ => False

/-- An operation that yields a value and makes no call. -/
def wpVop (P : Program) (H : Heap) (env : Operand → Value) (o : Oper) (k : Value → Heap → Prop) : Prop :=
  match o.op with
  | .load t a => wpLoad P H t (env a) fun v => k v H
  | .indexAddr t x ix => wpIndexAddr P t (env x) (env ix) fun v => k v H
  | .index t x ix => wpIndex P t (env x) (env ix) fun v => k v H
  | .binOp op t x y _ => wpBin P op t x y (env x) (env y) fun v => k v H
  | _ => match opA P H env o with | some (.value v, H') => wpVal v fun v => k v H' | _ => False
/-- A store; into cells that hold no address, too. -/
def wpStore (P : Program) (H : Heap) (t : TypeId) (p v : Value) (k : Heap → Prop) : Prop :=
  match p with
  | .pointer (some ⟨i, off, none⟩) =>
    match H.get i with
    | some (.sym cs true es) =>
      if sizeP P t = some v.cells.size ∧ known v = true ∧ v.cells.toList.all cellP = true ∧ gbase ≤ i then
        bcase (decide (off + v.cells.size ≤ cs.length)) (k (H.set i (.sym (listSet cs off v.cells.toList) true es))) False
      else False
    | _ => match storeA P H t p v with | some H' => k H' | none => False
  | _ => False
def isStore (o : Oper) : Bool :=
  match o.op with
  | .store _ _ _ => true
  | _ => false
def storeOf (o : Oper) : TypeId × Operand × Operand :=
  match o.op with
  | .store t a x => (t, a, x)
  | _ => (0, .const undef, .const undef)
def isSkip (o : Oper) : Bool :=
  match o.op with
  | .store _ _ _ | .mapUpdate _ _ _ _ | .insert _ _ _ _ => true
  | _ => false
def isCall (o : Oper) : Bool :=
  match o.op with
  | .call { callee := .value _, .. } => true
  | _ => false
def isAppend (o : Oper) : Bool :=
  match o.op with
  | .call { callee := .builtin .append, .. } => true
  | _ => false
def argsOf (o : Oper) : Array Operand :=
  match o.op with
  | .call c => c.args
  | _ => #[]
def argTypesOf (o : Oper) : Array TypeId :=
  match o.op with
  | .call c => c.argTypes
  | _ => #[]
def wpOp (P : Program) (h : Handler) (o : Oper) (A : AAct) (H : Heap) (k : AAct → Heap → Prop) : Prop :=
  if isStore o then wpStore P H (storeOf o).1 (A.eval (storeOf o).2.1) (A.eval (storeOf o).2.2) fun H' => k (A.put o.dst undef) H'
  else if isSkip o then match opA P H A.eval o with | some (.skip, H') => k (A.put o.dst undef) H' | _ => False
  else if isCall o then
    match opA P H A.eval o with
    | some (.value v, H') => wpVal v fun v => k (A.put o.dst v) H'
    | some (.enter g args, H') => h g args (argTypesOf o) H' fun v H'' => k (A.put o.dst v) H''
    | _ => False
  else if isAppend o then wpAppend P H (argTypesOf o) ((argsOf o).map A.eval) fun v H' => k (A.put o.dst v) H'
  else wpVop P H A.eval o fun v H' => k (A.put o.dst v) H'

def wpOps (P : Program) (h : Handler) (ops : Array Oper) : List Nat → AAct → Heap → (AAct → Heap → Prop) → Prop
  | [], A, H, k => k A H
  | i :: rest, A, H, k =>
    match ops[i]? with
    | none => wpOps P h ops rest A H k
    | some o =>
      match wantedA ops A o with
      | some true => wpOp P h o A H fun A' H' => wpOps P h ops rest A' H' k
      | some false => wpOps P h ops rest (A.put o.dst undef) H k
      | none => False

/-! ### A region whose order is drawn -/
/-- What was carried out ahead would be carried out likewise now. -/
def stillK (P : Program) (ops : Array Oper) (A : AAct) (H : Heap) (j : Nat) : Prop :=
  match ops[j]? with
  | some o =>
    match wantedA ops A o with
    | some false => (match o.dst with | none => True | some d => if d < A.size then A.slot d = undef else False)
    | some true =>
      match allocOf P A.eval o with
      | some (m, x) =>
        match o.dst with
        | none => False
        | some d => if d < A.size then (match blk (A.slot d) with | some i => A.slot d = m.val i ∧ H.get i = some x | none => False) else False
      | none => if isAlloc o then False else wpVop P H A.eval o fun v _ => match o.dst with | none => True | some d => if d < A.size then v = A.slot d else False
    | none => False
  | none => False
def allK (P : Program) (ops : Array Oper) (A : AAct) (H : Heap) (again : List Nat) : List Nat → Prop
  | [] => bcase (distinctOk (again.map (laid ops A))) True False
  | j :: r => stillK P ops A H j ∧ allK P ops A H again r
def wpMinor (P : Program) (ops : Array Oper) (A : AAct) (H : Heap) (o : Oper) (k : AAct → Heap → Prop) : Prop :=
  if inRange A o.dst = false then False else
  match wantedA ops A o with
  | some false => k (A.put o.dst undef) H
  | some true =>
    match allocOf P A.eval o with
    | some (m, x) => k (A.put o.dst (m.val H.next)) (H.new x)
    | none => if isAlloc o then False else wpVop P H A.eval o fun v _ => k (A.put o.dst v) H
  | none => False
def wpAny (P : Program) (h : Handler) (ops : Array Oper) : List PItem → AAct → Heap → (AAct → Heap → Prop) → Prop
  | [], _, _, _ => False
  | .minor i :: rest, A, H, k =>
    match ops[i]? with
    | some o => wpMinor P ops A H o fun A' H' => wpAny P h ops rest A' H' k
    | none => False
  | .major i again :: rest, A, H, k =>
    allK P ops A H again again ∧
    match ops[i]? with
    | some o =>
      match wantedA ops A o with
      | some true => wpOp P h o A H fun A' H' => wpAny P h ops rest A' H' k
      | some false => wpAny P h ops rest (A.put o.dst undef) H k
      | none => False
    | none => False
  | .last again :: _, A, H, k => allK P ops A H again again ∧ k A H

def isLoop : Code → Bool
  | .loop _ => true
  | _ => false
/-- A loop whose rounds are walked one by one, so many at the most. -/
def wpLoop (step : AAct → Heap → (Exit → AAct → Heap → Prop) → Prop) : Nat → AAct → Heap → (Exit → AAct → Heap → Prop) → Prop
  | 0, _, _, _ => False
  | n + 1, A, H, k => step A H fun e A' H' => match e with | .normal => wpLoop step n A' H' k | e => k e A' H'
def seqK (f : AAct → Heap → Prop) (k : Exit → AAct → Heap → Prop) : Exit → AAct → Heap → Prop := fun e A' H' =>
  match e with
  | .normal => f A' H'
  | e => k e A' H'
def blockK (id : Nat) (k : Exit → AAct → Heap → Prop) : Exit → AAct → Heap → Prop := fun e A' H' =>
  match e with
  | .exit id' => if id' = id then k .normal A' H' else k (.exit id') A' H'
  | e => k e A' H'
/-- (u = 0: a loop is met at its head; else its rounds are walked) -/
def wpT (P : Program) (h : Handler) (L : AtLoop) (u : Nat) : Code → Lv → AAct → Heap → (Exit → AAct → Heap → Prop) → Prop
  | .skip, _, A, H, k => k .normal A H
  | .region _ ops false, _, A, H, k => wpOps P h ops (List.range ops.size) A H (k .normal)
  | .region _ ops true, _, A, H, k => if regionGood ops then wpAny P h ops (plan ops) A H (k .normal) else False
  | .seq x y, l, A, H, k => wpT P h L u x { l with normal := liveIn y l } A H (seqK (fun A' H' => wpT P h L u y l A' H' k) k)
  | .cond c x y, l, A, H, k =>
    match A.eval c with
    | .bool true => wpT P h L u x l A H k
    | .bool false => wpT P h L u y l A H k
    | _ => False
  | .block id body, l, A, H, k =>
    if u = 0 ∧ isLoop body = true then
      match A.defers with
      | [] =>
        let keep := sortT (liveIn body { l with exits := (id, l.normal) :: l.exits })
        let μ := gcMu keep A H
        bcase (gcGood μ (gcB H μ μ)) (L id (gcS μ keep A) (gcB H μ μ)) False
      | _ => False
    else wpT P h L u body { l with exits := (id, l.normal) :: l.exits } A H (blockK id k)
  | .loop body, l, A, H, k => wpLoop (fun A H k => wpT P h L u body l A H k) u A H k
  | .exit id, _, A, H, k => k (.exit id) A H
  | .ret, _, A, H, k => k .ret A H
  | _, _, _, _, _ => False

/-- The end of a call. -/
def fnK (P : Program) (fn : Func) (k : Value → Heap → Prop) : Exit → AAct → Heap → Prop := fun e A H =>
  match e with
  | .normal | .ret =>
    match A.defers with
    | [] => match resultsA P H fn A with | some v => k v H | none => False
    | _ => False
  | _ => False
/-- The data of values that are the call's own, none of them shared. -/
def giveCells (H : Heap) : List Nat → List Value → (List Nat → List D → Prop) → Prop
  | used, [], k => k used []
  | used, v :: r, k =>
    match v with
    | .slice none 0 0 => giveCells H used r fun u ds => k u (.nil :: ds)
    | .slice (some ⟨i, 0, none⟩) len cap =>
      if gbase ≤ i ∧ used.contains i = false then
        match H.get i with
        | some (.sym cs true es) => (len = cap ∧ cs.length = len * es) ∧ giveCells H (i :: used) r fun u ds => k u (.sl len es cs :: ds)
        | some (.cells cs _ _ es) => (len = cap ∧ cs.length = len * es) ∧ bcase (cs.all cellP) (giveCells H (i :: used) r fun u ds => k u (.sl len es cs :: ds)) False
        | _ => False
      else False
    | v => if plain 8 v then giveCells H used r fun u ds => k u (.val v :: ds) else False
def giveVals (H : Heap) : List Nat → List Value → (List D → Prop) → Prop
  | _, [], k => k []
  | used, .agg cs :: r, k => giveCells H used cs.toList fun u ds => giveVals H u r fun rs => k (.agg ds :: rs)
  | used, v :: r, k => giveCells H used [v] fun u ds => giveVals H u r fun rs => k (ds ++ rs)
/-- The end of a call that is known by its data. -/
def dataK (k : List D → Prop) : Value → Heap → Prop := fun v H =>
  match v with
  | .tuple vs => if vs.size = 1 then False else giveVals H [] vs.toList k
  | v => giveVals H [] [v] k
def fnLv (fn : Func) : Lv :=
  let r := fn.results.toList.map fun | .tmp t => t | .cell a _ => a
  { normal := r, ret := r, exits := [] }
def fnSize (fn : Func) : Nat := max fn.params.size fn.ntmps
def act0 (fn : Func) (args : Array Value) : AAct := { tmps := AAct.ofArgs args.toList 0 .leaf, size := max args.size fn.ntmps, defers := [] }
/-- A call that is entered. -/
def wpFn (P : Program) (h : Handler) (L : AtLoop) (u : Nat) (f : FuncId) (args : Array Value) (H : Heap) (k : Value → Heap → Prop) : Prop :=
  match P.funcs[f]? with
  | some fn =>
    match fn.body with
    | some c => wpT P h L u c (fnLv fn) (act0 fn args) H (fnK P fn k)
    | none => False
  | none => False
/-- Functions of the table are met by what they do, the others are entered, so many deep; in these the rounds of loops are walked. -/
def handlerN (P : Program) (C : FuncId → List D → List D → Prop) (sig : FuncId → Bool) (u : Nat) : Nat → Handler
  | 0 => fun _ _ _ _ _ => False
  | n + 1 => fun g args _ H k =>
    if sig g then (match P.funcs[g]? with | some fn => wpSaid P C g fn.resultTypes.toList args H k | none => False)
    else wpFn P (handlerN P C sig u n) (fun _ _ _ => False) u g args H k

/-! ### A loop of a piece of code: its body, and what follows it -/
/-- The loop that is met at a block of that number, and what is read where. -/
def findLoop : Code → Lv → Nat → Option (Code × Lv)
  | .seq x y, l, id => (findLoop x { l with normal := liveIn y l } id).or (findLoop y l id)
  | .cond _ x y, l, id => (findLoop x l id).or (findLoop y l id)
  | .block i b, l, id =>
    if isLoop b then (if i = id then (match b with | .loop c => some (c, { l with exits := (i, l.normal) :: l.exits }) | _ => none) else none)
    else findLoop b { l with exits := (i, l.normal) :: l.exits } id
  | _, _, _ => none
/-- The numbers of the loops that are met. -/
def loopIds : Code → List Nat
  | .seq x y => loopIds x ++ loopIds y
  | .cond _ x y => loopIds x ++ loopIds y
  | .block i b => if isLoop b then [i] else loopIds b
  | _ => []
/-- What must be shown where the code goes on behind that block. -/
def wpAfter (P : Program) (h : Handler) (L : AtLoop) : Code → Lv → Nat → Exit → AAct → Heap → (Exit → AAct → Heap → Prop) → Prop
  | .seq x y, l, id, e, A, H, k =>
    if (findLoop x { l with normal := liveIn y l } id).isSome then
      wpAfter P h L x { l with normal := liveIn y l } id e A H (seqK (fun A' H' => wpT P h L 0 y l A' H' k) k)
    else wpAfter P h L y l id e A H k
  | .cond _ x y, l, id, e, A, H, k => if (findLoop x l id).isSome then wpAfter P h L x l id e A H k else wpAfter P h L y l id e A H k
  | .block i b, l, id, e, A, H, k =>
    if isLoop b then (if i = id then k e A H else False)
    else wpAfter P h L b { l with exits := (i, l.normal) :: l.exits } id e A H (blockK i k)
  | _, _, _, _, _, _, _ => False
/-- The end of a round. B: the head again, X: an exit. -/
def roundK (body : Code) (l : Lv) (B : Slots → Blocks → Prop) (X : Nat → Slots → Blocks → Prop) (R : Exit → AAct → Heap → Prop) : Exit → AAct → Heap → Prop := fun e A H =>
  match e with
  | .normal => match A.defers with | [] => let keep := sortT (liveIn (.loop body) l); let μ := gcMu keep A H; bcase (gcGood μ (gcB H μ μ)) (B (gcS μ keep A) (gcB H μ μ)) False | _ => False
  | .exit i => match A.defers with | [] => let keep := sortT (l.exit i); let μ := gcMu keep A H; bcase (gcGood μ (gcB H μ μ)) (X i (gcS μ keep A) (gcB H μ μ)) False | _ => False
  | e => R e A H
/-- The body of a loop of the function. -/
def wpRound (P : Program) (h : Handler) (L : AtLoop) (f : FuncId) (id : Nat) (s : Slots) (b : Blocks) (B : Slots → Blocks → Prop) (X : Nat → Slots → Blocks → Prop) (k : Value → Heap → Prop) : Prop :=
  match P.funcs[f]? with
  | some fn =>
    match fn.body with
    | some c =>
      match findLoop c (fnLv fn) id with
      | some (body, l) => wpT P h L 0 body l (actOf (fnSize fn) s) (heapOf b) (roundK body l B X (fnK P fn k))
      | none => False
    | none => False
  | none => False
/-- What follows a loop of the function. -/
def wpNext (P : Program) (h : Handler) (L : AtLoop) (f : FuncId) (id : Nat) (e : Exit) (s : Slots) (b : Blocks) (k : Value → Heap → Prop) : Prop :=
  match P.funcs[f]? with
  | some fn => match fn.body with | some c => wpAfter P h L c (fnLv fn) id e (actOf (fnSize fn) s) (heapOf b) (fnK P fn k) | none => False
  | none => False
end Go.Abs
