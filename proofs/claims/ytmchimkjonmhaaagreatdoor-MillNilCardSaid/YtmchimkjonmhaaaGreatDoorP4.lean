/- Texts of the proof, put together: GnSL, AbsSameD, AbsSame, AbsTab, AbsPairs, AbsGood, GStr, GStr2, AbsStr, GStr3, GnMW0, GnMW2, GnMW3, GnMW1, GnMU0, GnMJ1, GnMJ2, GnMJ3, GnMJ4, AbsFrameD, AbsXD, AbsFrame, AbsState, AbsX, GnMLT, GnML0, GnMUK. -/
import Derived.Test.YtmchimkjonmhaaaGreatDoorP2
import Derived.Test.YtmchimkjonmhaaaGreatDoorP3
import Derived.Shelf.Strings.OnBuilder
import Derived.Shelf.Strconv.Atoi
import Derived.Shelf.LaysM
import Derived.Shelf.Strconv.Itoa3
import Derived.Shelf.LaysC
import Derived.Shelf.Strconv.AtoiErr
import Derived.Shelf.Strings.Cut
import Derived.Shelf.Strings.Split
import Derived.Shelf.Strings.SplitShaped
import Derived.Test.YtmchimkjonmhaaaGreatDoorProg
import Derived.Lib.LaidTab
import Derived.Lib.ItoaNum
import Derived.Lib.Join
import Derived.Lib.Split
import Derived.Lib.IndexMore
import Derived.Lib.Strings
import Derived.Lib.Atoi
import Derived.KernelRfl
import Derived.WalkKit
import Derived.BigCall
import Derived.WalkSmall
import Derived.Laws.RangeAny
import Derived.LoopTactic
import Derived.Test.YtmchimkjonmhaaaGreatDoorCards
import Derived.Test.YtmchimkjonmhaaaGreatDoorTie
import Derived.Handed
import Derived.JoinedCond
import Derived.Deep.DeepHandedRow
import Derived.Stop.LaidErr
/-
  DERIVED: THE SHELF's CONTRACTS AT THIS DUMP, IN PLAIN WORDS (tools/lay-plain.mjs out of 'TryzShelf.lean', which tools/lay-shelf.mjs wrote): THE SAME DECLARATIONS UNDER THE SAME NAMES: 'import', 'namespace', 'open', 'def', 'theorem' AND NOTHING ELSE: no command of the shelf's: FOR A HAND-IN. Each laying: the table of numbers ('.._ren') and one theorem, a field a fact of the dump's own or the kernel's comparison; each contract: ONE APPLICATION.
-/
namespace Go.Proofs
open Go.Shelf
def Tryz.lays172_ren : Go.Shelf.Ren := ⟨fun | 172 => 117 | 244 => 173 | 245 => 174 | 247 => 223 | 279 => 224 | 280 => 225 | 281 => 226 | 282 => 227 | 287 => 275 | 316 => 276 | 171 => 37 | 205 => 277 | 321 => 310 | 322 => 311 | 243 => 63 | 246 => 99 | 283 => 140 | 284 => 141 | 285 => 142 | 286 => 143 | 129 => 193 | 317 => 192 | 318 => 194 | 319 => 195 | 320 => 196 | 337 => 245 | 338 => 246 | n => n, fun | 9 => 9 | 3 => 3 | 75 => 96 | 76 => 97 | 4 => 4 | 5 => 5 | 167 => 321 | 37 => 90 | 0 => 0 | 85 => 322 | 2 => 2 | 168 => 324 | 53 => 244 | 175 => 377 | 46 => 191 | 210 => 380 | 127 => 134 | 145 => 425 | 143 => 423 | 21 => 21 | 171 => 261 | 173 => 264 | 212 => 292 | 51 => 241 | 20 => 20 | 213 => 293 | 232 => 395 | 233 => 396 | 80 => 31 | n => n, fun | 15 => 3 | 16 => 4 | 17 => 2 | 18 => 5 | 19 => 6 | n => n⟩
theorem Tryz.lays172 : Go.Proofs.Lays.n172 Tryz.prog Tryz.lays172_ren := {
  mixed := by kernel_rfl
  f129 := Tryz.func193.trans (congrArg some (by kernel_rfl))
  f171 := Tryz.func37.trans (congrArg some (by kernel_rfl))
  f172 := Tryz.func117.trans (congrArg some (by kernel_rfl))
  f205 := Tryz.func277.trans (congrArg some (by kernel_rfl))
  f243 := Tryz.func63.trans (congrArg some (by kernel_rfl))
  f244 := Tryz.func173.trans (congrArg some (by kernel_rfl))
  f245 := Tryz.func174.trans (congrArg some (by kernel_rfl))
  f246 := Tryz.func99.trans (congrArg some (by kernel_rfl))
  f247 := Tryz.func223.trans (congrArg some (by kernel_rfl))
  f279 := Tryz.func224.trans (congrArg some (by kernel_rfl))
  f280 := Tryz.func225.trans (congrArg some (by kernel_rfl))
  f281 := Tryz.func226.trans (congrArg some (by kernel_rfl))
  f282 := Tryz.func227.trans (congrArg some (by kernel_rfl))
  f283 := Tryz.func140.trans (congrArg some (by kernel_rfl))
  f284 := Tryz.func141.trans (congrArg some (by kernel_rfl))
  f285 := Tryz.func142.trans (congrArg some (by kernel_rfl))
  f286 := Tryz.func143.trans (congrArg some (by kernel_rfl))
  f287 := Tryz.func275.trans (congrArg some (by kernel_rfl))
  f316 := Tryz.func276.trans (congrArg some (by kernel_rfl))
  f317 := Tryz.func192.trans (congrArg some (by kernel_rfl))
  f318 := Tryz.func194.trans (congrArg some (by kernel_rfl))
  f319 := Tryz.func195.trans (congrArg some (by kernel_rfl))
  f320 := Tryz.func196.trans (congrArg some (by kernel_rfl))
  f321 := Tryz.func310.trans (congrArg some (by kernel_rfl))
  f322 := Tryz.func311.trans (congrArg some (by kernel_rfl))
  f337 := Tryz.func245.trans (congrArg some (by kernel_rfl))
  f338 := Tryz.func246.trans (congrArg some (by kernel_rfl))
  t0 := Tryz.underlying0
  a0 := Tryz.isAgg0
  z0 := Tryz.sizeOf0
  v0 := Tryz.zeroValue0
  t2 := Tryz.underlying2
  a2 := Tryz.isAgg2
  z2 := Tryz.sizeOf2
  v2 := Tryz.zeroValue2
  t3 := Tryz.underlying3
  a3 := Tryz.isAgg3
  z3 := Tryz.sizeOf3
  v3 := Tryz.zeroValue3
  t4 := Tryz.underlying4
  a4 := Tryz.isAgg4
  z4 := Tryz.sizeOf4
  v4 := Tryz.zeroValue4
  t5 := Tryz.underlying5
  a5 := Tryz.isAgg5
  z5 := Tryz.sizeOf5
  v5 := Tryz.zeroValue5
  t9 := Tryz.underlying9
  a9 := Tryz.isAgg9
  z9 := Tryz.sizeOf9
  v9 := Tryz.zeroValue9
  t20 := Tryz.underlying20
  a20 := Tryz.isAgg20
  z20 := Tryz.sizeOf20
  v20 := Tryz.zeroValue20
  t21 := Tryz.underlying21
  a21 := Tryz.isAgg21
  z21 := Tryz.sizeOf21
  v21 := Tryz.zeroValue21
  t37 := Tryz.underlying90
  a37 := Tryz.isAgg90
  z37 := Tryz.sizeOf90
  v37 := Tryz.zeroValue90
  t46 := Tryz.underlying191
  a46 := Tryz.isAgg191
  z46 := Tryz.sizeOf191
  v46 := Tryz.zeroValue191
  t51 := Tryz.underlying241
  a51 := Tryz.isAgg241
  z51 := Tryz.sizeOf241
  v51 := Tryz.zeroValue241
  t53 := Tryz.underlying244
  a53 := Tryz.isAgg244
  z53 := Tryz.sizeOf244
  v53 := Tryz.zeroValue244
  t75 := Tryz.underlying96
  a75 := Tryz.isAgg96
  z75 := Tryz.sizeOf96
  v75 := Tryz.zeroValue96
  t76 := Tryz.underlying97
  a76 := Tryz.isAgg97
  z76 := Tryz.sizeOf97
  v76 := Tryz.zeroValue97
  t85 := Tryz.underlying322
  a85 := Tryz.isAgg322
  z85 := Tryz.sizeOf322
  v85 := Tryz.zeroValue322
  t127 := Tryz.underlying134
  a127 := Tryz.isAgg134
  z127 := Tryz.sizeOf134
  v127 := Tryz.zeroValue134
  t143 := Tryz.underlying423
  a143 := Tryz.isAgg423
  z143 := Tryz.sizeOf423
  v143 := Tryz.zeroValue423
  t145 := Tryz.underlying425
  a145 := Tryz.isAgg425
  z145 := Tryz.sizeOf425
  v145 := Tryz.zeroValue425
  t167 := Tryz.underlying321
  a167 := Tryz.isAgg321
  z167 := Tryz.sizeOf321
  v167 := Tryz.zeroValue321
  t168 := Tryz.underlying324
  a168 := Tryz.isAgg324
  z168 := Tryz.sizeOf324
  v168 := Tryz.zeroValue324
  t171 := Tryz.underlying261
  a171 := Tryz.isAgg261
  z171 := Tryz.sizeOf261
  v171 := Tryz.zeroValue261
  t173 := Tryz.underlying264
  a173 := Tryz.isAgg264
  z173 := Tryz.sizeOf264
  v173 := Tryz.zeroValue264
  t175 := Tryz.underlying377
  a175 := Tryz.isAgg377
  z175 := Tryz.sizeOf377
  v175 := Tryz.zeroValue377
  t210 := Tryz.underlying380
  a210 := Tryz.isAgg380
  z210 := Tryz.sizeOf380
  v210 := Tryz.zeroValue380
  t212 := Tryz.underlying292
  a212 := Tryz.isAgg292
  z212 := Tryz.sizeOf292
  v212 := Tryz.zeroValue292
  t213 := Tryz.underlying293
  a213 := Tryz.isAgg293
  z213 := Tryz.sizeOf293
  t232 := Tryz.underlying395
  a232 := Tryz.isAgg395
  z232 := Tryz.sizeOf395
  v232 := Tryz.zeroValue395
  t233 := Tryz.underlying396
  a233 := Tryz.isAgg396
  z233 := Tryz.sizeOf396
  v233 := Tryz.zeroValue396
  g15 := by kernel_rfl
  g16 := by kernel_rfl
  g17 := by kernel_rfl
  g18 := by kernel_rfl
  g19 := by kernel_rfl }
open Go.RowKit in
/-- strconv.Atoi: "Atoi is equivalent to ParseInt(s, 10, 0), converted to type int.": AT A DECIMAL NUMERAL OF AT MOST 18 BYTES: its value, and a nil error. The world behind the call: the one new row that the library's '[]byte(s)' lays. (LAID: no walk: one application.) -/
theorem Tryz.strconv_Atoi (s : ByteArray) (n : Int) (hl : s.size ≤ 18) (h : Lib.atoi s.data.toList = some n) (w : World) :
    Calls Tryz.prog 117 #[.string s] w fun e w' => e = .returned (.tuple #[.int .i64 n, .nilIface]) ∧ ∃ t, w' = Lib.bytesWorld w 5 t := Any.strconv_Atoi Tryz.lays172 s n hl h w
def Tryz.lays146_ren : Go.Shelf.Ren := ⟨fun | 146 => 78 | 221 => 108 | 268 => 168 | 138 => 169 | 143 => 170 | 195 => 220 | 197 => 221 | 218 => 222 | 219 => 87 | 260 => 274 | 217 => 124 | 225 => 125 | 224 => 126 | 267 => 127 | 266 => 179 | 314 => 180 | n => n, fun | 9 => 9 | 31 => 49 | 3 => 3 | 4 => 4 | 0 => 0 | 105 => 319 | 21 => 21 | 5 => 5 | 46 => 191 | 119 => 418 | 139 => 421 | 138 => 420 | 146 => 242 | 51 => 241 | n => n, fun | 1 => 1 | 3 => 7 | 4 => 8 | n => n⟩
theorem Tryz.lays146 : Go.Proofs.Lays.n146 Tryz.prog Tryz.lays146_ren := {
  mixed := by kernel_rfl
  f138 := Tryz.func169.trans (congrArg some (by kernel_rfl))
  f143 := Tryz.func170.trans (congrArg some (by kernel_rfl))
  f146 := Tryz.func78.trans (congrArg some (by kernel_rfl))
  f195 := Tryz.func220.trans (congrArg some (by kernel_rfl))
  f197 := Tryz.func221.trans (congrArg some (by kernel_rfl))
  f217 := Tryz.func124.trans (congrArg some (by kernel_rfl))
  f218 := Tryz.func222.trans (congrArg some (by kernel_rfl))
  f219 := Tryz.func87.trans (congrArg some (by kernel_rfl))
  f221 := Tryz.func108.trans (congrArg some (by kernel_rfl))
  f224 := Tryz.func126.trans (congrArg some (by kernel_rfl))
  f225 := Tryz.func125.trans (congrArg some (by kernel_rfl))
  f260 := Tryz.func274.trans (congrArg some (by kernel_rfl))
  f266 := Tryz.func179.trans (congrArg some (by kernel_rfl))
  f267 := Tryz.func127.trans (congrArg some (by kernel_rfl))
  f268 := Tryz.func168.trans (congrArg some (by kernel_rfl))
  f314 := Tryz.func180.trans (congrArg some (by kernel_rfl))
  t0 := Tryz.underlying0
  a0 := Tryz.isAgg0
  z0 := Tryz.sizeOf0
  v0 := Tryz.zeroValue0
  t3 := Tryz.underlying3
  a3 := Tryz.isAgg3
  z3 := Tryz.sizeOf3
  v3 := Tryz.zeroValue3
  t4 := Tryz.underlying4
  a4 := Tryz.isAgg4
  z4 := Tryz.sizeOf4
  v4 := Tryz.zeroValue4
  t5 := Tryz.underlying5
  a5 := Tryz.isAgg5
  z5 := Tryz.sizeOf5
  v5 := Tryz.zeroValue5
  t9 := Tryz.underlying9
  a9 := Tryz.isAgg9
  z9 := Tryz.sizeOf9
  v9 := Tryz.zeroValue9
  t21 := Tryz.underlying21
  a21 := Tryz.isAgg21
  z21 := Tryz.sizeOf21
  v21 := Tryz.zeroValue21
  t31 := Tryz.underlying49
  a31 := Tryz.isAgg49
  z31 := Tryz.sizeOf49
  v31 := Tryz.zeroValue49
  t46 := Tryz.underlying191
  a46 := Tryz.isAgg191
  z46 := Tryz.sizeOf191
  v46 := Tryz.zeroValue191
  t51 := Tryz.underlying241
  a51 := Tryz.isAgg241
  z51 := Tryz.sizeOf241
  v51 := Tryz.zeroValue241
  t105 := Tryz.underlying319
  a105 := Tryz.isAgg319
  z105 := Tryz.sizeOf319
  v105 := Tryz.zeroValue319
  t119 := Tryz.underlying418
  a119 := Tryz.isAgg418
  z119 := Tryz.sizeOf418
  t138 := Tryz.underlying420
  a138 := Tryz.isAgg420
  z138 := Tryz.sizeOf420
  v138 := Tryz.zeroValue420
  t139 := Tryz.underlying421
  a139 := Tryz.isAgg421
  z139 := Tryz.sizeOf421
  v139 := Tryz.zeroValue421
  t146 := Tryz.underlying242
  a146 := Tryz.isAgg242
  z146 := Tryz.sizeOf242
  v146 := Tryz.zeroValue242
  g1 := by kernel_rfl
  g3 := by kernel_rfl
  g4 := by kernel_rfl }
open Go.RowKit Go.Lib in
/-- strings.Split. (LAID: no walk: one application.) -/
theorem Tryz.strings_Split (s sep : ByteArray) (m : Int) (w : World) (hs : s.size < 4294967281) (hm : w.cell? ⟨1, 0, none⟩ = some (.int .i64 m)) (h1 : 1 ≤ sep.size) :
    Calls Tryz.prog 78 #[.string s, .string sep] w fun e w' =>
      e = .returned (.slice (some ⟨w.heap.size, 0, none⟩) (Lib.countB s sep + 1) (Lib.countB s sep + 1)) ∧ w' = w.alloc (.cells ((Lib.splitB sep 0 (Lib.countB s sep) s).map Value.string).toArray 9) := Any.strings_Split Tryz.lays146 (by kernel_rfl) s sep m w hs hm h1
def Tryz.laysM146_ren : Go.Shelf.Ren := ⟨fun | 146 => 78 | 221 => 108 | 268 => 168 | 138 => 169 | 143 => 170 | 195 => 220 | 197 => 221 | 218 => 222 | 219 => 87 | 260 => 274 | 217 => 124 | 225 => 125 | 224 => 126 | 267 => 127 | 266 => 179 | 314 => 180 | n => n, fun | 9 => 9 | 31 => 49 | 3 => 3 | 4 => 4 | 0 => 0 | 105 => 319 | 21 => 21 | 5 => 5 | 46 => 191 | 119 => 418 | 139 => 421 | 138 => 420 | 146 => 242 | 51 => 241 | n => n, fun | 1 => 1 | 3 => 7 | 4 => 8 | n => n⟩
theorem Tryz.laysM146 : Go.Proofs.LaysM.n146 Tryz.prog Tryz.laysM146_ren := {
  mixed := by kernel_rfl
  f138 := Tryz.func169.trans (congrArg some (by kernel_rfl))
  f143 := Tryz.func170.trans (congrArg some (by kernel_rfl))
  f146 := Tryz.func78.trans (congrArg some (by kernel_rfl))
  f195 := Tryz.func220.trans (congrArg some (by kernel_rfl))
  f197 := Tryz.func221.trans (congrArg some (by kernel_rfl))
  f217 := Tryz.func124.trans (congrArg some (by kernel_rfl))
  f218 := Tryz.func222.trans (congrArg some (by kernel_rfl))
  f219 := Tryz.func87.trans (congrArg some (by kernel_rfl))
  f221 := Tryz.func108.trans (congrArg some (by kernel_rfl))
  f224 := Tryz.func126.trans (congrArg some (by kernel_rfl))
  f225 := Tryz.func125.trans (congrArg some (by kernel_rfl))
  f260 := Tryz.func274.trans (congrArg some (by kernel_rfl))
  f266 := Tryz.func179.trans (congrArg some (by kernel_rfl))
  f267 := Tryz.func127.trans (congrArg some (by kernel_rfl))
  f268 := Tryz.func168.trans (congrArg some (by kernel_rfl))
  f314 := Tryz.func180.trans (congrArg some (by kernel_rfl))
  t0 := Tryz.underlying0
  a0 := Tryz.isAgg0
  z0 := Tryz.sizeOf0
  v0 := Tryz.zeroValue0
  t3 := Tryz.underlying3
  a3 := Tryz.isAgg3
  z3 := Tryz.sizeOf3
  v3 := Tryz.zeroValue3
  t4 := Tryz.underlying4
  a4 := Tryz.isAgg4
  z4 := Tryz.sizeOf4
  v4 := Tryz.zeroValue4
  t5 := Tryz.underlying5
  a5 := Tryz.isAgg5
  z5 := Tryz.sizeOf5
  v5 := Tryz.zeroValue5
  t9 := Tryz.underlying9
  a9 := Tryz.isAgg9
  z9 := Tryz.sizeOf9
  v9 := Tryz.zeroValue9
  t21 := Tryz.underlying21
  a21 := Tryz.isAgg21
  z21 := Tryz.sizeOf21
  v21 := Tryz.zeroValue21
  t31 := Tryz.underlying49
  a31 := Tryz.isAgg49
  z31 := Tryz.sizeOf49
  v31 := Tryz.zeroValue49
  t46 := Tryz.underlying191
  a46 := Tryz.isAgg191
  z46 := Tryz.sizeOf191
  v46 := Tryz.zeroValue191
  t51 := Tryz.underlying241
  a51 := Tryz.isAgg241
  z51 := Tryz.sizeOf241
  v51 := Tryz.zeroValue241
  t105 := Tryz.underlying319
  a105 := Tryz.isAgg319
  z105 := Tryz.sizeOf319
  v105 := Tryz.zeroValue319
  t119 := Tryz.underlying418
  a119 := Tryz.isAgg418
  z119 := Tryz.sizeOf418
  t138 := Tryz.underlying420
  a138 := Tryz.isAgg420
  z138 := Tryz.sizeOf420
  v138 := Tryz.zeroValue420
  t139 := Tryz.underlying421
  a139 := Tryz.isAgg421
  z139 := Tryz.sizeOf421
  v139 := Tryz.zeroValue421
  t146 := Tryz.underlying242
  a146 := Tryz.isAgg242
  z146 := Tryz.sizeOf242
  v146 := Tryz.zeroValue242
  g1 := by kernel_rfl
  g3 := by kernel_rfl
  g4 := by kernel_rfl
  i0 := by kernel_rfl
  i3 := by kernel_rfl
  i4 := by kernel_rfl
  i5 := by kernel_rfl
  i9 := by kernel_rfl
  i21 := by kernel_rfl
  i31 := by kernel_rfl
  i46 := by kernel_rfl
  i51 := by kernel_rfl
  i105 := by kernel_rfl
  i138 := by kernel_rfl
  i139 := by kernel_rfl
  i146 := by kernel_rfl
  m1 := by kernel_rfl
  s1_3 := fun w h => Go.Proofs.cell_of_shapedOpen_int (zero := #[.int .i64 0]) (t := 3) h (of_decide_eq_true (by kernel_rfl)) (by kernel_rfl) rfl (by kernel_rfl) (by kernel_rfl) Tryz.underlying3
  m3 := by kernel_rfl
  m4 := by kernel_rfl }
end Go.Proofs

/- A call that gives back what it was handed (a copy). -/
namespace Go.Abs
/-- Data are laid as they are. -/
def layC : List D → Heap → (List Value → Heap → Prop) → Prop
  | [], H, k => k [] H
  | .nil :: r, H, k => layC r H fun vs H' => k (.slice none 0 0 :: vs) H'
  | .sl n es cs :: r, H, k => layC r (H.new (.sym cs true es)) fun vs H' => k (.slice (some ⟨H.next, 0, none⟩) n n :: vs) H'
  | .val v :: r, H, k => match v with
    | .agg _ => False
    | v => layC r H fun vs H' => k (v :: vs) H'
  | .agg _ :: _, _, _ => False
def layV : List D → Heap → (List Value → Heap → Prop) → Prop
  | [], H, k => k [] H
  | .agg ds :: r, H, k => layC ds H fun vs H1 => layV r H1 fun us H2 => k (.agg vs.toArray :: us) H2
  | d :: r, H, k => layC [d] H fun vs H1 => match vs with
    | [v] => layV r H1 fun us H2 => k (v :: us) H2
    | _ => False
/-- A call whose result is known by the shape of what it was handed. -/
def wpFix (C : FuncId → List D → List D → Prop) (g : FuncId) (fix : List D → Option (List D)) (args : Array Value) (H : Heap) (k : Value → Heap → Prop) : Prop :=
  readVals H args.toList fun ds => match fix ds with
    | some rs => Says C g ds rs ∧ layV rs H fun vs H' => k (tupleOf vs) H'
    | none => False
end Go.Abs

/- A call that gives back what it was handed: it holds. -/
namespace Go.Abs
open Go.RowKit
variable {P : Program} {H : Heap}
theorem layC_out : ∀ (ds : List D) {H : Heap} {k : List Value → Heap → Prop}, layC ds H k → ∃ vs H', LaidC H ds vs H' ∧ k vs H'
  | [], H, k, h => ⟨_, _, .nil H, h⟩
  | .nil :: r, H, k, h => by
    obtain ⟨vs, H', h1, h2⟩ := layC_out r h
    exact ⟨_, _, .nilS h1, h2⟩
  | .sl n es cs :: r, H, k, h => by
    obtain ⟨vs, H', h1, h2⟩ := layC_out r h
    exact ⟨_, _, .sl n es cs h1, h2⟩
  | .val v :: r, H, k, h => by
    unfold layC at h
    split at h
    · cases h
    · rename_i hv
      obtain ⟨vs, H', h1, h2⟩ := layC_out r h
      exact ⟨_, _, .val _ (fun cs e => hv cs e) h1, h2⟩
  | .agg _ :: _, H, k, h => by cases h
theorem layV_out : ∀ (ds : List D) {H : Heap} {k : List Value → Heap → Prop}, layV ds H k → ∃ vs H', LaidV H ds vs H' ∧ k vs H'
  | [], H, k, h => ⟨_, _, .nil H, h⟩
  | d :: r, H, k, h => by
    unfold layV at h
    split at h
    · rename_i e; cases e
    · rename_i e; cases e
      obtain ⟨vs, H1, h1, h⟩ := layC_out _ h
      obtain ⟨us, H2, h2, h3⟩ := layV_out _ h
      exact ⟨_, _, .agg h1 h2, h3⟩
    · rename_i e; cases e
      obtain ⟨vs, H1, h1, h⟩ := layC_out _ h
      split at h
      · obtain ⟨us, H2, h2, h3⟩ := layV_out _ h
        exact ⟨_, _, .one h1 h2, h3⟩
      · cases h
theorem wpFix_call {C : FuncId → List D → List D → Prop} (hC : ∀ f ds rs, C f ds rs → Con P f ds rs) {f : FuncId} {fix : List D → Option (List D)} {args : Array Value} {k : Value → Heap → Prop} (hk : wpFix C f fix args H k) : CallH P f args H k := by
  intro w0 ρ w args' n g ha
  obtain ⟨ds, hr, hk⟩ := readVals_out g _ ha hk
  split at hk
  · rename_i rs _
    obtain ⟨hs, hk⟩ := hk
    obtain ⟨vs, H', hl, hk⟩ := layV_out rs hk
    refine callsIn_wide.2 ((hC f ds rs hs.out w args' g.good hr).mono ?_)
    rintro e w' ⟨⟨vs', u, rfl, hg⟩, hb⟩
    obtain ⟨ρ', g', l', e', _, _⟩ := laidV_sound hl (g.grow hb) (g.growB hb) g.below.size (fun i m hm => .inl (g.own i m hm).1) hg
    exact ⟨_, H', ρ', _, hk, rfl, tupleOf_R l', g', e'⟩
  · exact hk.elim
end Go.Abs

/- The evaluator with a table: calls whose outcome on some data is known are not entered. -/
namespace Go.Abs
open Go.RowKit
variable {P : Program} {ρ : Ren} {w0 : Start P} {w : World} {H : Heap}

/-! ### Data of values, computed -/
def readCO (H : Heap) : List Value → Option (List D)
  | [] => some []
  | v :: r =>
    match v with
    | .slice none 0 0 => (readCO H r).map (.nil :: ·)
    | .slice (some ⟨i, o, none⟩) len _ =>
      match H.get i with
      | some (.sym cs _ es) => if o + len * es ≤ cs.length then (readCO H r).map (.sl len es ((cs.drop o).take (len * es)) :: ·) else none
      | some (.cells cs _ _ es) => if o + len * es ≤ cs.length then (if ((cs.drop o).take (len * es)).all cellP then (readCO H r).map (.sl len es ((cs.drop o).take (len * es)) :: ·) else none) else none
      | _ => none
    | v => if plain 8 v then (readCO H r).map (.val v :: ·) else none
def readVO (H : Heap) : List Value → Option (List D)
  | [] => some []
  | .agg cs :: r => (readCO H cs.toList).bind fun ds => (readVO H r).map (.agg ds :: ·)
  | v :: r => (readCO H [v]).bind fun ds => (readVO H r).map (ds ++ ·)
theorem readCO_ok : ∀ {l : List Value} {ds : List D}, readCO H l = some ds → ∀ k : List D → Prop, k ds → readCells H l k
  | [], ds, h, k, hk => by
    simp only [readCO, Option.some.injEq] at h; subst h; exact hk
  | v :: r, ds, h, k, hk => by
    unfold readCO at h
    unfold readCells
    split at h
    · obtain ⟨x, hx, rfl⟩ := Option.map_eq_some_iff.1 h
      exact readCO_ok hx _ hk
    · simp only
      split at h
      · rename_i hg
        simp only [hg]
        split at h
        · rename_i hle
          obtain ⟨x, hx, rfl⟩ := Option.map_eq_some_iff.1 h
          exact bcase_intro (fun _ => readCO_ok hx _ hk) (fun hf => absurd hle (of_decide_eq_false hf))
        · cases h
      · rename_i hg
        simp only [hg]
        split at h
        · rename_i hle
          split at h
          · rename_i hall
            obtain ⟨x, hx, rfl⟩ := Option.map_eq_some_iff.1 h
            exact bcase_intro (fun _ => bcase_intro (fun _ => readCO_ok hx _ hk) (fun hf => by rw [hall] at hf; cases hf)) (fun hf => absurd hle (of_decide_eq_false hf))
          · cases h
        · cases h
      · cases h
    · rename_i h1 h2
      split
      · exact absurd rfl h1
      · exact absurd rfl (h2 _ _ _ _)
      · split at h
        · rename_i hp
          obtain ⟨x, hx, rfl⟩ := Option.map_eq_some_iff.1 h
          rw [if_pos hp]
          exact readCO_ok hx _ hk
        · cases h
theorem readVO_ok : ∀ {l : List Value} {ds : List D}, readVO H l = some ds → ∀ k : List D → Prop, k ds → readVals H l k
  | [], ds, h, k, hk => by
    simp only [readVO, Option.some.injEq] at h; subst h; exact hk
  | v :: r, ds, h, k, hk => by
    unfold readVO at h
    unfold readVals
    split at h
    · rename_i e; cases e
    · rename_i e; cases e
      obtain ⟨x, hx, h⟩ := Option.bind_eq_some_iff.1 h
      obtain ⟨y, hy, rfl⟩ := Option.map_eq_some_iff.1 h
      exact readCO_ok hx _ (readVO_ok hy _ hk)
    · rename_i h1 e; cases e
      obtain ⟨x, hx, h⟩ := Option.bind_eq_some_iff.1 h
      obtain ⟨y, hy, rfl⟩ := Option.map_eq_some_iff.1 h
      split
      · rename_i e; cases e
      · rename_i e; cases e; exact absurd rfl (h1 _)
      · rename_i e; cases e
        exact readCO_ok hx _ (readVO_ok hy _ hk)

/-! ### Data laid, computed -/
def layCO : List D → Heap → Option (List Value × Heap)
  | [], H => some ([], H)
  | .nil :: r, H => (layCO r H).map fun x => (.slice none 0 0 :: x.1, x.2)
  | .sl n es cs :: r, H => (layCO r (H.new (.sym cs true es))).map fun x => (.slice (some ⟨H.next, 0, none⟩) n n :: x.1, x.2)
  | .val v :: r, H => match v with
    | .agg _ => none
    | v => (layCO r H).map fun x => (v :: x.1, x.2)
  | .agg _ :: _, _ => none
def layVO : List D → Heap → Option (List Value × Heap)
  | [], H => some ([], H)
  | .agg ds :: r, H => (layCO ds H).bind fun x => (layVO r x.2).map fun y => (.agg x.1.toArray :: y.1, y.2)
  | d :: r, H => (layCO [d] H).bind fun x => match x.1 with
    | [v] => (layVO r x.2).map fun y => (v :: y.1, y.2)
    | _ => none
theorem layCO_ok : ∀ {ds : List D} {H : Heap} {x : List Value × Heap}, layCO ds H = some x → ∀ k : List Value → Heap → Prop, k x.1 x.2 → layC ds H k
  | [], H, x, h, k, hk => by
    simp only [layCO, Option.some.injEq] at h; subst h; exact hk
  | .nil :: r, H, x, h, k, hk => by
    obtain ⟨y, hy, rfl⟩ := Option.map_eq_some_iff.1 h
    exact layCO_ok hy _ hk
  | .sl n es cs :: r, H, x, h, k, hk => by
    obtain ⟨y, hy, rfl⟩ := Option.map_eq_some_iff.1 h
    exact layCO_ok hy _ hk
  | .val v :: r, H, x, h, k, hk => by
    unfold layCO at h
    unfold layC
    split at h
    · cases h
    · rename_i hv
      obtain ⟨y, hy, rfl⟩ := Option.map_eq_some_iff.1 h
      first
        | exact layCO_ok hy _ hk
        | (split
           · exact absurd rfl (hv _)
           · exact layCO_ok hy _ hk)
  | .agg _ :: _, H, x, h, k, hk => by cases h
theorem layVO_ok : ∀ {ds : List D} {H : Heap} {x : List Value × Heap}, layVO ds H = some x → ∀ k : List Value → Heap → Prop, k x.1 x.2 → layV ds H k
  | [], H, x, h, k, hk => by
    simp only [layVO, Option.some.injEq] at h; subst h; exact hk
  | d :: r, H, x, h, k, hk => by
    unfold layVO at h
    unfold layV
    split at h
    · rename_i e; cases e
    · rename_i e; cases e
      obtain ⟨y, hy, h⟩ := Option.bind_eq_some_iff.1 h
      obtain ⟨z, hz, rfl⟩ := Option.map_eq_some_iff.1 h
      exact layCO_ok hy _ (layVO_ok hz _ hk)
    · rename_i h1 e; cases e
      obtain ⟨y, hy, h⟩ := Option.bind_eq_some_iff.1 h
      split at h
      · rename_i he
        obtain ⟨z, hz, rfl⟩ := Option.map_eq_some_iff.1 h
        split
        · rename_i e; cases e
        · rename_i e; cases e; exact absurd rfl (h1 _)
        · rename_i e; cases e
          refine layCO_ok hy _ ?_
          simp only [he]
          exact layVO_ok hz _ hk
      · cases h

/-! ### Data given, computed -/
def giveCO (H : Heap) : List Nat → List Value → Option (List Nat × List D)
  | used, [] => some (used, [])
  | used, v :: r =>
    match v with
    | .slice none 0 0 => (giveCO H used r).map fun x => (x.1, .nil :: x.2)
    | .slice (some ⟨i, 0, none⟩) len cap =>
      if gbase ≤ i ∧ used.contains i = false then
        match H.get i with
        | some (.sym cs true es) => if len = cap ∧ cs.length = len * es then (giveCO H (i :: used) r).map fun x => (x.1, .sl len es cs :: x.2) else none
        | some (.cells cs _ _ es) => if len = cap ∧ cs.length = len * es then (if cs.all cellP then (giveCO H (i :: used) r).map fun x => (x.1, .sl len es cs :: x.2) else none) else none
        | _ => none
      else none
    | v => if plain 8 v then (giveCO H used r).map fun x => (x.1, .val v :: x.2) else none
def giveVO (H : Heap) : List Nat → List Value → Option (List D)
  | _, [] => some []
  | used, .agg cs :: r => (giveCO H used cs.toList).bind fun x => (giveVO H x.1 r).map (.agg x.2 :: ·)
  | used, v :: r => (giveCO H used [v]).bind fun x => (giveVO H x.1 r).map (x.2 ++ ·)
def giveO (v : Value) (H : Heap) : Option (List D) :=
  match v with
  | .tuple vs => if vs.size = 1 then none else giveVO H [] vs.toList
  | v => giveVO H [] [v]
theorem giveCO_ok : ∀ {l : List Value} {used : List Nat} {x : List Nat × List D}, giveCO H used l = some x → ∀ k : List Nat → List D → Prop, k x.1 x.2 → giveCells H used l k
  | [], used, x, h, k, hk => by
    simp only [giveCO, Option.some.injEq] at h; subst h; exact hk
  | v :: r, used, x, h, k, hk => by
    unfold giveCO at h
    unfold giveCells
    split at h
    · obtain ⟨y, hy, rfl⟩ := Option.map_eq_some_iff.1 h
      exact giveCO_ok hy _ hk
    · simp only
      split at h
      · rename_i hc
        rw [if_pos hc]
        split at h
        · rename_i hg
          simp only [hg]
          split at h
          · rename_i hl
            obtain ⟨y, hy, rfl⟩ := Option.map_eq_some_iff.1 h
            exact ⟨hl, giveCO_ok hy _ hk⟩
          · cases h
        · rename_i hg
          simp only [hg]
          split at h
          · rename_i hl
            split at h
            · rename_i hall
              obtain ⟨y, hy, rfl⟩ := Option.map_eq_some_iff.1 h
              exact ⟨hl, bcase_intro (fun _ => giveCO_ok hy _ hk) (fun hf => by rw [hall] at hf; cases hf)⟩
            · cases h
          · cases h
        · cases h
      · cases h
    · rename_i h1 h2
      split
      · exact absurd rfl h1
      · exact absurd rfl (h2 _ _ _)
      · split at h
        · rename_i hp
          obtain ⟨y, hy, rfl⟩ := Option.map_eq_some_iff.1 h
          rw [if_pos hp]
          exact giveCO_ok hy _ hk
        · cases h
theorem giveVO_ok : ∀ {l : List Value} {used : List Nat} {ds : List D}, giveVO H used l = some ds → ∀ k : List D → Prop, k ds → giveVals H used l k
  | [], used, ds, h, k, hk => by
    simp only [giveVO, Option.some.injEq] at h; subst h; exact hk
  | v :: r, used, ds, h, k, hk => by
    unfold giveVO at h
    unfold giveVals
    split at h
    · rename_i e; cases e
    · rename_i e; cases e
      obtain ⟨x, hx, h⟩ := Option.bind_eq_some_iff.1 h
      obtain ⟨y, hy, rfl⟩ := Option.map_eq_some_iff.1 h
      exact giveCO_ok hx _ (giveVO_ok hy _ hk)
    · rename_i h1 e; cases e
      obtain ⟨x, hx, h⟩ := Option.bind_eq_some_iff.1 h
      obtain ⟨y, hy, rfl⟩ := Option.map_eq_some_iff.1 h
      split
      · rename_i e; cases e
      · rename_i e; cases e; exact absurd rfl (h1 _)
      · rename_i e; cases e
        exact giveCO_ok hx _ (giveVO_ok hy _ hk)
theorem giveO_ok {v : Value} {ds : List D} (h : giveO v H = some ds) : dataK (· = ds) v H := by
  unfold giveO at h
  unfold dataK
  split at h
  · split at h
    · cases h
    · rename_i hs
      simp only [if_neg hs]
      exact giveVO_ok h _ rfl
  · rename_i hn
    split
    · exact absurd rfl (hn _)
    · exact giveVO_ok h _ rfl

/-! ### Data compared -/
def cEq : Value → Value → Bool
  | .int j a, .int k b => j == k && a == b
  | .bool a, .bool b => a == b
  | .string a, .string b => a.data.toList == b.data.toList
  | _, _ => false
def csEq : List Value → List Value → Bool
  | [], [] => true
  | a :: xs, b :: bs => cEq a b && csEq xs bs
  | _, _ => false
def d1Eq : D → D → Bool
  | .nil, .nil => true
  | .val a, .val b => cEq a b
  | .sl n es cs, .sl m fs bs => n == m && es == fs && csEq cs bs
  | _, _ => false
def d2Eq : List D → List D → Bool
  | [], [] => true
  | a :: xs, b :: bs => d1Eq a b && d2Eq xs bs
  | _, _ => false
def dEq : D → D → Bool
  | .agg a, .agg b => d2Eq a b
  | a, b => d1Eq a b
def dsEq : List D → List D → Bool
  | [], [] => true
  | a :: xs, b :: bs => dEq a b && dsEq xs bs
  | _, _ => false
theorem cEq_ok : ∀ {a b : Value}, cEq a b = true → a = b := by
  intro a b h
  unfold cEq at h
  split at h
  · simp only [Bool.and_eq_true, beq_iff_eq] at h; rw [h.1, h.2]
  · rw [eq_of_beq h]
  · rename_i x y
    have e := eq_of_beq h
    obtain ⟨x⟩ := x
    obtain ⟨y⟩ := y
    have : x = y := Array.ext' e
    rw [this]
  · cases h
theorem csEq_ok : ∀ {a b : List Value}, csEq a b = true → a = b
  | [], [], _ => rfl
  | a :: xs, b :: bs, h => by
    simp only [csEq, Bool.and_eq_true] at h
    rw [cEq_ok h.1, csEq_ok h.2]
  | [], _ :: _, h => by cases h
  | _ :: _, [], h => by cases h
theorem d1Eq_ok {a b : D} (h : d1Eq a b = true) : a = b := by
  unfold d1Eq at h
  split at h
  · rfl
  · rw [cEq_ok h]
  · simp only [Bool.and_eq_true, beq_iff_eq] at h
    rw [h.1.1, h.1.2, csEq_ok h.2]
  · cases h
theorem d2Eq_ok : ∀ {a b : List D}, d2Eq a b = true → a = b
  | [], [], _ => rfl
  | a :: xs, b :: bs, h => by
    simp only [d2Eq, Bool.and_eq_true] at h
    rw [d1Eq_ok h.1, d2Eq_ok h.2]
  | [], _ :: _, h => by cases h
  | _ :: _, [], h => by cases h
theorem dEq_ok {a b : D} (h : dEq a b = true) : a = b := by
  unfold dEq at h
  split at h
  · rw [d2Eq_ok h]
  · exact d1Eq_ok h
theorem dsEq_ok : ∀ {a b : List D}, dsEq a b = true → a = b
  | [], [], _ => rfl
  | a :: xs, b :: bs, h => by
    simp only [dsEq, Bool.and_eq_true] at h
    rw [dEq_ok h.1, dsEq_ok h.2]
  | [], _ :: _, h => by cases h
  | _ :: _, [], h => by cases h

/-! ### The evaluator with a table -/
abbrev Tab := FuncId → Option (List D → Option (List D))
/-- (a list of what is known) -/
def tabLook : List (List D × List D) → List D → Option (List D)
  | [], _ => none
  | p :: r, ds => if dsEq p.1 ds then some p.2 else tabLook r ds
theorem tabLook_ok : ∀ {t : List (List D × List D)} {ds rs : List D}, tabLook t ds = some rs → (ds, rs) ∈ t
  | [], _, _, h => by cases h
  | p :: r, ds, rs, h => by
    unfold tabLook at h
    split at h
    · rename_i he
      simp only [Option.some.injEq] at h
      rw [← dsEq_ok he, ← h]
      exact List.mem_cons_self ..
    · exact List.mem_cons_of_mem _ (tabLook_ok h)
def tabCall (t : List D → Option (List D)) (args : Array Value) (H : Heap) : Option (Value × Heap) :=
  (readVO H args.toList).bind fun ds => (t ds).bind fun rs => (layVO rs H).map fun x => (tupleOf x.1, x.2)
def evalT (P : Program) (tab : Tab) : Nat → Self
  | 0 => ⟨fun _ _ _ => none, fun _ _ _ _ => none⟩
  | n + 1 => ⟨fun f args H => match tab f with | none => callBody P (evalT P tab n) f args H | some t => tabCall t args H, fun round c A H => codeA P (evalT P tab n) round c A H⟩
def TabOK (P : Program) (tab : Tab) : Prop := ∀ f t, tab f = some t → ∀ ds rs, t ds = some rs → Con P f ds rs
theorem tabCall_sound {f : FuncId} {t : List D → Option (List D)} (ht : ∀ ds rs, t ds = some rs → Con P f ds rs) {args : Array Value} {v : Value} {H' : Heap} (h : tabCall t args H = some (v, H')) : CallH P f args H (fun u K => u = v ∧ K = H') := by
  obtain ⟨ds, h1, h⟩ := Option.bind_eq_some_iff.1 h
  obtain ⟨rs, h2, h⟩ := Option.bind_eq_some_iff.1 h
  obtain ⟨x, h3, h⟩ := Option.map_eq_some_iff.1 h
  simp only [Prod.mk.injEq] at h
  obtain ⟨rfl, rfl⟩ := h
  refine wpFix_call (C := fun g ds rs => g = f ∧ t ds = some rs ∨ Con P g ds rs) (fun g ds rs hc => ?_) (fix := t) ?_
  · rcases hc with ⟨rfl, hm⟩ | hc
    · exact ht _ _ hm
    · exact hc
  · unfold wpFix
    refine readVO_ok h1 _ ?_
    simp only [h2]
    exact ⟨⟨.inl ⟨rfl, h2⟩⟩, layVO_ok h3 _ ⟨rfl, rfl⟩⟩
theorem evalT_sound {tab : Tab} (htab : TabOK P tab) (hmix : P.follows .mixedOrders = true) : ∀ n, SelfS P w0 (evalT P tab n)
  | 0 => ⟨fun n _ _ h => by simp [evalT] at h, fun n _ _ _ h => by simp [evalT] at h, fun n _ _ _ h => by simp [evalT] at h⟩
  | k + 1 => ⟨fun {ρ H w f args args' v H'} n g ha h => by
      simp only [evalT] at h
      split at h
      · exact callBody_sound (evalT_sound htab hmix k) g n ha h
      · rename_i t ht
        refine (tabCall_sound (htab f t ht) h w0 ρ w args' n g ha).mono ?_
        rintro e w' ⟨u, K, ρ', v', ⟨rfl, rfl⟩, h1, h2, h3, h4⟩
        exact ⟨ρ', v', h1, h2, h3, h4⟩, fun n g rr ra h => codeA_sound (evalT_sound htab hmix k) hmix n _ g rr ra h,
      fun n g rr ra h => loopIn_once (loop_body (evalT_sound htab hmix k) n _ (fun g rr ra h => codeA_sound (evalT_sound htab hmix k) hmix n _ g rr ra h) g rr ra h)⟩
/-- A call of known data is run. -/
def runOK (P : Program) (tab : Tab) (n : Nat) (f : FuncId) (ds rs : List D) (caps : Nat → Nat) : Bool :=
  match (evalT P tab n).call f (layVals caps 500 ds).1.toArray (heapOf (layVals caps 500 ds).2) with
  | some (v, H) => (match giveO v H with | some rs' => dsEq rs' rs | none => false)
  | none => false
theorem con_run {tab : Tab} (htab : TabOK P tab) (hmix : P.follows .mixedOrders = true) {n : Nat} {f : FuncId} {ds rs : List D} (hcount : countV ds ≤ 400) (h : ∀ caps, runOK P tab n f ds rs caps = true) : Con P f ds rs := by
  intro w args hgood hr
  obtain ⟨caps, ρ, hst, g, ha⟩ := lay_gam hgood hr hcount
  have h := h caps
  unfold runOK at h
  split at h
  · rename_i v H hc
    split at h
    · rename_i rs' hg
      have e := dsEq_ok h
      subst e
      refine callsIn_wide.1 (((evalT_sound htab hmix n).call 0 g (by simpa using ha) hc).mono ?_)
      rintro e w' ⟨ρ', v', rfl, hv, g', ext'⟩
      obtain ⟨vs, ds', u, rfl, h1, rfl⟩ := dataK_out g' hst hv (giveO_ok hg)
      exact ⟨⟨vs, u, rfl, h1⟩, g'.below.below hst⟩
    · cases h
  · cases h
end Go.Abs

/- Pairs of whole numbers as cells. -/
namespace Go.Abs
/-- pairs of whole numbers as cells -/
def vp : List (Int × Int) → List Value
  | [] => []
  | p :: r => .int .i64 p.1 :: .int .i64 p.2 :: vp r
@[simp] theorem vp_length : ∀ l : List (Int × Int), (vp l).length = l.length * 2
  | [] => rfl
  | p :: r => by simp only [vp, List.length_cons, vp_length r]; omega
abbrev dI (n : Int) : D := .val (.int .i64 n)
end Go.Abs

/- What a good world's variables hold, as the library's contracts ask it. -/
namespace Go.Abs
variable {P : Program} {w : World}
theorem mem_vars {name : String} {k : VarKind} {g : Nat} (hm : (name, k) ∈ wantedVars) (hg : P.globalNamed name = some g) : (g, k) ∈ varsOf P :=
  List.mem_filterMap.2 ⟨(name, k), hm, by simp [hg]⟩
theorem good_int (h : GoodW P w) {name : String} {g : Nat} (hm : (name, VarKind.int) ∈ wantedVars) (hg : P.globalNamed name = some g) : ∃ n, w.cell? ⟨g, 0, none⟩ = some (.int .i64 n) := by
  obtain ⟨c, ty, fz, n, e, hc⟩ := h _ (mem_vars hm hg)
  simp only at e
  exact ⟨n, by simp [World.cell?, e, hc]⟩
end Go.Abs

/- Strings as lists of bytes: pieces between separators, decimal numbers. -/
namespace Go.Str

/-- The string of a list of bytes. -/
abbrev bs (l : List UInt8) : ByteArray := ⟨l.toArray⟩
theorem bs_data (s : ByteArray) : bs s.data.toList = s := by cases s; simp [bs]
theorem data_bs (l : List UInt8) : (bs l).data.toList = l := by simp
theorem bs_size (l : List UInt8) : (bs l).size = l.length := by simp [ByteArray.size]
/-! ### Pieces between separators -/
/-! ### Numbers -/
def isDig (b : UInt8) : Bool := decide (48 ≤ b.toNat) && decide (b.toNat ≤ 57)
/-- the number of some digits, behind others -/
def numF (n : Int) (l : List UInt8) : Int := l.foldl (fun n b => 10 * n + ((b.toNat : Int) - 48)) n
theorem numF_nil (n : Int) : numF n [] = n := rfl
theorem numF_cons (n : Int) (b : UInt8) (l : List UInt8) : numF n (b :: l) = numF (10 * n + ((b.toNat : Int) - 48)) l := rfl
theorem numF_append (n : Int) (a b : List UInt8) : numF n (a ++ b) = numF (numF n a) b := by simp [numF, List.foldl_append]
/-- so many digits at the most, no zero ahead of others -/
def okNum (d : Nat) (l : List UInt8) : Bool := decide (1 ≤ l.length) && decide (l.length ≤ d) && !(decide (1 < l.length) && l.head? == some 48) && l.all isDig
theorem numF_ge : ∀ (l : List UInt8) (n : Int), 0 ≤ n → l.all isDig = true → 0 ≤ numF n l ∧ numF n l < (n + 1) * 10 ^ l.length
  | [], n, h, _ => by simp [numF]; omega
  | b :: r, n, h, hd => by
    simp only [List.all_cons, Bool.and_eq_true, isDig, decide_eq_true_eq] at hd
    have := numF_ge r (10 * n + ((b.toNat : Int) - 48)) (by omega) hd.2
    rw [numF_cons]
    refine ⟨this.1, Int.lt_of_lt_of_le this.2 ?_⟩
    rw [List.length_cons, Int.pow_succ]
    have hp : (0 : Int) < 10 ^ r.length := Int.pow_pos (by decide)
    have : (10 * n + ((b.toNat : Int) - 48) + 1) * 10 ^ r.length ≤ (10 * (n + 1)) * 10 ^ r.length := Int.mul_le_mul_of_nonneg_right (by omega) (Int.le_of_lt hp)
    calc _ ≤ _ := this
      _ = _ := by rw [Int.mul_comm 10 (n + 1), Int.mul_assoc, Int.mul_comm 10]
end Go.Str

/- Decimal numerals against the numbers that they spell. -/
namespace Go.Str
abbrev dec (u : Nat) : List UInt8 := Lib.decDigits u
theorem dec_small {u : Nat} (h : u < 10) : dec u = [UInt8.ofNat (48 + u)] := by unfold dec; rw [Lib.decDigits, dif_pos h]
theorem dec_big {u : Nat} (h : ¬ u < 10) : dec u = dec (u / 10) ++ [UInt8.ofNat (48 + u % 10)] := by unfold dec; rw [Lib.decDigits, dif_neg h]
theorem dig_toNat {k : Nat} (h : k < 10) : (UInt8.ofNat (48 + k)).toNat = 48 + k := by
  rw [UInt8.toNat_ofNat']; omega
theorem okNum_inv {d : Nat} {l : List UInt8} (h : okNum d l = true) : 1 ≤ l.length ∧ l.length ≤ d ∧ (1 < l.length → l.head? ≠ some 48) ∧ l.all isDig = true := by
  unfold okNum at h
  simp only [Bool.and_eq_true, decide_eq_true_eq, Bool.not_eq_true', Bool.and_eq_false_iff, decide_eq_false_iff_not, beq_eq_false_iff_ne, ne_eq] at h
  obtain ⟨⟨⟨h1, h2⟩, h3⟩, h4⟩ := h
  exact ⟨h1, h2, fun hl => by rcases h3 with h3 | h3; omega; exact h3, h4⟩
theorem isDig_ofNat {b : UInt8} (h : isDig b = true) {k : Nat} (hk : (k : Int) = (b.toNat : Int) - 48) : UInt8.ofNat (48 + k) = b := by
  simp only [isDig, Bool.and_eq_true, decide_eq_true_eq] at h
  rw [← UInt8.toNat_inj, dig_toNat (by omega)]; omega
/-- a numeral is the numeral of its number -/
theorem dec_numF : ∀ (n : Nat) (l : List UInt8), l.length ≤ n → 1 ≤ l.length → (1 < l.length → l.head? ≠ some 48) → l.all isDig = true → dec (numF 0 l).toNat = l ∧ (l.head? ≠ some 48 → 1 ≤ numF 0 l) ∧ 0 ≤ numF 0 l := by
  intro n
  induction n with
  | zero => intro l h1 h2; omega
  | succ n ih =>
    intro l h1 h2 h3 h4
    rcases List.eq_nil_or_concat l with rfl | ⟨a, b, rfl⟩
    · simp at h2
    · simp only [List.concat_eq_append] at h1 h2 h3 h4 ⊢
      rw [List.all_append, Bool.and_eq_true] at h4
      obtain ⟨h4, h5⟩ := h4
      have h5 : isDig b = true := by simpa using h5
      have hb := h5
      simp only [isDig, Bool.and_eq_true, decide_eq_true_eq] at hb
      rw [numF_append, numF_cons, numF_nil]
      cases a with
      | nil =>
        rw [numF_nil]
        simp only [List.nil_append]
        refine ⟨?_, ?_, by omega⟩
        · rw [dec_small (by omega), isDig_ofNat h5 (by omega)]
        · intro hne
          have : b.toNat ≠ 48 := fun e => hne (by
            have : b = 48 := by rw [← UInt8.toNat_inj, e]; rfl
            rw [this]; rfl)
          omega
      | cons c r =>
        have hh : (c :: r).head? ≠ some 48 := by
          have := h3 (by simp)
          simpa using this
        obtain ⟨e1, e2, e3⟩ := ih (c :: r) (by simp at h1 ⊢; omega) (by simp) (fun _ => hh) h4
        have e2 := e2 hh
        generalize hz : numF 0 (c :: r) = z at *
        refine ⟨?_, fun _ => by omega, by omega⟩
        rw [dec_big (by omega)]
        have k1 : (10 * z + ((b.toNat : Int) - 48)).toNat / 10 = z.toNat := by omega
        have k2 : (((10 * z + ((b.toNat : Int) - 48)).toNat % 10 : Nat) : Int) = (b.toNat : Int) - 48 := by omega
        rw [k1, e1, isDig_ofNat h5 k2]
theorem dec_okNum {d : Nat} {l : List UInt8} (h : okNum d l = true) : dec (numF 0 l).toNat = l := by
  obtain ⟨h1, _, h3, h4⟩ := okNum_inv h
  exact (dec_numF _ l (Nat.le_refl _) h1 h3 h4).1
theorem numF_pos {d : Nat} {l : List UInt8} (h : okNum d l = true) : 0 ≤ numF 0 l ∧ numF 0 l < 10 ^ d := by
  obtain ⟨_, h2, _, h4⟩ := okNum_inv h
  have := numF_ge l 0 (by decide) h4
  refine ⟨this.1, Int.lt_of_lt_of_le this.2 ?_⟩
  rw [Int.zero_add, Int.one_mul]
  exact_mod_cast Nat.pow_le_pow_right (by decide) h2
/-! ### strconv.Itoa, strconv.Atoi -/
theorem itoa_nn {n : Int} (h : 0 ≤ n) : Lib.itoa n = dec n.toNat := by unfold Lib.itoa; rw [if_neg (by omega)]
theorem decFrom_numF : ∀ (l : List UInt8) (acc : Nat), l.all isDig = true → ∃ m : Nat, Lib.decFrom acc l = some m ∧ numF acc l = m
  | [], acc, _ => ⟨acc, rfl, rfl⟩
  | b :: r, acc, h => by
    simp only [List.all_cons, Bool.and_eq_true] at h
    have hb := h.1
    simp only [isDig, Bool.and_eq_true, decide_eq_true_eq] at hb
    obtain ⟨m, h1, h2⟩ := decFrom_numF r (acc * 10 + (b.toNat - 48)) h.2
    refine ⟨m, ?_, ?_⟩
    · simp only [Lib.decFrom, Lib.digitVal, hb, and_self, if_true]; exact h1
    · rw [numF_cons, ← h2]; congr 1; omega
theorem not_sign {b : UInt8} (h : isDig b = true) : (b == 45) = false ∧ (b == 43) = false := by
  simp only [isDig, Bool.and_eq_true, decide_eq_true_eq] at h
  constructor <;> rw [beq_eq_false_iff_ne] <;> rintro rfl
  · have : (45 : UInt8).toNat = 45 := rfl
    omega
  · have : (43 : UInt8).toNat = 43 := rfl
    omega
theorem atoi_ok {d : Nat} {l : List UInt8} (h : okNum d l = true) : Lib.atoi l = some (numF 0 l) ∧ Lib.itoa (numF 0 l) = l := by
  have hd := dec_okNum h
  have hp := (numF_pos h).1
  obtain ⟨h1, _, _, h4⟩ := okNum_inv h
  refine ⟨?_, by rw [itoa_nn hp, hd]⟩
  cases l with
  | nil => simp at h1
  | cons b r =>
    have hb : isDig b = true := by simp only [List.all_cons, Bool.and_eq_true] at h4; exact h4.1
    obtain ⟨m, e1, e2⟩ := decFrom_numF (b :: r) 0 h4
    simp only [Lib.atoi, (not_sign hb).1, (not_sign hb).2, Bool.false_eq_true, if_false, Lib.decNat, List.isEmpty_cons, e1, Option.map_some]
    congr 1
    rw [← e2]; rfl
/-- two numbers with a sign between them -/
def two (c : UInt8) (d : Nat) (w : List UInt8) : Option (Int × Int) :=
  if okNum d (Lib.cut w [c]).1 && okNum d (Lib.cut w [c]).2.1 then some (numF 0 (Lib.cut w [c]).1, numF 0 (Lib.cut w [c]).2.1) else none
end Go.Str

/- Strings and lists of strings as cells. -/
namespace Go.Abs
open Go.Str
abbrev str (l : List UInt8) : Value := .string (bs l)
abbrev dS (l : List UInt8) : D := .val (str l)
end Go.Abs

/- Words that are read by a reader; pairs of numbers that may be below naught. -/
namespace Go.Str
variable {α : Type}
/-! ### readings by strconv.Atoi -/
end Go.Str

/- Chapter 10: what the library's functions on strings give, for runs. -/
namespace Go.Proofs.G5n
open Go Go.Abs Go.Proofs Go.RowKit Go.Str Go.Sort
set_option maxRecDepth 100000
theorem mixed : Tryz.prog.follows .mixedOrders = true := by kernel_rfl
abbrev C5 : FuncId → List D → List D → Prop := Con Tryz.prog
theorem vMax : Tryz.prog.globalNamed "internal/bytealg.MaxLen" = some 1 := by kernel_rfl
theorem hMax {w : World} (h : GoodW Tryz.prog w) : ∃ n, w.cell? ⟨1, 0, none⟩ = some (.int .i64 n) := good_int h (by simp [wantedVars]) vMax
theorem reads1 {w : World} {v : Value} {args : Array Value} (h : ReadsL w [.val v] args.toList) : args = #[v] := by
  obtain ⟨l⟩ := args
  replace h : ReadsL w [.val v] l := h
  cases h with | cons h1 t => cases t; cases h1; rfl
theorem reads2 {w : World} {u v : Value} {args : Array Value} (h : ReadsL w [.val u, .val v] args.toList) : args = #[u, v] := by
  obtain ⟨l⟩ := args
  replace h : ReadsL w [.val u, .val v] l := h
  cases h with | cons h1 t => cases t with | cons h2 t => cases t; cases h1; cases h2; rfl
/-- strings.Split, whatever the parts are -/
theorem conSpG (s sep : ByteArray) (hl : s.size < 4294967281) (h1 : 1 ≤ sep.size) : C5 78 [.val (.string s), .val (.string sep)] [.sl (Lib.countB s sep + 1) 1 ((Lib.splitB sep 0 (Lib.countB s sep) s).map Value.string)] := by
  intro w args hg hr
  rw [reads2 hr]
  obtain ⟨m, hm⟩ := hMax hg
  refine (Tryz.strings_Split s sep m w hl hm h1).mono ?_
  rintro e w' ⟨rfl, rfl⟩
  have hlen : (Lib.splitB sep 0 (Lib.countB s sep) s).length = Lib.countB s sep + 1 := Lib.splitB_all sep h1 0 _ s rfl
  refine ⟨⟨[.slice _ _ _], [w.heap.size], rfl, .cons ?_ (.nil _)⟩, (Below.refl _ _).alloc (Nat.le_refl _) _⟩
  refine .sl [] _ 1 _ w.heap.size 0 _ _ _ (alloc_get _ _) (Nat.le_refl _) (by simp) (by simp [hlen]) (Nat.le_refl _) ?_ (by simp [hlen]) ?_
  · simp [hlen, List.take_of_length_le]
  · intro v hv
    obtain ⟨x, _, rfl⟩ := List.mem_map.1 hv
    rfl
theorem conAt (l : List UInt8) (h : okNum 7 l = true) : C5 117 [dS l] [dI (numF 0 l), .val .nilIface] := by
  intro w args hg hr
  rw [reads1 hr]
  obtain ⟨h1, h2, _⟩ := okNum_inv h
  refine (Tryz.strconv_Atoi (bs l) (numF 0 l) (by rw [bs_size]; omega) (by rw [data_bs]; exact (atoi_ok h).1) w).mono ?_
  rintro e w' ⟨rfl, t, rfl⟩
  exact ⟨⟨[.int .i64 _, .nilIface], [], rfl, .cons (.val _ _ rfl) (.cons (.val _ _ rfl) (.nil _))⟩, Lib.bytesWorld_below _ _ _⟩
def splT : List D → Option (List D) := fun ds => match ds with
  | [.val (.string s), .val (.string sep)] => if s.size < 4294967281 ∧ 1 ≤ sep.size then some [.sl (Lib.countB s sep + 1) 1 ((Lib.splitB sep 0 (Lib.countB s sep) s).map Value.string)] else none
  | _ => none
def atoT : List D → Option (List D) := fun ds => match ds with
  | [.val (.string s)] => if okNum 7 s.data.toList = true then some [dI (numF 0 s.data.toList), .val .nilIface] else none
  | _ => none
def tabS : Tab := fun f => if f == 78 then some splT else if f == 117 then some atoT else none
theorem tabS_ok : TabOK Tryz.prog tabS := by
  intro f t ht ds rs h
  unfold tabS at ht
  split at ht
  · rename_i e; obtain rfl := Option.some.inj ht; rw [beq_iff_eq] at e; subst e
    unfold splT at h
    split at h
    · split at h
      · rename_i hc; obtain rfl := Option.some.inj h; exact conSpG _ _ hc.1 hc.2
      · cases h
    · cases h
  · split at ht
    · rename_i e; obtain rfl := Option.some.inj ht; rw [beq_iff_eq] at e; subst e
      unfold atoT at h
      split at h
      · split at h
        · rename_i s hc; obtain rfl := Option.some.inj h
          have := conAt s.data.toList hc
          rw [dS, str, bs_data] at this
          exact this
        · cases h
      · cases h
    · cases ht
end Go.Proofs.G5n

/- Chapter 10: the characters of a text, in data (a range over a string, walked in memory). -/
namespace Go.Proofs.G5n
open Go Go.Abs Go.Proofs Go.RowKit Go.Str Go.Sort
set_option maxRecDepth 1000000
def chOK (b : UInt8) : Bool := decide (32 ≤ b.toNat) && decide (b.toNat ≤ 126)
def chC (l : List UInt8) : Int := if l.all chOK = true then 0 else 3
theorem chC_bad {l : List UInt8} {i : Nat} (hi : i < l.length) (h : chOK l[i] = false) : chC l = 3 := by
  rw [chC, if_neg]
  intro ha
  have := List.all_eq_true.1 ha _ (List.getElem_mem hi)
  rw [h] at this; cases this
theorem chC_good {l : List UInt8} (h : ∀ i (hi : i < l.length), chOK l[i] = true) : chC l = 0 := by
  rw [chC, if_pos]
  rw [List.all_eq_true]
  intro b hb
  obtain ⟨i, hi, rfl⟩ := List.getElem_of_mem hb
  exact h i hi
theorem dec_bad {s : ByteArray} {pos : Nat} (hp : pos < s.size) (h : ((Utf8.decode s pos).1 : Int) < 32 ∨ 126 < ((Utf8.decode s pos).1 : Int)) : chOK s[pos] = false := by
  unfold chOK
  by_cases ha : (s[pos]'hp).toNat < 128
  · rw [decode_ascii s pos hp ha] at h
    simp only at h
    rcases h with h | h
    · rw [decide_eq_false (show ¬ 32 ≤ (s[pos]'hp).toNat by omega), Bool.false_and]
    · rw [decide_eq_false (show ¬ (s[pos]'hp).toNat ≤ 126 by omega), Bool.and_false]
  · rw [decide_eq_false (show ¬ (s[pos]'hp).toNat ≤ 126 by omega), Bool.and_false]
theorem dec_good {s : ByteArray} {pos : Nat} (hp : pos < s.size) (h : 32 ≤ ((Utf8.decode s pos).1 : Int) ∧ ((Utf8.decode s pos).1 : Int) ≤ 126) : chOK s[pos] = true ∧ (Utf8.decode s pos).2 = 1 := by
  unfold chOK
  by_cases ha : (s[pos]'hp).toNat < 128
  · rw [decode_ascii s pos hp ha] at h ⊢
    simp only at h
    exact ⟨by rw [decide_eq_true (show 32 ≤ (s[pos]'hp).toNat by omega), decide_eq_true (show (s[pos]'hp).toNat ≤ 126 by omega)]; rfl, rfl⟩
  · have := (decode_high s pos hp (by omega)).1
    omega
theorem bad_s {s : ByteArray} {pos : Nat} (hp : pos < s.size) (h : chOK s[pos] = false) : chC s.data.toList = 3 := chC_bad (i := pos) (by simpa using hp) (by have h' : chOK s.data[pos] = false := h; simpa using h')
theorem good_s {s : ByteArray} (h : ∀ i (hi : i < s.size), chOK s[i] = true) : chC s.data.toList = 0 := chC_good fun i hi => by
  have h' : chOK (s.data[i]'(by simpa using hi)) = true := h i (by simpa using hi)
  simpa using h'
theorem walkCC (s : ByteArray) (w : World) :
    Calls Tryz.prog 68 #[.string s] w fun e w' => e = .returned (.int .i64 (chC s.data.toList)) ∧ ∃ pos, w' = w.iter s pos := by
  go_enter Tryz.func68, Tryz.ntmps68
  go_wp2
  go_loopw [] (fun w' => ∃ pos : Nat, w' = w.iter s pos ∧ pos ≤ s.size ∧ ∀ i (hi : i < s.size), i < pos → chOK s[i] = true) (fun w' => s.size - w'.iterPos w.heap.size)
  case atStart => exact ⟨0, rfl, Nat.zero_le _, fun i hi h => absurd h (Nat.not_lt_zero _)⟩
  case round =>
    obtain ⟨pos, rfl, hle, hok⟩ := hrel
    by_cases hp : pos < s.size
    · have hnx : ∀ ty, (Instr.next (.pointer (some ⟨w.heap.size, 0, none⟩)) true ty).run Tryz.prog (w.iter s pos) = _ := fun ty => run_next_any w s pos ty hp
      go_wp2
      · rename_i h
        go_ret
        exact ⟨by rw [bad_s hp (dec_bad hp h)]; rfl, _, rfl⟩
      · rename_i h
        obtain ⟨h1, h2⟩ := dec_good hp h
        rw [h2]
        refine ⟨⟨_, rfl, hp, fun i hi hlt => ?_⟩, ?_⟩
        · rcases Nat.lt_or_ge i pos with hl | hl
          · exact hok i hi hl
          · obtain rfl : i = pos := by omega
            exact h1
        · simp only [World.iterPos_iter]; omega
      · rename_i h
        go_ret
        exact ⟨by rw [bad_s hp (dec_bad hp (.inl h))]; rfl, _, rfl⟩
    · have hnx : ∀ ty, (Instr.next (.pointer (some ⟨w.heap.size, 0, none⟩)) true ty).run Tryz.prog (w.iter s pos) = _ := fun ty => run_next_end w s pos ty hp
      go_wp2
      go_ret
      exact ⟨by rw [good_s fun i hi => hok i hi (by omega)]; rfl, _, rfl⟩
theorem conCC (l : List UInt8) : C5 68 [dS l] [dI (chC l)] := by
  intro w args hg hr
  rw [reads1 hr]
  refine (walkCC (bs l) w).mono ?_
  rintro e w' ⟨rfl, pos, rfl⟩
  rw [data_bs]
  exact ⟨⟨[.int .i64 _], [], rfl, .cons (.val _ _ rfl) (.nil _)⟩, (Below.refl _ _).alloc (Nat.le_refl _) _⟩
end Go.Proofs.G5n

/- Chapter 10: the rules of the example's plant, for every tape. -/
namespace Go.Proofs.G5n
open Go Go.Abs Go.Proofs Go.Str
set_option maxRecDepth 100000
abbrev vI (a : Int) : Value := .int .i64 a
def chT : List D → Option (List D) := fun ds => match ds with
  | [.val (.string s)] => some [dI (chC s.data.toList)]
  | _ => none
def tabT : Tab := fun f => if f == 68 then some chT else tabS f
theorem tabT_ok : TabOK Tryz.prog tabT := by
  intro f t ht ds rs h
  unfold tabT at ht
  split at ht
  · rename_i e; obtain rfl := Option.some.inj ht; rw [beq_iff_eq] at e; subst e
    unfold chT at h
    split at h
    · rename_i s
      obtain rfl := Option.some.inj h
      have := conCC s.data.toList
      rw [dS, str, bs_data] at this
      exact this
    · cases h
  · exact tabS_ok f t ht ds rs h
abbrev pasS : D := .val (.string ⟨#[49, 48, 32, 49, 48, 48, 32, 54, 48, 32, 49, 48, 48, 48, 48, 32, 49, 48, 48, 48, 48, 32, 57, 48, 48, 48, 32, 50, 32, 51, 32, 55, 32, 56, 32, 59, 32, 51, 48, 48, 32, 50, 48, 48, 48, 48, 32, 52, 48, 48, 48, 48, 48, 32, 48, 32, 49, 48, 48, 32, 59, 32, 51, 48, 48, 32, 50, 48, 48, 48, 48, 32, 52, 48, 48, 48, 48, 48, 32, 48, 32, 49, 48, 48]⟩)
abbrev modS : D := .val (.string ⟨#[49, 47, 50, 32, 49, 47, 52, 32, 52, 32, 56, 48, 48, 48, 64, 50, 48, 48, 32, 57, 48, 48, 48, 64, 49, 48, 48, 32, 49, 48, 48, 48, 48, 64, 54, 48]⟩)
abbrev pasD : D := .agg [dI 10, dI 100, dI 60, dI 10000, dI 10000, dI 9000, .sl 2 5 [vI 300, vI 20000, vI 400000, vI 0, vI 100, vI 300, vI 20000, vI 400000, vI 0, vI 100], dI 2, dI 3, dI 7, dI 8]
theorem runP : ∀ caps, runOK Tryz.prog tabT 1000 55 [pasS] [pasD, dI 0] caps = true := by intro caps; kernel_rfl
abbrev modD : D := .agg [.sl 3 2 [vI 8000, vI 200, vI 9000, vI 100, vI 10000, vI 60], dI 1, dI 2, dI 1, dI 4, dI 4]
theorem runM : ∀ caps, runOK Tryz.prog tabT 1000 56 [modS] [modD, dI 0] caps = true := by intro caps; kernel_rfl
end Go.Proofs.G5n

/- Chapter 10: awake, for every tape. -/
namespace Go.Proofs.G5n
open Go Go.Abs Go.Proofs Go.Str
set_option maxRecDepth 100000
def lkP : List (List D × List D) := [([pasS], [pasD, dI 0])]
def lkM : List (List D × List D) := [([modS], [modD, dI 0])]
def tabA : Tab := fun f => if f == 55 then some (tabLook lkP) else if f == 56 then some (tabLook lkM) else tabT f
theorem tabA_ok : TabOK Tryz.prog tabA := by
  intro f t ht ds rs h
  unfold tabA at ht
  split at ht
  · rename_i e; obtain rfl := Option.some.inj ht; rw [beq_iff_eq] at e; subst e
    have hm := tabLook_ok h
    simp only [lkP, List.mem_singleton, Prod.mk.injEq] at hm
    obtain ⟨rfl, rfl⟩ := hm
    exact con_run tabT_ok mixed (by show 0 ≤ 400; omega) runP
  · split at ht
    · rename_i e; obtain rfl := Option.some.inj ht; rw [beq_iff_eq] at e; subst e
      have hm := tabLook_ok h
      simp only [lkM, List.mem_singleton, Prod.mk.injEq] at hm
      obtain ⟨rfl, rfl⟩ := hm
      exact con_run tabT_ok mixed (by show 0 ≤ 400; omega) runM
    · exact tabT_ok f t ht ds rs h
theorem runA : ∀ caps, runOK Tryz.prog tabA 1000 4 [] [.val (.bool true)] caps = true := by intro caps; kernel_rfl
theorem conA : C5 4 [] [.val (.bool true)] := con_run tabA_ok mixed (by show 0 ≤ 400; omega) runA
end Go.Proofs.G5n

/- Strings: what the frames of the laws share: arguments read as data, a world with the listed tables. -/
namespace Go.Proofs.YtmchimkjonmhaaaGreatDoor.K
open Go Go.Abs Go.RowKit Go.ChangeShapes Go.WideShapes Go.ChangeAt Go.Proofs Go.Flat Go.Proofs.G5n
set_option maxRecDepth 100000
theorem own : ownKnob Tryz.prog.godebug = none := by kernel_rfl
theorem laidP : laidOutB Tryz.prog = true := by kernel_rfl
theorem mapsP : mapsRowed Tryz.prog = true := by kernel_rfl
theorem slicesP : ∀ t e, t < Tryz.prog.types.size → Tryz.prog.underlying t = some (.slice e) → 0 < Tryz.prog.cellsOf e := slices_full_of Tryz.prog (by kernel_rfl)
theorem tsP {l : List TypeId} (h : l.all (fun t => decide (t < Tryz.prog.types.size)) = true) : ∀ t ∈ l, t < Tryz.prog.types.size := fun t ht => of_decide_eq_true (List.all_eq_true.1 h t ht)
theorem leaf_int {t : TypeId} {d : D} (ht : Tryz.prog.underlying t = some (.int .i64)) (h : LeafD Tryz.prog t d) : ∃ n : Int, d = dI n ∧ (-9223372036854775808 ≤ n ∧ n ≤ 9223372036854775807) := by
  unfold LeafD at h
  rw [ht] at h
  obtain ⟨n, rfl, hw⟩ := h
  exact ⟨n, rfl, wf64 hw⟩
theorem leaf_str {t : TypeId} {d : D} (ht : Tryz.prog.underlying t = some .string) (h : LeafD Tryz.prog t d) : ∃ s : List UInt8, d = dS s := by
  unfold LeafD at h
  rw [ht] at h
  obtain ⟨s, rfl, _⟩ := h
  exact ⟨s.data.toList, by rw [dS, str, Go.Str.bs_data]⟩
/-- The cells of data without addresses. -/
def cellsD : Nat → DataW Unit → List Value
  | 0, _ => []
  | n + 1, .agg ps => ps.flatMap (cellsD n)
  | _ + 1, .lit (.int k z) => [.int k z]
  | _ + 1, .lit (.bool b) => [.bool b]
  | _ + 1, .lit (.string l) => [.string ⟨l.toArray⟩]
  | _, _ => []
/-- A world in which the listed tables hold what is listed. -/
def layAt (h : Array Obj) (i : Nat) (d : DataW Unit) : Array Obj := h.modify i fun
  | .cells _ t frozen => .cells (cellsD 8 d).toArray t frozen
  | o => o
/-- So many blocks has the settled world. -/
noncomputable def low : Nat := (World.holding Tryz.prog default ⟨#[], #[], []⟩).heap.size
/-- A variable of an interface type that holds a pointer to an errors.errorString. -/
def layErr (h : Array Obj) (i b : Nat) : Array Obj := h.modify i fun
  | .cells _ t frozen => .cells #[.iface 423 (.pointer (some ⟨b, 0, none⟩))] t frozen
  | o => o
abbrev rngS : ByteArray := ⟨#[118, 97, 108, 117, 101, 32, 111, 117, 116, 32, 111, 102, 32, 114, 97, 110, 103, 101]⟩
abbrev synS : ByteArray := ⟨#[105, 110, 118, 97, 108, 105, 100, 32, 115, 121, 110, 116, 97, 120]⟩
noncomputable def laidHeap (h : Array Obj) : Array Obj :=
  layErr (layErr (layAt (layAt (layAt (layAt (layAt (layAt h 0 Rows.laid_cobble_mill_placeWords) 5 Rows.laid_math_bits_deBruijn32tab) 6 Rows.laid_math_bits_deBruijn64tab) 2 Rows.laid_internal_strconv_uint64pow10) 8 Rows.laid_unicode_utf8_acceptRanges) 7 Rows.laid_unicode_utf8_first) 4 low) 3 (low + 1)
noncomputable def laidWorld (os : Os) : World :=
  let w0 := World.holding Tryz.prog os ⟨#[.cells #[.string rngS] 425, .cells #[.string synS] 425], #[], []⟩
  { w0 with heap := laidHeap w0.heap }
theorem noStand {ps : Array TypeId} (h : (ps.toList.all fun t => !(Tryz.prog.wantsStandIn t)) = true) : ∀ (j : Nat) t, ps[j]? = some t → Tryz.prog.wantsStandIn t = false := by
  intro j t ht
  have := List.all_eq_true.1 h t (Array.mem_toList_iff.2 (Array.mem_of_getElem? ht))
  simpa using this
theorem starE : "*" ++ "errors.errorString" = "*errors.errorString" := by decide
theorem rowE (u : TypeId) (h : Tryz.prog.typeName? 3 u = some "*errors.errorString") : u = 423 :=
  typeName_ptr_named (nm := "errors.errorString") (by rw [starE]; kernel_rfl) (by kernel_rfl) (by decide) u (by rw [starE]; exact h)
theorem held_iface {W : World} {g : Nat} {n : String} {t : TypeId} {a : Addr} (hg : Tryz.prog.globalNamed n = some g) (h : W.var? Tryz.prog n = some #[.iface t (.pointer (some a))]) : VarKind.iface.ok W.heap[g]? := by
  unfold World.var? at h
  rw [hg, Option.bind_some] at h
  cases ho : W.heap[g]? with
  | none => rw [ho] at h; cases h
  | some o =>
    rw [ho] at h
    cases o with
    | cells c ty fz =>
      obtain rfl := Option.some.inj h
      exact ⟨_, ty, fz, _, rfl, rfl, .inr ⟨_, _, rfl⟩⟩
    | _ => cases h
theorem vPow : Tryz.prog.globalNamed "internal/strconv.uint64pow10" = some 2 := by kernel_rfl
/-- what the row's condition says of the library's variables -/
theorem good_of {W : World} {rest : List (String × DataW Unit)} {a b c : String × DataW Unit} {t1 t2 : List UInt8} (h4 : laidMet Tryz.prog (a :: b :: ("internal/strconv.uint64pow10", Lib.tabData .u64 Lib.pow10Tab) :: c :: ("strconv.ErrRange", .iface "*errors.errorString" (.ptr (.agg [.lit (.string t1)]))) :: ("strconv.ErrSyntax", .iface "*errors.errorString" (.ptr (.agg [.lit (.string t2)]))) :: rest) W) (h5 : World.ShapedOpen Tryz.prog W) : GoodW Tryz.prog W := by
  have ht := Lib.tabIs_of_head (g := 2) (t := 292) (e := 244) (n := 20) vPow (by kernel_rfl) (by kernel_rfl) (by kernel_rfl) (by kernel_rfl) (by kernel_rfl) h4.tail.tail
  obtain ⟨m, hm⟩ : ∃ m, W.cell? ⟨1, 0, none⟩ = some (.int .i64 m) := Tryz.laysM146.s1_3 W h5
  have gr : Tryz.prog.globalNamed "strconv.ErrRange" = some 4 := by kernel_rfl
  have gs : Tryz.prog.globalNamed "strconv.ErrSyntax" = some 3 := by kernel_rfl
  obtain ⟨a1, s1, hv1, _⟩ := laid_sentinel (ti := 96) (tp := 423) (te := 425) (ts := 9) h4.tail.tail.tail.tail gr (by kernel_rfl) Tryz.underlying96 rowE Tryz.underlying423 Tryz.underlying425 rfl rfl Tryz.underlying9 (by kernel_rfl) (by kernel_rfl)
  obtain ⟨a2, s2, hv2, _⟩ := laid_sentinel (ti := 96) (tp := 423) (te := 425) (ts := 9) h4.tail.tail.tail.tail.tail gs (by kernel_rfl) Tryz.underlying96 rowE Tryz.underlying423 Tryz.underlying425 rfl rfl Tryz.underlying9 (by kernel_rfl) (by kernel_rfl)
  have e : varsOf Tryz.prog = [(2, .tab .u64 pow10s), (1, .int), (3, .iface), (4, .iface)] := by kernel_rfl
  intro q hq
  rw [e] at hq
  rcases List.mem_cons.1 hq with rfl | hq
  · unfold Lib.TabIs World.var? at ht
    rw [vPow, Option.bind_some] at ht
    cases ho : W.heap[2]? with
    | none => rw [ho] at ht; cases ht
    | some o =>
      rw [ho] at ht
      cases o with
      | cells c ty fz =>
        obtain rfl := Option.some.inj ht
        exact ⟨ty, fz, rfl⟩
      | _ => cases ht
  rcases List.mem_cons.1 hq with rfl | hq
  · unfold World.cell? at hm
    cases ho : W.heap[1]? with
    | none => simp [ho] at hm
    | some o =>
      cases o with
      | cells c ty fz => exact ⟨c, ty, fz, m, rfl, by simpa [ho] using hm⟩
      | _ => simp [ho] at hm
  rcases List.mem_cons.1 hq with rfl | hq
  · exact held_iface gs hv2
  · obtain rfl := List.mem_singleton.1 hq
    exact held_iface gr hv1
end Go.Proofs.YtmchimkjonmhaaaGreatDoor.K

/- MillNil: what the row says of the program's reach, fact by fact. -/
namespace Go.Proofs.YtmchimkjonmhaaaGreatDoor.K
open Go Go.Abs Go.RowKit Go.ChangeShapes Go.WideShapes Go.ChangeAt Go.Proofs Go.Flat Go.Proofs.G5n
set_option maxRecDepth 100000
namespace MillNil
theorem j1 : (Rows.millNilRow.inPlace == Tryz.prog.inPlace 3) = true := by kernel_rfl
end MillNil
end Go.Proofs.YtmchimkjonmhaaaGreatDoor.K

/- MillNil: what the row says of the program's reach, fact by fact. -/
namespace Go.Proofs.YtmchimkjonmhaaaGreatDoor.K
open Go Go.Abs Go.RowKit Go.ChangeShapes Go.WideShapes Go.ChangeAt Go.Proofs Go.Flat Go.Proofs.G5n
set_option maxRecDepth 100000
namespace MillNil
theorem j2 : (Rows.millNilRow.unfollowed == Tryz.prog.unfollowed 3) = true := by kernel_rfl
end MillNil
end Go.Proofs.YtmchimkjonmhaaaGreatDoor.K

/- MillNil: what the row says of the program's reach, fact by fact. -/
namespace Go.Proofs.YtmchimkjonmhaaaGreatDoor.K
open Go Go.Abs Go.RowKit Go.ChangeShapes Go.WideShapes Go.ChangeAt Go.Proofs Go.Flat Go.Proofs.G5n
set_option maxRecDepth 100000
namespace MillNil
theorem j3 : (Rows.millNilRow.recurses == Tryz.prog.recurses 3) = true := by kernel_rfl
end MillNil
end Go.Proofs.YtmchimkjonmhaaaGreatDoor.K

/- MillNil: what the row says of the program's reach, fact by fact. -/
namespace Go.Proofs.YtmchimkjonmhaaaGreatDoor.K
open Go Go.Abs Go.RowKit Go.ChangeShapes Go.WideShapes Go.ChangeAt Go.Proofs Go.Flat Go.Proofs.G5n
set_option maxRecDepth 100000
namespace MillNil
theorem j4 : (Rows.millNilRow.named == Tryz.prog.varsNamed 3) = true := by kernel_rfl
end MillNil
end Go.Proofs.YtmchimkjonmhaaaGreatDoor.K

/- A call that is met by what it does to the blocks that it reaches ('state contracts'): definitions. -/
namespace Go.Abs
/-- The end of such a call. -/
def endMu (v : Value) (H : Heap) : Mu := reach H 1000 (blocksV 8 v ++ mroots H) [] gbase
def stateK (K : Value → Blocks → Prop) : Value → Heap → Prop := fun v H =>
  bcase (gcGood (endMu v H) (gcB H (endMu v H) (endMu v H))) (K (mapV (endMu v H) 8 v) (gcB H (endMu v H) (endMu v H))) False
end Go.Abs

/- Handlers by a table: each function is met in its own way, the others are entered. -/
namespace Go.Abs
def saidH (P : Program) (C : FuncId → List D → List D → Prop) : Handler := fun g args _ H k =>
  match P.funcs[g]? with | some fn => wpSaid P C g fn.resultTypes.toList args H k | none => False
/-- (u: so many rounds of the loops of what is entered) -/
def handlerX (P : Program) (pre : FuncId → Option Handler) (u : Nat) : Nat → Handler
  | 0 => fun _ _ _ _ _ => False
  | n + 1 => fun g args ats H k =>
    match pre g with
    | some h => h g args ats H k
    | none => wpFn P (handlerX P pre u n) (fun _ _ _ => False) u g args H k
/-- A check that all of some numbers lie in a range: what it says. -/
def limE (lo hi : Int) : List Value → Int
  | [] => 0
  | .int _ n :: r => if n < lo ∨ n > hi then 2 else limE lo hi r
  | _ :: r => limE lo hi r
end Go.Abs

/- A call that is met by what it does to the blocks that it reaches: it is sound. -/
namespace Go.Abs
open Go.RowKit
variable {P : Program} {ρ : Ren} {w0 : Start P} {w : World} {H : Heap}

/-! ### Renaming, once more (numbers change anyhow; the globals stay) -/
structure MuS (μ : Mu) : Prop where
  snd : (μ.map (·.2)).Nodup
  glb : ∀ i j, (i, j) ∈ μ → i < abase → j = i
variable {μ : Mu}
/-! ### What is reached has its place -/
/-! ### The call's own view -/
structure CallOK (μ : Mu) (H : Heap) : Prop where
  fst : (μ.map (·.1)).Nodup
  snd : (μ.map (·.2)).Nodup
  lo : ∀ i j, (i, j) ∈ μ → abase ≤ i ∧ hbase ≤ j ∧ j < gbase
  yn : ∀ i j, (i, j) ∈ μ → (i = ynum ↔ j = ynum)
  mb : ∀ i j, (i, j) ∈ μ → mbase ≤ j → mbase ≤ i
  live : ∀ i j, (i, j) ∈ μ → ∃ o o2, H.get i = some o ∧ mapO μ o = some o2 ∧ o.alive = true
/-- Where a call begins that is met by what it does: the blocks that it is handed have their places, and it may be handed on what the rounds stand at. -/
structure StartC (w0 : Start P) (ρ : Ren) (μ : Mu) (H : Heap) (w : World) (s : Start P) : Prop where
  hw : s.w = w
  hp : s.pin = μ.ren ρ
  hm : ∀ k, ¬ s.mine k
  ok : ItOK s
  fr : ∀ k, s.free k → (ynum, ynum) ∈ μ ∧ ∃ own rest m F, H.get ynum = some (.yld own rest) ∧ ρ ynum = some m ∧ w0.it own rest F m.b w ∧ (∀ j n, ρ j = some n → H.live j → j ≠ ynum → ¬ F n.b) ∧ F k
  it : ∀ {own rest F l w'}, s.it own rest F l w' → w0.it own rest F l w' ∧ ∃ F0 : Nat → Prop, (∀ j n, ρ j = some n → H.live j → j ≠ ynum → ¬ F0 n.b) ∧ ∀ k, F k → k < w.heap.size → F0 k
  yl : ∀ own rest, (ynum, ynum) ∈ μ → H.get ynum = some (.yld own rest) → ∃ m F, ρ ynum = some m ∧ s.it own rest F m.b w ∧ ∀ j n, ρ j = some n → H.live j → j ≠ ynum → ¬ F n.b
/-! ### Back at the caller -/
variable {β : Mu} {bs : Blocks}
end Go.Abs

/- State contracts: a function whose body has been walked. -/
namespace Go.Abs
open Go.RowKit
variable {P : Program} {ρ : Ren} {w0 : Start P} {w : World} {H : Heap} {h : Handler} {L : AtLoop}

/-- A loop of a function, whatever its end is. -/
structure LoopGoodF (P : Program) (h : Handler) (L : AtLoop) (f : FuncId) (c : Code) (lv : Lv) (id : Nat) (F : Value → Heap → Prop) (X : Type) (st : X → Slots × Blocks) (inv : X → Prop) (m : X → Nat) : Prop where
  head : ∀ s b, L id s b → ∃ x, inv x ∧ st x = (s, b)
  flat : ((findLoop c lv id).map fun r => loopIds r.1) = some []
  round : ∀ x, inv x → wpRound P h L f id (st x).1 (st x).2 (fun s b => ∃ y, inv y ∧ m y < m x ∧ st y = (s, b))
    (fun i s b => if i = id then wpNext P h L f id .normal s b F else wpNext P h L f id (.exit i) s b F) F

end Go.Abs

/- Handlers by a table hold if each entry does. -/
namespace Go.Abs
open Go.RowKit
variable {P : Program}
theorem saidH_ok {C : FuncId → List D → List D → Prop} (hC : ∀ f ds rs, C f ds rs → Con P f ds rs) : HandlerOK P (saidH P C) := by
  intro g args ats H k hk
  unfold saidH at hk
  split at hk
  · exact wpSaid_call hC hk
  · exact hk.elim
/-- (a state contract speaks of one function) -/
def PreOK (P : Program) (pre : FuncId → Option Handler) : Prop := ∀ g h, pre g = some h → ∀ args ats H k, h g args ats H k → CallH P g args H k
theorem handlerX_ok (hmix : P.follows .mixedOrders = true) {pre : FuncId → Option Handler} (hp : PreOK P pre) {u : Nat} (hu : u ≠ 0) : ∀ n, HandlerOK P (handlerX P pre u n)
  | 0 => fun _ _ _ _ _ h => h.elim
  | n + 1 => fun g args ats H k hk => by
    simp only [handlerX] at hk
    split at hk
    · rename_i h he
      exact hp g h he args ats H k hk
    · exact wpFn_call (handlerX_ok hmix hp hu n) hmix hu hk
abbrev limBs (ti : TypeId) (cs : List Value) (lo hi : Int) : Blocks := [(900, .cells cs ti false 1), (901, .cells [.int .i64 lo] ti false 1), (902, .cells [.int .i64 hi] ti false 1)]
abbrev limArgs (n cap : Nat) : List Value := [.slice (some ⟨900, 0, none⟩) n cap, .pointer (some ⟨901, 0, none⟩), .pointer (some ⟨902, 0, none⟩)]
/-- What is left to show of the function that limit returns. -/
def limGoal (P : Program) (f : FuncId) (ti : TypeId) (n : Nat) (cs : List Value) (cap : Nat) (lo hi : Int) (K : Value → Blocks → Prop) : Prop :=
  wpFn P (fun _ _ _ _ _ => False) (fun _ _ _ => False) 6 f (limArgs n cap).toArray (heapOf (limBs ti cs lo hi)) (stateK K)
structure LimGood (P : Program) (f : FuncId) (ti : TypeId) : Prop where
  mix : P.follows .mixedOrders = true
  fn : ∃ fn c, P.funcs[f]? = some fn ∧ fn.body = some c
  one : ∀ cap lo hi x, limGoal P f ti 1 [.int .i64 x] cap lo hi (fun v b => v = .int .i64 (limE lo hi [.int .i64 x]) ∧ b = limBs ti [.int .i64 x] lo hi)
  two : ∀ cap lo hi x y, limGoal P f ti 2 [.int .i64 x, .int .i64 y] cap lo hi (fun v b => v = .int .i64 (limE lo hi [.int .i64 x, .int .i64 y]) ∧ b = limBs ti [.int .i64 x, .int .i64 y] lo hi)
  three : ∀ cap lo hi x y z, limGoal P f ti 3 [.int .i64 x, .int .i64 y, .int .i64 z] cap lo hi (fun v b => v = .int .i64 (limE lo hi [.int .i64 x, .int .i64 y, .int .i64 z]) ∧ b = limBs ti [.int .i64 x, .int .i64 y, .int .i64 z] lo hi)
  four : ∀ cap lo hi x y z u, limGoal P f ti 4 [.int .i64 x, .int .i64 y, .int .i64 z, .int .i64 u] cap lo hi (fun v b => v = .int .i64 (limE lo hi [.int .i64 x, .int .i64 y, .int .i64 z, .int .i64 u]) ∧ b = limBs ti [.int .i64 x, .int .i64 y, .int .i64 z, .int .i64 u] lo hi)
end Go.Abs

/- What is left to show of each function, written out; the kernel reckons it. -/
namespace Go.Proofs.G5n
open Go Go.Abs Go.Proofs
set_option maxRecDepth 100000
set_option linter.unusedVariables false
abbrev Ct := FuncId → List D → List D → Prop
def preM (C : Ct) : FuncId → Option Handler := fun g => if [4].contains g then some (saidH Tryz.prog C) else none
abbrev hM (C : Ct) : Handler := handlerX Tryz.prog (preM C) 12 6
def gNl (C : Ct) (L : AtLoop) (x0 : Int) (s1 : ByteArray) (s2 : ByteArray) (k : List D → Prop) : Prop := wpFn Tryz.prog (hM C) L 0 3 #[.int .i64 x0, .string s1, .string s2] (heapOf []) (dataK k)
theorem gNl_text (C : Ct) (L : AtLoop) (x0 : Int) (s1 : ByteArray) (s2 : ByteArray) (k : List D → Prop) : gNl C L x0 s1 s2 k =
 (((Says C 4 [] [(D.val (Go.Value.bool true))]) ∧
 (bcase (decide ((↑(ByteArray.size s1) : Int) > 60))
 (k [(D.val (Go.Value.bool true))])
 (bcase (decide ((↑(ByteArray.size s2) : Int) > 60))
 (k [(D.val (Go.Value.bool true))])
 (k [(D.val (Go.Value.bool true))])))) ∨
 ((Says C 4 [] [(D.val (Go.Value.bool false))]) ∧
 (k [(D.val (Go.Value.bool false))]))) := by kernel_rfl
end Go.Proofs.G5n

/- MillNil in data. -/
namespace Go.Proofs.G5n
open Go Go.Abs Go.Proofs Go.Str
set_option maxRecDepth 100000
theorem preMOK : PreOK Tryz.prog (preM C5) := by
  intro g h he args ats H k hk
  unfold preM at he
  split at he
  · obtain rfl := Option.some.inj he
    exact saidH_ok (fun _ _ _ h => h) _ _ _ _ _ hk
  · cases he
theorem hokM : HandlerOK Tryz.prog (hM C5) := handlerX_ok mixed preMOK (by decide) 6
theorem lawN (n : Int) (s u : List UInt8) : C5 3 [dI n, dS s, dS u] [.val (.bool true)] := by
  refine con_flat hokM mixed Tryz.func3 rfl (by show 0 ≤ 400; omega) rfl (by kernel_rfl) (fun caps => ?_)
  show gNl _ _ n (bs s) (bs u) _
  rw [gNl_text]
  refine .inl ⟨⟨conA⟩, bc_dec (fun _ => rfl) (fun _ => bc_dec (fun _ => rfl) (fun _ => ?_))⟩
  simp
end Go.Proofs.G5n

/- MillNil: whatever the input, it returns true, and the input reads as it did. Condition: the listed library tables hold what the text of the program lays (the card ties that to the text). -/
namespace Go.Proofs.YtmchimkjonmhaaaGreatDoor.K
open Go Go.Abs Go.RowKit Go.ChangeShapes Go.WideShapes Go.ChangeAt Go.Proofs Go.Flat Go.Proofs.G5n
set_option maxRecDepth 100000
namespace MillNil
abbrev shs : List Sh := [.one 3, .one 9, .one 9]
theorem shapes : Tryz.f3.params.toList.mapM (argSh Tryz.prog) = some shs := by kernel_rfl
theorem all (ds : List D) (h : ShDs Tryz.prog shs ds) : Con Tryz.prog 3 ds [.val (.bool true)] := by
  cases h with | cons h1 t => cases t with | cons h2 t => cases t with | cons h3 t =>
  cases t
  obtain ⟨n, rfl, _⟩ := leaf_int Tryz.underlying3 h1
  obtain ⟨s, rfl⟩ := leaf_str Tryz.underlying9 h2
  obtain ⟨u, rfl⟩ := leaf_str Tryz.underlying9 h3
  exact lawN n s u
def wArgs : Array Value := #[.int .i64 0, .string ⟨#[]⟩, .string ⟨#[]⟩]
theorem laid_met (os : Os) : laidMet Tryz.prog Rows.millNilRow.laid ((laidWorld os).forCall (fun _ _ => 0) ⟨#[], wArgs, []⟩).memory :=
  laidMet_of_run' 8 (by kernel_rfl) (by kernel_rfl)
theorem reads (os : Os) {H : Type} (enc : TypeId × Value → H) : ∃ places, DataW.whole enc Tryz.prog ((laidWorld os).forCall (fun _ _ => 0) ⟨#[], wArgs, []⟩).memory Tryz.f3.params.toList Rows.millNilSpec.vars false wArgs.toList 8 =
    some ([.lit (.int .i64 0), .lit (.string []), .lit (.string [])], [], places) :=
  ⟨[], by kernel_rfl⟩
theorem lifted (os : Os) (started : os.Started) (H : Type) (enc : TypeId × Value → H) (F : Stop.Interp) :
    ReturnsInHanded {} Tryz.checked os 3 .any ((OpenSpec.ofChange Rows.millNilSpec).preRow enc Tryz.prog Tryz.f3 Rows.millNilRow.domain false Rows.millNilRow.laid) (((OpenSpec.ofChange Rows.millNilSpec).at F).post enc Tryz.prog Tryz.f3 false true false false) := by
  obtain ⟨places, hx⟩ := reads os enc
  refine returnsInHanded_of_row (C := Tryz.checked) (s := OpenSpec.ofChange Rows.millNilSpec) own started (by kernel_rfl) Tryz.func3
    (witness_row_at (enc := enc) (C := Tryz.checked) false (laidWorld os) wArgs rfl (by kernel_rfl) (by kernel_rfl) (by kernel_rfl)
      (OpenSpec.preRow_of_cond 8 hx (by kernel_rfl) (fun k hk => by cases hk) (by kernel_rfl) (laid_met os))) ?_
  intro W base args ds gs before hval hW h1 h2 h3 h4 h5 h6
  have hgood : GoodW Tryz.prog W := good_of (show laidMet _ _ W from h4) h5
  exact law_shapes (tb := 4) (s := Rows.millNilSpec) shapes all laidP mapsP slicesP (tsP (by kernel_rfl)) rfl Tryz.underlying4 rfl (fun ds h => by
    match ds, h with
    | [_, _, _], _ => exact ⟨rfl, rfl, rfl⟩) hval hW hgood
theorem closed : joinedFacts Tryz.prog 3 Tryz.f3 (OpenSpec.ofChange Rows.millNilSpec).bare Rows.millNilRow = true := by
  unfold joinedFacts
  rw [j1, j2, j3, j4]
  kernel_rfl
theorem said : Rows.MillNilSaid :=
  OpenClaim.holds_of_cond 3 Tryz.f3 rfl rfl rfl rfl rfl rfl rfl ⟨rfl, rfl, rfl, rfl, rfl⟩ rfl rfl rfl rfl rfl (by kernel_rfl) Tryz.func3 closed
    (of_decide_eq_true (by kernel_rfl)) (by unfold Func.isWrapper; first | (rw [if_pos (by decide +kernel)]; kernel_rfl) | (rw [if_neg (by decide +kernel)]; exact ⟨rfl, rfl⟩))
    (fun os started H enc _ F => by rw [OpenClaim.pre_eq_preRow]; exact lifted os started H enc F)
theorem plain (f : FuncId) (fn : Func) (hf : Tryz.pinned.checked.prog.funcNamed "cobble/cobblelaw10.MillNil" = some f) (hfn : Tryz.pinned.checked.prog.funcs[f]? = some fn) :
    true = Tryz.pinned.checked.prog.looks [] ∧ ∀ (j : Nat) t, fn.params[j]? = some t → Tryz.pinned.checked.prog.wantsStandIn t = false := by
  obtain rfl : f = 3 := Option.some.inj ((show Tryz.prog.funcNamed "cobble/cobblelaw10.MillNil" = some 3 by kernel_rfl).symm.trans hf) |>.symm
  obtain rfl : fn = Tryz.f3 := (Option.some.inj (Tryz.func3.symm.trans hfn)).symm
  exact ⟨by kernel_rfl, noStand (by kernel_rfl)⟩
theorem card : Rows.MillNilCardSaid :=
  Claim7.holds_tied_plain_at .later [] _ _ _ _ said (fun _ h => by cases h) (by kernel_rfl) (fun _ h => by cases h) millNil_row_tie rfl ⟨rfl, rfl⟩ (by kernel_rfl) rfl plain (by kernel_rfl)
#print axioms card
end MillNil
end Go.Proofs.YtmchimkjonmhaaaGreatDoor.K
