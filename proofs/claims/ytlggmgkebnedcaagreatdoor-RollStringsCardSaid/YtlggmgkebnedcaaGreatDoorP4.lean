/- Texts of the proof, put together: GwSL, AbsSameD, AbsSame, AbsTab, AbsPairs, AbsGood, GStr, GStr2, AbsStr, GwS0r, GwSU0r, AbsFrameD, AbsXD, AbsFrame, AbsState, AbsX, GwST, GwSRT, GwS1r, GStr3, GwSD6, GName, GwSR1. -/
import Derived.Test.YtlggmgkebnedcaaGreatDoorP2
import Derived.Test.YtlggmgkebnedcaaGreatDoorP3
import Derived.Shelf.Strings.OnBuilder
import Derived.Shelf.Strconv.Atoi
import Derived.Shelf.LaysM
import Derived.Shelf.Strconv.Itoa3
import Derived.Shelf.LaysC
import Derived.Shelf.Strconv.AtoiErr
import Derived.Shelf.Strings.Split
import Derived.Shelf.Strings.SplitShaped
import Derived.Test.YtlggmgkebnedcaaGreatDoorProg
import Derived.Lib.LaidTab
import Derived.Lib.ItoaNum
import Derived.Lib.Join
import Derived.Lib.Split
import Derived.Lib.IndexMore
import Derived.Lib.Strings
import Derived.Lib.Atoi
import Derived.Lib.ItoaLen
import Derived.KernelRfl
import Derived.Test.YtlggmgkebnedcaaGreatDoorCards
import Derived.Test.YtlggmgkebnedcaaGreatDoorTie
import Derived.Handed
import Derived.JoinedCond
import Derived.Deep.DeepHandedRow
import Derived.WalkKit
import Derived.Stop.LaidErr
import Derived.BigCall
import Derived.WalkSmall
import Derived.Lib.AtoiBound
/-
  DERIVED: THE SHELF's CONTRACTS AT THIS DUMP, IN PLAIN WORDS (tools/lay-plain.mjs out of 'TryzShelf.lean', which tools/lay-shelf.mjs wrote): THE SAME DECLARATIONS UNDER THE SAME NAMES: 'import', 'namespace', 'open', 'def', 'theorem' AND NOTHING ELSE: no command of the shelf's: FOR A HAND-IN. Each laying: the table of numbers ('.._ren') and one theorem, a field a fact of the dump's own or the kernel's comparison; each contract: ONE APPLICATION.
-/
namespace Go.Proofs
open Go.Shelf
def Tryz.lays156_ren : Go.Shelf.Ren := ⟨fun | 156 => 20 | 165 => 49 | 166 => 50 | 169 => 51 | 240 => 75 | 241 => 76 | 276 => 94 | 277 => 95 | n => n, fun | 31 => 58 | 9 => 9 | 3 => 3 | 4 => 4 | 0 => 0 | 20 => 20 | 72 => 108 | 76 => 112 | 70 => 105 | 37 => 106 | 75 => 111 | 127 => 143 | 164 => 156 | 5 => 5 | 80 => 114 | n => n, fun | n => n⟩
theorem Tryz.lays156 : Go.Proofs.Lays.n156 Tryz.prog Tryz.lays156_ren := {
  mixed := by kernel_rfl
  f156 := Tryz.func20.trans (congrArg some (by kernel_rfl))
  f165 := Tryz.func49.trans (congrArg some (by kernel_rfl))
  f166 := Tryz.func50.trans (congrArg some (by kernel_rfl))
  f169 := Tryz.func51.trans (congrArg some (by kernel_rfl))
  f240 := Tryz.func75.trans (congrArg some (by kernel_rfl))
  f241 := Tryz.func76.trans (congrArg some (by kernel_rfl))
  f276 := Tryz.func94.trans (congrArg some (by kernel_rfl))
  f277 := Tryz.func95.trans (congrArg some (by kernel_rfl))
  t0 := Tryz.underlying0
  a0 := Tryz.isAgg0
  z0 := Tryz.sizeOf0
  v0 := Tryz.zeroValue0
  t3 := Tryz.underlying3
  a3 := Tryz.isAgg3
  z3 := Tryz.sizeOf3
  v3 := Tryz.zeroValue3
  t4 := Tryz.underlying4
  a4 := Tryz.isAgg4
  z4 := Tryz.sizeOf4
  v4 := Tryz.zeroValue4
  t9 := Tryz.underlying9
  a9 := Tryz.isAgg9
  z9 := Tryz.sizeOf9
  v9 := Tryz.zeroValue9
  t20 := Tryz.underlying20
  a20 := Tryz.isAgg20
  z20 := Tryz.sizeOf20
  v20 := Tryz.zeroValue20
  t31 := Tryz.underlying58
  a31 := Tryz.isAgg58
  z31 := Tryz.sizeOf58
  v31 := Tryz.zeroValue58
  t37 := Tryz.underlying106
  a37 := Tryz.isAgg106
  z37 := Tryz.sizeOf106
  v37 := Tryz.zeroValue106
  t70 := Tryz.underlying105
  a70 := Tryz.isAgg105
  z70 := Tryz.sizeOf105
  v70 := Tryz.zeroValue105
  t72 := Tryz.underlying108
  a72 := Tryz.isAgg108
  z72 := Tryz.sizeOf108
  v72 := Tryz.zeroValue108
  t75 := Tryz.underlying111
  a75 := Tryz.isAgg111
  z75 := Tryz.sizeOf111
  v75 := Tryz.zeroValue111
  t76 := Tryz.underlying112
  a76 := Tryz.isAgg112
  z76 := Tryz.sizeOf112
  v76 := Tryz.zeroValue112
  t127 := Tryz.underlying143
  a127 := Tryz.isAgg143
  z127 := Tryz.sizeOf143
  v127 := Tryz.zeroValue143
  t164 := Tryz.underlying156
  a164 := Tryz.isAgg156
  z164 := Tryz.sizeOf156
  v164 := Tryz.zeroValue156 }
theorem Tryz.Builder_Extra_156 : Builder.Extra Tryz.prog Tryz.lays156_ren := {
  sizeBuilder := by kernel_rfl
  liesBuilder := by kernel_rfl
  t5 := Tryz.underlying5
  a5 := Tryz.isAgg5
  z5 := Tryz.sizeOf5
  v5 := Tryz.zeroValue5
  infoByte := by kernel_rfl
  cellsByte := by kernel_rfl
  sizeByte := by kernel_rfl
  neB5 := by decide }
open Go.RowKit in
/-- strings.Join: "Join concatenates the elements of its first argument to create a single string. The separator string sep is placed between elements in the resulting string.": HOWEVER MANY ELEMENTS. Below the heap's end the world is as it was. (LAID: no walk: one application.) -/
theorem Tryz.strings_Join (bk o c : Nat) (xs : List ByteArray) (sep : ByteArray) (w : World) (hcells : ∀ (j : Nat) x, xs[j]? = some x → w.cell? ⟨bk, o + j, none⟩ = some (.string x)) (hbk : bk < w.heap.size) (hN : xs.length ≤ 140737488355328) (hcap : xs.length ≤ c) (hlen : (Lib.join (xs.map (·.data.toList)) sep.data.toList).length ≤ 140737488355328) :
    Calls Tryz.prog 20 #[.slice (some ⟨bk, o, none⟩) xs.length c, .string sep] w fun e w' => e = .returned (.string ⟨(Lib.join (xs.map (·.data.toList)) sep.data.toList).toArray⟩) ∧ Below w.heap.size w w' := Any.strings_Join Tryz.lays156 Tryz.Builder_Extra_156 bk o c xs sep w hcells hbk hN hcap hlen
def Tryz.lays172_ren : Go.Shelf.Ren := ⟨fun | 172 => 54 | 244 => 81 | 245 => 82 | 247 => 104 | 279 => 105 | 280 => 106 | 281 => 107 | 282 => 108 | 287 => 120 | 316 => 121 | 171 => 21 | 205 => 122 | 321 => 129 | 322 => 130 | 243 => 52 | 246 => 77 | 283 => 96 | 284 => 97 | 285 => 98 | 286 => 99 | 129 => 111 | 317 => 110 | 318 => 112 | 319 => 113 | 320 => 114 | 337 => 125 | 338 => 126 | n => n, fun | 9 => 9 | 3 => 3 | 75 => 111 | 76 => 112 | 4 => 4 | 5 => 5 | 167 => 169 | 37 => 106 | 0 => 0 | 85 => 170 | 2 => 2 | 168 => 172 | 53 => 160 | 175 => 182 | 46 => 180 | 210 => 186 | 127 => 143 | 145 => 199 | 143 => 197 | 21 => 21 | 171 => 159 | 173 => 163 | 212 => 177 | 51 => 178 | 20 => 20 | 213 => 179 | 232 => 200 | 233 => 201 | 80 => 114 | n => n, fun | 15 => 2 | 16 => 3 | 17 => 1 | 18 => 6 | 19 => 7 | n => n⟩
theorem Tryz.lays172 : Go.Proofs.Lays.n172 Tryz.prog Tryz.lays172_ren := {
  mixed := by kernel_rfl
  f129 := Tryz.func111.trans (congrArg some (by kernel_rfl))
  f171 := Tryz.func21.trans (congrArg some (by kernel_rfl))
  f172 := Tryz.func54.trans (congrArg some (by kernel_rfl))
  f205 := Tryz.func122.trans (congrArg some (by kernel_rfl))
  f243 := Tryz.func52.trans (congrArg some (by kernel_rfl))
  f244 := Tryz.func81.trans (congrArg some (by kernel_rfl))
  f245 := Tryz.func82.trans (congrArg some (by kernel_rfl))
  f246 := Tryz.func77.trans (congrArg some (by kernel_rfl))
  f247 := Tryz.func104.trans (congrArg some (by kernel_rfl))
  f279 := Tryz.func105.trans (congrArg some (by kernel_rfl))
  f280 := Tryz.func106.trans (congrArg some (by kernel_rfl))
  f281 := Tryz.func107.trans (congrArg some (by kernel_rfl))
  f282 := Tryz.func108.trans (congrArg some (by kernel_rfl))
  f283 := Tryz.func96.trans (congrArg some (by kernel_rfl))
  f284 := Tryz.func97.trans (congrArg some (by kernel_rfl))
  f285 := Tryz.func98.trans (congrArg some (by kernel_rfl))
  f286 := Tryz.func99.trans (congrArg some (by kernel_rfl))
  f287 := Tryz.func120.trans (congrArg some (by kernel_rfl))
  f316 := Tryz.func121.trans (congrArg some (by kernel_rfl))
  f317 := Tryz.func110.trans (congrArg some (by kernel_rfl))
  f318 := Tryz.func112.trans (congrArg some (by kernel_rfl))
  f319 := Tryz.func113.trans (congrArg some (by kernel_rfl))
  f320 := Tryz.func114.trans (congrArg some (by kernel_rfl))
  f321 := Tryz.func129.trans (congrArg some (by kernel_rfl))
  f322 := Tryz.func130.trans (congrArg some (by kernel_rfl))
  f337 := Tryz.func125.trans (congrArg some (by kernel_rfl))
  f338 := Tryz.func126.trans (congrArg some (by kernel_rfl))
  t0 := Tryz.underlying0
  a0 := Tryz.isAgg0
  z0 := Tryz.sizeOf0
  v0 := Tryz.zeroValue0
  t2 := Tryz.underlying2
  a2 := Tryz.isAgg2
  z2 := Tryz.sizeOf2
  v2 := Tryz.zeroValue2
  t3 := Tryz.underlying3
  a3 := Tryz.isAgg3
  z3 := Tryz.sizeOf3
  v3 := Tryz.zeroValue3
  t4 := Tryz.underlying4
  a4 := Tryz.isAgg4
  z4 := Tryz.sizeOf4
  v4 := Tryz.zeroValue4
  t5 := Tryz.underlying5
  a5 := Tryz.isAgg5
  z5 := Tryz.sizeOf5
  v5 := Tryz.zeroValue5
  t9 := Tryz.underlying9
  a9 := Tryz.isAgg9
  z9 := Tryz.sizeOf9
  v9 := Tryz.zeroValue9
  t20 := Tryz.underlying20
  a20 := Tryz.isAgg20
  z20 := Tryz.sizeOf20
  v20 := Tryz.zeroValue20
  t21 := Tryz.underlying21
  a21 := Tryz.isAgg21
  z21 := Tryz.sizeOf21
  v21 := Tryz.zeroValue21
  t37 := Tryz.underlying106
  a37 := Tryz.isAgg106
  z37 := Tryz.sizeOf106
  v37 := Tryz.zeroValue106
  t46 := Tryz.underlying180
  a46 := Tryz.isAgg180
  z46 := Tryz.sizeOf180
  v46 := Tryz.zeroValue180
  t51 := Tryz.underlying178
  a51 := Tryz.isAgg178
  z51 := Tryz.sizeOf178
  v51 := Tryz.zeroValue178
  t53 := Tryz.underlying160
  a53 := Tryz.isAgg160
  z53 := Tryz.sizeOf160
  v53 := Tryz.zeroValue160
  t75 := Tryz.underlying111
  a75 := Tryz.isAgg111
  z75 := Tryz.sizeOf111
  v75 := Tryz.zeroValue111
  t76 := Tryz.underlying112
  a76 := Tryz.isAgg112
  z76 := Tryz.sizeOf112
  v76 := Tryz.zeroValue112
  t85 := Tryz.underlying170
  a85 := Tryz.isAgg170
  z85 := Tryz.sizeOf170
  v85 := Tryz.zeroValue170
  t127 := Tryz.underlying143
  a127 := Tryz.isAgg143
  z127 := Tryz.sizeOf143
  v127 := Tryz.zeroValue143
  t143 := Tryz.underlying197
  a143 := Tryz.isAgg197
  z143 := Tryz.sizeOf197
  v143 := Tryz.zeroValue197
  t145 := Tryz.underlying199
  a145 := Tryz.isAgg199
  z145 := Tryz.sizeOf199
  v145 := Tryz.zeroValue199
  t167 := Tryz.underlying169
  a167 := Tryz.isAgg169
  z167 := Tryz.sizeOf169
  v167 := Tryz.zeroValue169
  t168 := Tryz.underlying172
  a168 := Tryz.isAgg172
  z168 := Tryz.sizeOf172
  v168 := Tryz.zeroValue172
  t171 := Tryz.underlying159
  a171 := Tryz.isAgg159
  z171 := Tryz.sizeOf159
  v171 := Tryz.zeroValue159
  t173 := Tryz.underlying163
  a173 := Tryz.isAgg163
  z173 := Tryz.sizeOf163
  v173 := Tryz.zeroValue163
  t175 := Tryz.underlying182
  a175 := Tryz.isAgg182
  z175 := Tryz.sizeOf182
  v175 := Tryz.zeroValue182
  t210 := Tryz.underlying186
  a210 := Tryz.isAgg186
  z210 := Tryz.sizeOf186
  v210 := Tryz.zeroValue186
  t212 := Tryz.underlying177
  a212 := Tryz.isAgg177
  z212 := Tryz.sizeOf177
  v212 := Tryz.zeroValue177
  t213 := Tryz.underlying179
  a213 := Tryz.isAgg179
  z213 := Tryz.sizeOf179
  t232 := Tryz.underlying200
  a232 := Tryz.isAgg200
  z232 := Tryz.sizeOf200
  v232 := Tryz.zeroValue200
  t233 := Tryz.underlying201
  a233 := Tryz.isAgg201
  z233 := Tryz.sizeOf201
  v233 := Tryz.zeroValue201
  g15 := by kernel_rfl
  g16 := by kernel_rfl
  g17 := by kernel_rfl
  g18 := by kernel_rfl
  g19 := by kernel_rfl }
open Go.RowKit in
/-- strconv.Atoi: "Atoi is equivalent to ParseInt(s, 10, 0), converted to type int.": AT A DECIMAL NUMERAL OF AT MOST 18 BYTES: its value, and a nil error. The world behind the call: the one new row that the library's '[]byte(s)' lays. (LAID: no walk: one application.) -/
theorem Tryz.strconv_Atoi (s : ByteArray) (n : Int) (hl : s.size ≤ 18) (h : Lib.atoi s.data.toList = some n) (w : World) :
    Calls Tryz.prog 54 #[.string s] w fun e w' => e = .returned (.tuple #[.int .i64 n, .nilIface]) ∧ ∃ t, w' = Lib.bytesWorld w 5 t := Any.strconv_Atoi Tryz.lays172 s n hl h w
def Tryz.laysM171_ren : Go.Shelf.Ren := ⟨fun | 171 => 21 | 243 => 52 | 246 => 77 | 283 => 96 | 284 => 97 | 285 => 98 | 286 => 99 | 129 => 111 | 317 => 110 | 318 => 112 | 319 => 113 | 320 => 114 | 337 => 125 | 338 => 126 | n => n, fun | 3 => 3 | 9 => 9 | 2 => 2 | 4 => 4 | 171 => 159 | 0 => 0 | 53 => 160 | 37 => 106 | 5 => 5 | 173 => 163 | 212 => 177 | 51 => 178 | 20 => 20 | 213 => 179 | 46 => 180 | 232 => 200 | 233 => 201 | n => n, fun | 17 => 1 | 18 => 6 | 19 => 7 | n => n⟩
theorem Tryz.laysM171 : Go.Proofs.LaysM.n171 Tryz.prog Tryz.laysM171_ren := {
  mixed := by kernel_rfl
  f129 := Tryz.func111.trans (congrArg some (by kernel_rfl))
  f171 := Tryz.func21.trans (congrArg some (by kernel_rfl))
  f243 := Tryz.func52.trans (congrArg some (by kernel_rfl))
  f246 := Tryz.func77.trans (congrArg some (by kernel_rfl))
  f283 := Tryz.func96.trans (congrArg some (by kernel_rfl))
  f284 := Tryz.func97.trans (congrArg some (by kernel_rfl))
  f285 := Tryz.func98.trans (congrArg some (by kernel_rfl))
  f286 := Tryz.func99.trans (congrArg some (by kernel_rfl))
  f317 := Tryz.func110.trans (congrArg some (by kernel_rfl))
  f318 := Tryz.func112.trans (congrArg some (by kernel_rfl))
  f319 := Tryz.func113.trans (congrArg some (by kernel_rfl))
  f320 := Tryz.func114.trans (congrArg some (by kernel_rfl))
  f337 := Tryz.func125.trans (congrArg some (by kernel_rfl))
  f338 := Tryz.func126.trans (congrArg some (by kernel_rfl))
  t0 := Tryz.underlying0
  a0 := Tryz.isAgg0
  z0 := Tryz.sizeOf0
  v0 := Tryz.zeroValue0
  t2 := Tryz.underlying2
  a2 := Tryz.isAgg2
  z2 := Tryz.sizeOf2
  v2 := Tryz.zeroValue2
  t3 := Tryz.underlying3
  a3 := Tryz.isAgg3
  z3 := Tryz.sizeOf3
  v3 := Tryz.zeroValue3
  t4 := Tryz.underlying4
  a4 := Tryz.isAgg4
  z4 := Tryz.sizeOf4
  v4 := Tryz.zeroValue4
  t5 := Tryz.underlying5
  a5 := Tryz.isAgg5
  z5 := Tryz.sizeOf5
  v5 := Tryz.zeroValue5
  t9 := Tryz.underlying9
  a9 := Tryz.isAgg9
  z9 := Tryz.sizeOf9
  v9 := Tryz.zeroValue9
  t20 := Tryz.underlying20
  a20 := Tryz.isAgg20
  z20 := Tryz.sizeOf20
  v20 := Tryz.zeroValue20
  t37 := Tryz.underlying106
  a37 := Tryz.isAgg106
  z37 := Tryz.sizeOf106
  v37 := Tryz.zeroValue106
  t46 := Tryz.underlying180
  a46 := Tryz.isAgg180
  z46 := Tryz.sizeOf180
  v46 := Tryz.zeroValue180
  t51 := Tryz.underlying178
  a51 := Tryz.isAgg178
  z51 := Tryz.sizeOf178
  v51 := Tryz.zeroValue178
  t53 := Tryz.underlying160
  a53 := Tryz.isAgg160
  z53 := Tryz.sizeOf160
  v53 := Tryz.zeroValue160
  t171 := Tryz.underlying159
  a171 := Tryz.isAgg159
  z171 := Tryz.sizeOf159
  v171 := Tryz.zeroValue159
  t173 := Tryz.underlying163
  a173 := Tryz.isAgg163
  z173 := Tryz.sizeOf163
  v173 := Tryz.zeroValue163
  t212 := Tryz.underlying177
  a212 := Tryz.isAgg177
  z212 := Tryz.sizeOf177
  v212 := Tryz.zeroValue177
  t213 := Tryz.underlying179
  a213 := Tryz.isAgg179
  z213 := Tryz.sizeOf179
  t232 := Tryz.underlying200
  a232 := Tryz.isAgg200
  z232 := Tryz.sizeOf200
  v232 := Tryz.zeroValue200
  t233 := Tryz.underlying201
  a233 := Tryz.isAgg201
  z233 := Tryz.sizeOf201
  v233 := Tryz.zeroValue201
  g17 := by kernel_rfl
  g18 := by kernel_rfl
  g19 := by kernel_rfl
  i0 := by kernel_rfl
  i2 := by kernel_rfl
  i3 := by kernel_rfl
  i4 := by kernel_rfl
  i5 := by kernel_rfl
  i9 := by kernel_rfl
  i20 := by kernel_rfl
  i37 := by kernel_rfl
  i46 := by kernel_rfl
  i51 := by kernel_rfl
  i53 := by kernel_rfl
  i171 := by kernel_rfl
  i173 := by kernel_rfl
  i212 := by kernel_rfl
  i232 := by kernel_rfl
  i233 := by kernel_rfl
  m17 := by kernel_rfl
  m18 := by kernel_rfl
  m19 := by kernel_rfl }
open Go.RowKit Go.Sort Go.Lib in
/-- strconv.Itoa: "Itoa is equivalent to FormatInt(int64(i), 10).": i's DECIMAL NUMERAL ('Lib.itoa': a '-' where i is negative, then the digits), FOR EVERY int. The world behind the call: the world before it, new blocks behind the heap (the library's 'var a [24]byte'), draws. (LAID: no walk: one application.) -/
theorem Tryz.strconv_Itoa (n : Int) (h0 : -9223372036854775808 ≤ n) (h1 : n ≤ 9223372036854775807) (w : World) (htab : Lib.TabIs Tryz.prog w "internal/strconv.uint64pow10" .u64 Lib.pow10Tab) :
    Calls Tryz.prog 21 #[.int .i64 n] w fun e w' => e = .returned (.string ⟨(Lib.itoa n).toArray⟩) ∧ ∃ k os, w' = grow (w.drewN k) os := Any.strconv_Itoa Tryz.laysM171 n h0 h1 w htab
def Tryz.laysC172_ren : Go.Shelf.Ren := ⟨fun | 172 => 54 | 244 => 81 | 245 => 82 | 247 => 104 | 279 => 105 | 280 => 106 | 281 => 107 | 282 => 108 | 287 => 120 | 316 => 121 | 171 => 21 | 205 => 122 | 321 => 129 | 322 => 130 | 243 => 52 | 246 => 77 | 283 => 96 | 284 => 97 | 285 => 98 | 286 => 99 | 129 => 111 | 317 => 110 | 318 => 112 | 319 => 113 | 320 => 114 | 337 => 125 | 338 => 126 | n => n, fun | 9 => 9 | 3 => 3 | 75 => 111 | 76 => 112 | 4 => 4 | 5 => 5 | 167 => 169 | 37 => 106 | 0 => 0 | 85 => 170 | 2 => 2 | 168 => 172 | 53 => 160 | 175 => 182 | 46 => 180 | 210 => 186 | 127 => 143 | 145 => 199 | 143 => 197 | 21 => 21 | 171 => 159 | 173 => 163 | 212 => 177 | 51 => 178 | 20 => 20 | 213 => 179 | 232 => 200 | 233 => 201 | 80 => 114 | n => n, fun | 15 => 2 | 16 => 3 | 17 => 1 | 18 => 6 | 19 => 7 | n => n⟩
theorem Tryz.laysC172 : Go.Proofs.LaysC.n172 Tryz.prog Tryz.laysC172_ren := {
  mixed := by kernel_rfl
  f129 := Tryz.func111.trans (congrArg some (by kernel_rfl))
  f171 := Tryz.func21.trans (congrArg some (by kernel_rfl))
  f172 := Tryz.func54.trans (congrArg some (by kernel_rfl))
  f205 := Tryz.func122.trans (congrArg some (by kernel_rfl))
  f243 := Tryz.func52.trans (congrArg some (by kernel_rfl))
  f244 := Tryz.func81.trans (congrArg some (by kernel_rfl))
  f245 := Tryz.func82.trans (congrArg some (by kernel_rfl))
  f246 := Tryz.func77.trans (congrArg some (by kernel_rfl))
  f247 := Tryz.func104.trans (congrArg some (by kernel_rfl))
  f279 := Tryz.func105.trans (congrArg some (by kernel_rfl))
  f280 := Tryz.func106.trans (congrArg some (by kernel_rfl))
  f281 := Tryz.func107.trans (congrArg some (by kernel_rfl))
  f282 := Tryz.func108.trans (congrArg some (by kernel_rfl))
  f283 := Tryz.func96.trans (congrArg some (by kernel_rfl))
  f284 := Tryz.func97.trans (congrArg some (by kernel_rfl))
  f285 := Tryz.func98.trans (congrArg some (by kernel_rfl))
  f286 := Tryz.func99.trans (congrArg some (by kernel_rfl))
  f287 := Tryz.func120.trans (congrArg some (by kernel_rfl))
  f316 := Tryz.func121.trans (congrArg some (by kernel_rfl))
  f317 := Tryz.func110.trans (congrArg some (by kernel_rfl))
  f318 := Tryz.func112.trans (congrArg some (by kernel_rfl))
  f319 := Tryz.func113.trans (congrArg some (by kernel_rfl))
  f320 := Tryz.func114.trans (congrArg some (by kernel_rfl))
  f321 := Tryz.func129.trans (congrArg some (by kernel_rfl))
  f322 := Tryz.func130.trans (congrArg some (by kernel_rfl))
  f337 := Tryz.func125.trans (congrArg some (by kernel_rfl))
  f338 := Tryz.func126.trans (congrArg some (by kernel_rfl))
  t0 := Tryz.underlying0
  a0 := Tryz.isAgg0
  z0 := Tryz.sizeOf0
  v0 := Tryz.zeroValue0
  t2 := Tryz.underlying2
  a2 := Tryz.isAgg2
  z2 := Tryz.sizeOf2
  v2 := Tryz.zeroValue2
  t3 := Tryz.underlying3
  a3 := Tryz.isAgg3
  z3 := Tryz.sizeOf3
  v3 := Tryz.zeroValue3
  t4 := Tryz.underlying4
  a4 := Tryz.isAgg4
  z4 := Tryz.sizeOf4
  v4 := Tryz.zeroValue4
  t5 := Tryz.underlying5
  a5 := Tryz.isAgg5
  z5 := Tryz.sizeOf5
  v5 := Tryz.zeroValue5
  t9 := Tryz.underlying9
  a9 := Tryz.isAgg9
  z9 := Tryz.sizeOf9
  v9 := Tryz.zeroValue9
  t20 := Tryz.underlying20
  a20 := Tryz.isAgg20
  z20 := Tryz.sizeOf20
  v20 := Tryz.zeroValue20
  t21 := Tryz.underlying21
  a21 := Tryz.isAgg21
  z21 := Tryz.sizeOf21
  v21 := Tryz.zeroValue21
  t37 := Tryz.underlying106
  a37 := Tryz.isAgg106
  z37 := Tryz.sizeOf106
  v37 := Tryz.zeroValue106
  t46 := Tryz.underlying180
  a46 := Tryz.isAgg180
  z46 := Tryz.sizeOf180
  v46 := Tryz.zeroValue180
  t51 := Tryz.underlying178
  a51 := Tryz.isAgg178
  z51 := Tryz.sizeOf178
  v51 := Tryz.zeroValue178
  t53 := Tryz.underlying160
  a53 := Tryz.isAgg160
  z53 := Tryz.sizeOf160
  v53 := Tryz.zeroValue160
  t75 := Tryz.underlying111
  a75 := Tryz.isAgg111
  z75 := Tryz.sizeOf111
  v75 := Tryz.zeroValue111
  t76 := Tryz.underlying112
  a76 := Tryz.isAgg112
  z76 := Tryz.sizeOf112
  v76 := Tryz.zeroValue112
  t85 := Tryz.underlying170
  a85 := Tryz.isAgg170
  z85 := Tryz.sizeOf170
  v85 := Tryz.zeroValue170
  t127 := Tryz.underlying143
  a127 := Tryz.isAgg143
  z127 := Tryz.sizeOf143
  v127 := Tryz.zeroValue143
  t143 := Tryz.underlying197
  a143 := Tryz.isAgg197
  z143 := Tryz.sizeOf197
  v143 := Tryz.zeroValue197
  t145 := Tryz.underlying199
  a145 := Tryz.isAgg199
  z145 := Tryz.sizeOf199
  v145 := Tryz.zeroValue199
  t167 := Tryz.underlying169
  a167 := Tryz.isAgg169
  z167 := Tryz.sizeOf169
  v167 := Tryz.zeroValue169
  t168 := Tryz.underlying172
  a168 := Tryz.isAgg172
  z168 := Tryz.sizeOf172
  v168 := Tryz.zeroValue172
  t171 := Tryz.underlying159
  a171 := Tryz.isAgg159
  z171 := Tryz.sizeOf159
  v171 := Tryz.zeroValue159
  t173 := Tryz.underlying163
  a173 := Tryz.isAgg163
  z173 := Tryz.sizeOf163
  v173 := Tryz.zeroValue163
  t175 := Tryz.underlying182
  a175 := Tryz.isAgg182
  z175 := Tryz.sizeOf182
  v175 := Tryz.zeroValue182
  t210 := Tryz.underlying186
  a210 := Tryz.isAgg186
  z210 := Tryz.sizeOf186
  v210 := Tryz.zeroValue186
  t212 := Tryz.underlying177
  a212 := Tryz.isAgg177
  z212 := Tryz.sizeOf177
  v212 := Tryz.zeroValue177
  t213 := Tryz.underlying179
  a213 := Tryz.isAgg179
  z213 := Tryz.sizeOf179
  t232 := Tryz.underlying200
  a232 := Tryz.isAgg200
  z232 := Tryz.sizeOf200
  v232 := Tryz.zeroValue200
  t233 := Tryz.underlying201
  a233 := Tryz.isAgg201
  z233 := Tryz.sizeOf201
  v233 := Tryz.zeroValue201
  g15 := by kernel_rfl
  g16 := by kernel_rfl
  g17 := by kernel_rfl
  g18 := by kernel_rfl
  g19 := by kernel_rfl
  t80 := Tryz.underlying114
  a80 := Tryz.isAgg114
  z80 := Tryz.sizeOf114
  v80 := Tryz.zeroValue114
  i0 := by kernel_rfl
  i2 := by kernel_rfl
  i3 := by kernel_rfl
  i4 := by kernel_rfl
  i5 := by kernel_rfl
  i9 := by kernel_rfl
  i20 := by kernel_rfl
  i21 := by kernel_rfl
  i37 := by kernel_rfl
  i46 := by kernel_rfl
  i51 := by kernel_rfl
  i53 := by kernel_rfl
  i75 := by kernel_rfl
  i76 := by kernel_rfl
  i80 := by kernel_rfl
  i85 := by kernel_rfl
  i127 := by kernel_rfl
  i143 := by kernel_rfl
  i145 := by kernel_rfl
  i167 := by kernel_rfl
  i168 := by kernel_rfl
  i171 := by kernel_rfl
  i173 := by kernel_rfl
  i175 := by kernel_rfl
  i210 := by kernel_rfl
  i212 := by kernel_rfl
  i232 := by kernel_rfl
  i233 := by kernel_rfl
  m15 := by kernel_rfl
  m16 := by kernel_rfl
  m17 := by kernel_rfl
  m18 := by kernel_rfl
  m19 := by kernel_rfl
  c0 := by kernel_rfl
  c2 := by kernel_rfl
  c3 := by kernel_rfl
  c4 := by kernel_rfl
  c5 := by kernel_rfl
  c9 := by kernel_rfl
  c20 := by kernel_rfl
  c21 := by kernel_rfl
  c37 := by kernel_rfl
  c46 := by kernel_rfl
  c51 := by kernel_rfl
  c53 := by kernel_rfl
  c75 := by kernel_rfl
  c76 := by kernel_rfl
  c80 := by kernel_rfl
  c85 := by kernel_rfl
  c127 := by kernel_rfl
  c143 := by kernel_rfl
  c145 := by kernel_rfl
  c167 := by kernel_rfl
  c168 := by kernel_rfl
  c171 := by kernel_rfl
  c173 := by kernel_rfl
  c175 := by kernel_rfl
  c210 := by kernel_rfl
  c212 := by kernel_rfl
  c213 := by kernel_rfl
  c232 := by kernel_rfl
  c233 := by kernel_rfl }
open Go.RowKit in
/-- strconv.Atoi, AT EVERY STRING OF AT MOST 18 BYTES THAT IS NO DECIMAL NUMERAL (the empty one too): 0, AND AN ERROR THAT IS NOT nil: a *NumError in a new block N: {Func: "Atoi", Num: s's bytes, Err: what the variable ErrSyntax holds}. Of what was there nothing has turned. (LAID: no walk: one application.) -/
theorem Tryz.strconv_Atoi_err (s : ByteArray) (hl : s.size ≤ 18) (h : Lib.atoi s.data.toList = none) (ev : Value) (w : World) (hv : w.cell? ⟨2, 0, none⟩ = some ev) (hev : ev = .nilIface ∨ ∃ te pe, ev = .iface te pe) :
    Calls Tryz.prog 54 #[.string s] w fun e w' => ∃ N, e = .returned (.tuple #[.int .i64 0, .iface 172 (.pointer (some ⟨N, 0, none⟩))]) ∧ w.heap.size ≤ N ∧ w'.heap[N]? = some (.cells #[.string ⟨#[65, 116, 111, 105]⟩, .string s, ev] 186 (0, 0)) ∧ Below w.heap.size w w' := Any.strconv_Atoi_err Tryz.laysC172 s hl h ev w hv hev
def Tryz.lays146_ren : Go.Shelf.Ren := ⟨fun | 146 => 22 | 221 => 53 | 268 => 78 | 138 => 79 | 143 => 80 | 195 => 100 | 197 => 101 | 218 => 102 | 219 => 103 | 260 => 115 | 217 => 116 | 225 => 117 | 224 => 118 | 267 => 119 | 266 => 127 | 314 => 128 | n => n, fun | 9 => 9 | 31 => 58 | 3 => 3 | 4 => 4 | 0 => 0 | 105 => 166 | 21 => 21 | 5 => 5 | 46 => 180 | 119 => 190 | 139 => 193 | 138 => 192 | 146 => 194 | 51 => 178 | n => n, fun | 1 => 0 | 3 => 4 | 4 => 5 | n => n⟩
theorem Tryz.lays146 : Go.Proofs.Lays.n146 Tryz.prog Tryz.lays146_ren := {
  mixed := by kernel_rfl
  f138 := Tryz.func79.trans (congrArg some (by kernel_rfl))
  f143 := Tryz.func80.trans (congrArg some (by kernel_rfl))
  f146 := Tryz.func22.trans (congrArg some (by kernel_rfl))
  f195 := Tryz.func100.trans (congrArg some (by kernel_rfl))
  f197 := Tryz.func101.trans (congrArg some (by kernel_rfl))
  f217 := Tryz.func116.trans (congrArg some (by kernel_rfl))
  f218 := Tryz.func102.trans (congrArg some (by kernel_rfl))
  f219 := Tryz.func103.trans (congrArg some (by kernel_rfl))
  f221 := Tryz.func53.trans (congrArg some (by kernel_rfl))
  f224 := Tryz.func118.trans (congrArg some (by kernel_rfl))
  f225 := Tryz.func117.trans (congrArg some (by kernel_rfl))
  f260 := Tryz.func115.trans (congrArg some (by kernel_rfl))
  f266 := Tryz.func127.trans (congrArg some (by kernel_rfl))
  f267 := Tryz.func119.trans (congrArg some (by kernel_rfl))
  f268 := Tryz.func78.trans (congrArg some (by kernel_rfl))
  f314 := Tryz.func128.trans (congrArg some (by kernel_rfl))
  t0 := Tryz.underlying0
  a0 := Tryz.isAgg0
  z0 := Tryz.sizeOf0
  v0 := Tryz.zeroValue0
  t3 := Tryz.underlying3
  a3 := Tryz.isAgg3
  z3 := Tryz.sizeOf3
  v3 := Tryz.zeroValue3
  t4 := Tryz.underlying4
  a4 := Tryz.isAgg4
  z4 := Tryz.sizeOf4
  v4 := Tryz.zeroValue4
  t5 := Tryz.underlying5
  a5 := Tryz.isAgg5
  z5 := Tryz.sizeOf5
  v5 := Tryz.zeroValue5
  t9 := Tryz.underlying9
  a9 := Tryz.isAgg9
  z9 := Tryz.sizeOf9
  v9 := Tryz.zeroValue9
  t21 := Tryz.underlying21
  a21 := Tryz.isAgg21
  z21 := Tryz.sizeOf21
  v21 := Tryz.zeroValue21
  t31 := Tryz.underlying58
  a31 := Tryz.isAgg58
  z31 := Tryz.sizeOf58
  v31 := Tryz.zeroValue58
  t46 := Tryz.underlying180
  a46 := Tryz.isAgg180
  z46 := Tryz.sizeOf180
  v46 := Tryz.zeroValue180
  t51 := Tryz.underlying178
  a51 := Tryz.isAgg178
  z51 := Tryz.sizeOf178
  v51 := Tryz.zeroValue178
  t105 := Tryz.underlying166
  a105 := Tryz.isAgg166
  z105 := Tryz.sizeOf166
  v105 := Tryz.zeroValue166
  t119 := Tryz.underlying190
  a119 := Tryz.isAgg190
  z119 := Tryz.sizeOf190
  t138 := Tryz.underlying192
  a138 := Tryz.isAgg192
  z138 := Tryz.sizeOf192
  v138 := Tryz.zeroValue192
  t139 := Tryz.underlying193
  a139 := Tryz.isAgg193
  z139 := Tryz.sizeOf193
  v139 := Tryz.zeroValue193
  t146 := Tryz.underlying194
  a146 := Tryz.isAgg194
  z146 := Tryz.sizeOf194
  v146 := Tryz.zeroValue194
  g1 := by kernel_rfl
  g3 := by kernel_rfl
  g4 := by kernel_rfl }
open Go.RowKit Go.Lib in
/-- strings.Split. (LAID: no walk: one application.) -/
theorem Tryz.strings_Split (s sep : ByteArray) (m : Int) (w : World) (hs : s.size < 4294967281) (hm : w.cell? ⟨0, 0, none⟩ = some (.int .i64 m)) (h1 : 1 ≤ sep.size) :
    Calls Tryz.prog 22 #[.string s, .string sep] w fun e w' =>
      e = .returned (.slice (some ⟨w.heap.size, 0, none⟩) (Lib.countB s sep + 1) (Lib.countB s sep + 1)) ∧ w' = w.alloc (.cells ((Lib.splitB sep 0 (Lib.countB s sep) s).map Value.string).toArray 9) := Any.strings_Split Tryz.lays146 (by kernel_rfl) s sep m w hs hm h1
def Tryz.laysM146_ren : Go.Shelf.Ren := ⟨fun | 146 => 22 | 221 => 53 | 268 => 78 | 138 => 79 | 143 => 80 | 195 => 100 | 197 => 101 | 218 => 102 | 219 => 103 | 260 => 115 | 217 => 116 | 225 => 117 | 224 => 118 | 267 => 119 | 266 => 127 | 314 => 128 | n => n, fun | 9 => 9 | 31 => 58 | 3 => 3 | 4 => 4 | 0 => 0 | 105 => 166 | 21 => 21 | 5 => 5 | 46 => 180 | 119 => 190 | 139 => 193 | 138 => 192 | 146 => 194 | 51 => 178 | n => n, fun | 1 => 0 | 3 => 4 | 4 => 5 | n => n⟩
theorem Tryz.laysM146 : Go.Proofs.LaysM.n146 Tryz.prog Tryz.laysM146_ren := {
  mixed := by kernel_rfl
  f138 := Tryz.func79.trans (congrArg some (by kernel_rfl))
  f143 := Tryz.func80.trans (congrArg some (by kernel_rfl))
  f146 := Tryz.func22.trans (congrArg some (by kernel_rfl))
  f195 := Tryz.func100.trans (congrArg some (by kernel_rfl))
  f197 := Tryz.func101.trans (congrArg some (by kernel_rfl))
  f217 := Tryz.func116.trans (congrArg some (by kernel_rfl))
  f218 := Tryz.func102.trans (congrArg some (by kernel_rfl))
  f219 := Tryz.func103.trans (congrArg some (by kernel_rfl))
  f221 := Tryz.func53.trans (congrArg some (by kernel_rfl))
  f224 := Tryz.func118.trans (congrArg some (by kernel_rfl))
  f225 := Tryz.func117.trans (congrArg some (by kernel_rfl))
  f260 := Tryz.func115.trans (congrArg some (by kernel_rfl))
  f266 := Tryz.func127.trans (congrArg some (by kernel_rfl))
  f267 := Tryz.func119.trans (congrArg some (by kernel_rfl))
  f268 := Tryz.func78.trans (congrArg some (by kernel_rfl))
  f314 := Tryz.func128.trans (congrArg some (by kernel_rfl))
  t0 := Tryz.underlying0
  a0 := Tryz.isAgg0
  z0 := Tryz.sizeOf0
  v0 := Tryz.zeroValue0
  t3 := Tryz.underlying3
  a3 := Tryz.isAgg3
  z3 := Tryz.sizeOf3
  v3 := Tryz.zeroValue3
  t4 := Tryz.underlying4
  a4 := Tryz.isAgg4
  z4 := Tryz.sizeOf4
  v4 := Tryz.zeroValue4
  t5 := Tryz.underlying5
  a5 := Tryz.isAgg5
  z5 := Tryz.sizeOf5
  v5 := Tryz.zeroValue5
  t9 := Tryz.underlying9
  a9 := Tryz.isAgg9
  z9 := Tryz.sizeOf9
  v9 := Tryz.zeroValue9
  t21 := Tryz.underlying21
  a21 := Tryz.isAgg21
  z21 := Tryz.sizeOf21
  v21 := Tryz.zeroValue21
  t31 := Tryz.underlying58
  a31 := Tryz.isAgg58
  z31 := Tryz.sizeOf58
  v31 := Tryz.zeroValue58
  t46 := Tryz.underlying180
  a46 := Tryz.isAgg180
  z46 := Tryz.sizeOf180
  v46 := Tryz.zeroValue180
  t51 := Tryz.underlying178
  a51 := Tryz.isAgg178
  z51 := Tryz.sizeOf178
  v51 := Tryz.zeroValue178
  t105 := Tryz.underlying166
  a105 := Tryz.isAgg166
  z105 := Tryz.sizeOf166
  v105 := Tryz.zeroValue166
  t119 := Tryz.underlying190
  a119 := Tryz.isAgg190
  z119 := Tryz.sizeOf190
  t138 := Tryz.underlying192
  a138 := Tryz.isAgg192
  z138 := Tryz.sizeOf192
  v138 := Tryz.zeroValue192
  t139 := Tryz.underlying193
  a139 := Tryz.isAgg193
  z139 := Tryz.sizeOf193
  v139 := Tryz.zeroValue193
  t146 := Tryz.underlying194
  a146 := Tryz.isAgg194
  z146 := Tryz.sizeOf194
  v146 := Tryz.zeroValue194
  g1 := by kernel_rfl
  g3 := by kernel_rfl
  g4 := by kernel_rfl
  i0 := by kernel_rfl
  i3 := by kernel_rfl
  i4 := by kernel_rfl
  i5 := by kernel_rfl
  i9 := by kernel_rfl
  i21 := by kernel_rfl
  i31 := by kernel_rfl
  i46 := by kernel_rfl
  i51 := by kernel_rfl
  i105 := by kernel_rfl
  i138 := by kernel_rfl
  i139 := by kernel_rfl
  i146 := by kernel_rfl
  m1 := by kernel_rfl
  s1_3 := fun w h => Go.Proofs.cell_of_shapedOpen_int (zero := #[.int .i64 0]) (t := 3) h (of_decide_eq_true (by kernel_rfl)) (by kernel_rfl) rfl (by kernel_rfl) (by kernel_rfl) Tryz.underlying3
  m3 := by kernel_rfl
  m4 := by kernel_rfl }
end Go.Proofs

/- A call that gives back what it was handed (a copy). -/
namespace Go.Abs
/-- Data are laid as they are. -/
def layC : List D → Heap → (List Value → Heap → Prop) → Prop
  | [], H, k => k [] H
  | .nil :: r, H, k => layC r H fun vs H' => k (.slice none 0 0 :: vs) H'
  | .sl n es cs :: r, H, k => layC r (H.new (.sym cs true es)) fun vs H' => k (.slice (some ⟨H.next, 0, none⟩) n n :: vs) H'
  | .val v :: r, H, k => match v with
    | .agg _ => False
    | v => layC r H fun vs H' => k (v :: vs) H'
  | .agg _ :: _, _, _ => False
def layV : List D → Heap → (List Value → Heap → Prop) → Prop
  | [], H, k => k [] H
  | .agg ds :: r, H, k => layC ds H fun vs H1 => layV r H1 fun us H2 => k (.agg vs.toArray :: us) H2
  | d :: r, H, k => layC [d] H fun vs H1 => match vs with
    | [v] => layV r H1 fun us H2 => k (v :: us) H2
    | _ => False
/-- A call whose result is known by the shape of what it was handed. -/
def wpFix (C : FuncId → List D → List D → Prop) (g : FuncId) (fix : List D → Option (List D)) (args : Array Value) (H : Heap) (k : Value → Heap → Prop) : Prop :=
  readVals H args.toList fun ds => match fix ds with
    | some rs => Says C g ds rs ∧ layV rs H fun vs H' => k (tupleOf vs) H'
    | none => False
end Go.Abs

/- A call that gives back what it was handed: it holds. -/
namespace Go.Abs
open Go.RowKit
variable {P : Program} {H : Heap}
theorem layC_out : ∀ (ds : List D) {H : Heap} {k : List Value → Heap → Prop}, layC ds H k → ∃ vs H', LaidC H ds vs H' ∧ k vs H'
  | [], H, k, h => ⟨_, _, .nil H, h⟩
  | .nil :: r, H, k, h => by
    obtain ⟨vs, H', h1, h2⟩ := layC_out r h
    exact ⟨_, _, .nilS h1, h2⟩
  | .sl n es cs :: r, H, k, h => by
    obtain ⟨vs, H', h1, h2⟩ := layC_out r h
    exact ⟨_, _, .sl n es cs h1, h2⟩
  | .val v :: r, H, k, h => by
    unfold layC at h
    split at h
    · cases h
    · rename_i hv
      obtain ⟨vs, H', h1, h2⟩ := layC_out r h
      exact ⟨_, _, .val _ (fun cs e => hv cs e) h1, h2⟩
  | .agg _ :: _, H, k, h => by cases h
theorem layV_out : ∀ (ds : List D) {H : Heap} {k : List Value → Heap → Prop}, layV ds H k → ∃ vs H', LaidV H ds vs H' ∧ k vs H'
  | [], H, k, h => ⟨_, _, .nil H, h⟩
  | d :: r, H, k, h => by
    unfold layV at h
    split at h
    · rename_i e; cases e
    · rename_i e; cases e
      obtain ⟨vs, H1, h1, h⟩ := layC_out _ h
      obtain ⟨us, H2, h2, h3⟩ := layV_out _ h
      exact ⟨_, _, .agg h1 h2, h3⟩
    · rename_i e; cases e
      obtain ⟨vs, H1, h1, h⟩ := layC_out _ h
      split at h
      · obtain ⟨us, H2, h2, h3⟩ := layV_out _ h
        exact ⟨_, _, .one h1 h2, h3⟩
      · cases h
theorem wpFix_call {C : FuncId → List D → List D → Prop} (hC : ∀ f ds rs, C f ds rs → Con P f ds rs) {f : FuncId} {fix : List D → Option (List D)} {args : Array Value} {k : Value → Heap → Prop} (hk : wpFix C f fix args H k) : CallH P f args H k := by
  intro w0 ρ w args' n g ha
  obtain ⟨ds, hr, hk⟩ := readVals_out g _ ha hk
  split at hk
  · rename_i rs _
    obtain ⟨hs, hk⟩ := hk
    obtain ⟨vs, H', hl, hk⟩ := layV_out rs hk
    refine callsIn_wide.2 ((hC f ds rs hs.out w args' g.good hr).mono ?_)
    rintro e w' ⟨⟨vs', u, rfl, hg⟩, hb⟩
    obtain ⟨ρ', g', l', e', _⟩ := laidV_sound hl (g.grow hb) g.below.size (fun i m hm => .inl (g.own i m hm).1) hg
    exact ⟨_, H', ρ', _, hk, rfl, tupleOf_R l', g', e'⟩
  · exact hk.elim
end Go.Abs

/- The evaluator with a table: calls whose outcome on some data is known are not entered. -/
namespace Go.Abs
open Go.RowKit
variable {P : Program} {ρ : Ren} {w0 : Start P} {w : World} {H : Heap}

/-! ### Data of values, computed -/
def readCO (H : Heap) : List Value → Option (List D)
  | [] => some []
  | v :: r =>
    match v with
    | .slice none 0 0 => (readCO H r).map (.nil :: ·)
    | .slice (some ⟨i, o, none⟩) len _ =>
      match H.get i with
      | some (.sym cs _ es) => if o + len * es ≤ cs.length then (readCO H r).map (.sl len es ((cs.drop o).take (len * es)) :: ·) else none
      | some (.cells cs _ _ es) => if o + len * es ≤ cs.length then (if ((cs.drop o).take (len * es)).all cellP then (readCO H r).map (.sl len es ((cs.drop o).take (len * es)) :: ·) else none) else none
      | _ => none
    | v => if plain 8 v then (readCO H r).map (.val v :: ·) else none
def readVO (H : Heap) : List Value → Option (List D)
  | [] => some []
  | .agg cs :: r => (readCO H cs.toList).bind fun ds => (readVO H r).map (.agg ds :: ·)
  | v :: r => (readCO H [v]).bind fun ds => (readVO H r).map (ds ++ ·)
theorem readCO_ok : ∀ {l : List Value} {ds : List D}, readCO H l = some ds → ∀ k : List D → Prop, k ds → readCells H l k
  | [], ds, h, k, hk => by
    simp only [readCO, Option.some.injEq] at h; subst h; exact hk
  | v :: r, ds, h, k, hk => by
    unfold readCO at h
    unfold readCells
    split at h
    · obtain ⟨x, hx, rfl⟩ := Option.map_eq_some_iff.1 h
      exact readCO_ok hx _ hk
    · simp only
      split at h
      · rename_i hg
        simp only [hg]
        split at h
        · rename_i hle
          obtain ⟨x, hx, rfl⟩ := Option.map_eq_some_iff.1 h
          exact bcase_intro (fun _ => readCO_ok hx _ hk) (fun hf => absurd hle (of_decide_eq_false hf))
        · cases h
      · rename_i hg
        simp only [hg]
        split at h
        · rename_i hle
          split at h
          · rename_i hall
            obtain ⟨x, hx, rfl⟩ := Option.map_eq_some_iff.1 h
            exact bcase_intro (fun _ => bcase_intro (fun _ => readCO_ok hx _ hk) (fun hf => by rw [hall] at hf; cases hf)) (fun hf => absurd hle (of_decide_eq_false hf))
          · cases h
        · cases h
      · cases h
    · rename_i h1 h2
      split
      · exact absurd rfl h1
      · exact absurd rfl (h2 _ _ _ _)
      · split at h
        · rename_i hp
          obtain ⟨x, hx, rfl⟩ := Option.map_eq_some_iff.1 h
          rw [if_pos hp]
          exact readCO_ok hx _ hk
        · cases h
theorem readVO_ok : ∀ {l : List Value} {ds : List D}, readVO H l = some ds → ∀ k : List D → Prop, k ds → readVals H l k
  | [], ds, h, k, hk => by
    simp only [readVO, Option.some.injEq] at h; subst h; exact hk
  | v :: r, ds, h, k, hk => by
    unfold readVO at h
    unfold readVals
    split at h
    · rename_i e; cases e
    · rename_i e; cases e
      obtain ⟨x, hx, h⟩ := Option.bind_eq_some_iff.1 h
      obtain ⟨y, hy, rfl⟩ := Option.map_eq_some_iff.1 h
      exact readCO_ok hx _ (readVO_ok hy _ hk)
    · rename_i h1 e; cases e
      obtain ⟨x, hx, h⟩ := Option.bind_eq_some_iff.1 h
      obtain ⟨y, hy, rfl⟩ := Option.map_eq_some_iff.1 h
      split
      · rename_i e; cases e
      · rename_i e; cases e; exact absurd rfl (h1 _)
      · rename_i e; cases e
        exact readCO_ok hx _ (readVO_ok hy _ hk)

/-! ### Data laid, computed -/
def layCO : List D → Heap → Option (List Value × Heap)
  | [], H => some ([], H)
  | .nil :: r, H => (layCO r H).map fun x => (.slice none 0 0 :: x.1, x.2)
  | .sl n es cs :: r, H => (layCO r (H.new (.sym cs true es))).map fun x => (.slice (some ⟨H.next, 0, none⟩) n n :: x.1, x.2)
  | .val v :: r, H => match v with
    | .agg _ => none
    | v => (layCO r H).map fun x => (v :: x.1, x.2)
  | .agg _ :: _, _ => none
def layVO : List D → Heap → Option (List Value × Heap)
  | [], H => some ([], H)
  | .agg ds :: r, H => (layCO ds H).bind fun x => (layVO r x.2).map fun y => (.agg x.1.toArray :: y.1, y.2)
  | d :: r, H => (layCO [d] H).bind fun x => match x.1 with
    | [v] => (layVO r x.2).map fun y => (v :: y.1, y.2)
    | _ => none
theorem layCO_ok : ∀ {ds : List D} {H : Heap} {x : List Value × Heap}, layCO ds H = some x → ∀ k : List Value → Heap → Prop, k x.1 x.2 → layC ds H k
  | [], H, x, h, k, hk => by
    simp only [layCO, Option.some.injEq] at h; subst h; exact hk
  | .nil :: r, H, x, h, k, hk => by
    obtain ⟨y, hy, rfl⟩ := Option.map_eq_some_iff.1 h
    exact layCO_ok hy _ hk
  | .sl n es cs :: r, H, x, h, k, hk => by
    obtain ⟨y, hy, rfl⟩ := Option.map_eq_some_iff.1 h
    exact layCO_ok hy _ hk
  | .val v :: r, H, x, h, k, hk => by
    unfold layCO at h
    unfold layC
    split at h
    · cases h
    · rename_i hv
      obtain ⟨y, hy, rfl⟩ := Option.map_eq_some_iff.1 h
      first
        | exact layCO_ok hy _ hk
        | (split
           · exact absurd rfl (hv _)
           · exact layCO_ok hy _ hk)
  | .agg _ :: _, H, x, h, k, hk => by cases h
theorem layVO_ok : ∀ {ds : List D} {H : Heap} {x : List Value × Heap}, layVO ds H = some x → ∀ k : List Value → Heap → Prop, k x.1 x.2 → layV ds H k
  | [], H, x, h, k, hk => by
    simp only [layVO, Option.some.injEq] at h; subst h; exact hk
  | d :: r, H, x, h, k, hk => by
    unfold layVO at h
    unfold layV
    split at h
    · rename_i e; cases e
    · rename_i e; cases e
      obtain ⟨y, hy, h⟩ := Option.bind_eq_some_iff.1 h
      obtain ⟨z, hz, rfl⟩ := Option.map_eq_some_iff.1 h
      exact layCO_ok hy _ (layVO_ok hz _ hk)
    · rename_i h1 e; cases e
      obtain ⟨y, hy, h⟩ := Option.bind_eq_some_iff.1 h
      split at h
      · rename_i he
        obtain ⟨z, hz, rfl⟩ := Option.map_eq_some_iff.1 h
        split
        · rename_i e; cases e
        · rename_i e; cases e; exact absurd rfl (h1 _)
        · rename_i e; cases e
          refine layCO_ok hy _ ?_
          simp only [he]
          exact layVO_ok hz _ hk
      · cases h

/-! ### Data given, computed -/
def giveCO (H : Heap) : List Nat → List Value → Option (List Nat × List D)
  | used, [] => some (used, [])
  | used, v :: r =>
    match v with
    | .slice none 0 0 => (giveCO H used r).map fun x => (x.1, .nil :: x.2)
    | .slice (some ⟨i, 0, none⟩) len cap =>
      if gbase ≤ i ∧ used.contains i = false then
        match H.get i with
        | some (.sym cs true es) => if len = cap ∧ cs.length = len * es then (giveCO H (i :: used) r).map fun x => (x.1, .sl len es cs :: x.2) else none
        | some (.cells cs _ _ es) => if len = cap ∧ cs.length = len * es then (if cs.all cellP then (giveCO H (i :: used) r).map fun x => (x.1, .sl len es cs :: x.2) else none) else none
        | _ => none
      else none
    | v => if plain 8 v then (giveCO H used r).map fun x => (x.1, .val v :: x.2) else none
def giveVO (H : Heap) : List Nat → List Value → Option (List D)
  | _, [] => some []
  | used, .agg cs :: r => (giveCO H used cs.toList).bind fun x => (giveVO H x.1 r).map (.agg x.2 :: ·)
  | used, v :: r => (giveCO H used [v]).bind fun x => (giveVO H x.1 r).map (x.2 ++ ·)
def giveO (v : Value) (H : Heap) : Option (List D) :=
  match v with
  | .tuple vs => if vs.size = 1 then none else giveVO H [] vs.toList
  | v => giveVO H [] [v]
theorem giveCO_ok : ∀ {l : List Value} {used : List Nat} {x : List Nat × List D}, giveCO H used l = some x → ∀ k : List Nat → List D → Prop, k x.1 x.2 → giveCells H used l k
  | [], used, x, h, k, hk => by
    simp only [giveCO, Option.some.injEq] at h; subst h; exact hk
  | v :: r, used, x, h, k, hk => by
    unfold giveCO at h
    unfold giveCells
    split at h
    · obtain ⟨y, hy, rfl⟩ := Option.map_eq_some_iff.1 h
      exact giveCO_ok hy _ hk
    · simp only
      split at h
      · rename_i hc
        rw [if_pos hc]
        split at h
        · rename_i hg
          simp only [hg]
          split at h
          · rename_i hl
            obtain ⟨y, hy, rfl⟩ := Option.map_eq_some_iff.1 h
            exact ⟨hl, giveCO_ok hy _ hk⟩
          · cases h
        · rename_i hg
          simp only [hg]
          split at h
          · rename_i hl
            split at h
            · rename_i hall
              obtain ⟨y, hy, rfl⟩ := Option.map_eq_some_iff.1 h
              exact ⟨hl, bcase_intro (fun _ => giveCO_ok hy _ hk) (fun hf => by rw [hall] at hf; cases hf)⟩
            · cases h
          · cases h
        · cases h
      · cases h
    · rename_i h1 h2
      split
      · exact absurd rfl h1
      · exact absurd rfl (h2 _ _ _)
      · split at h
        · rename_i hp
          obtain ⟨y, hy, rfl⟩ := Option.map_eq_some_iff.1 h
          rw [if_pos hp]
          exact giveCO_ok hy _ hk
        · cases h
theorem giveVO_ok : ∀ {l : List Value} {used : List Nat} {ds : List D}, giveVO H used l = some ds → ∀ k : List D → Prop, k ds → giveVals H used l k
  | [], used, ds, h, k, hk => by
    simp only [giveVO, Option.some.injEq] at h; subst h; exact hk
  | v :: r, used, ds, h, k, hk => by
    unfold giveVO at h
    unfold giveVals
    split at h
    · rename_i e; cases e
    · rename_i e; cases e
      obtain ⟨x, hx, h⟩ := Option.bind_eq_some_iff.1 h
      obtain ⟨y, hy, rfl⟩ := Option.map_eq_some_iff.1 h
      exact giveCO_ok hx _ (giveVO_ok hy _ hk)
    · rename_i h1 e; cases e
      obtain ⟨x, hx, h⟩ := Option.bind_eq_some_iff.1 h
      obtain ⟨y, hy, rfl⟩ := Option.map_eq_some_iff.1 h
      split
      · rename_i e; cases e
      · rename_i e; cases e; exact absurd rfl (h1 _)
      · rename_i e; cases e
        exact giveCO_ok hx _ (giveVO_ok hy _ hk)
theorem giveO_ok {v : Value} {ds : List D} (h : giveO v H = some ds) : dataK (· = ds) v H := by
  unfold giveO at h
  unfold dataK
  split at h
  · split at h
    · cases h
    · rename_i hs
      simp only [if_neg hs]
      exact giveVO_ok h _ rfl
  · rename_i hn
    split
    · exact absurd rfl (hn _)
    · exact giveVO_ok h _ rfl

/-! ### Data compared -/
def cEq : Value → Value → Bool
  | .int j a, .int k b => j == k && a == b
  | .bool a, .bool b => a == b
  | .string a, .string b => a.data.toList == b.data.toList
  | _, _ => false
def csEq : List Value → List Value → Bool
  | [], [] => true
  | a :: xs, b :: bs => cEq a b && csEq xs bs
  | _, _ => false
def d1Eq : D → D → Bool
  | .nil, .nil => true
  | .val a, .val b => cEq a b
  | .sl n es cs, .sl m fs bs => n == m && es == fs && csEq cs bs
  | _, _ => false
def d2Eq : List D → List D → Bool
  | [], [] => true
  | a :: xs, b :: bs => d1Eq a b && d2Eq xs bs
  | _, _ => false
def dEq : D → D → Bool
  | .agg a, .agg b => d2Eq a b
  | a, b => d1Eq a b
def dsEq : List D → List D → Bool
  | [], [] => true
  | a :: xs, b :: bs => dEq a b && dsEq xs bs
  | _, _ => false
theorem cEq_ok : ∀ {a b : Value}, cEq a b = true → a = b := by
  intro a b h
  unfold cEq at h
  split at h
  · simp only [Bool.and_eq_true, beq_iff_eq] at h; rw [h.1, h.2]
  · rw [eq_of_beq h]
  · rename_i x y
    have e := eq_of_beq h
    obtain ⟨x⟩ := x
    obtain ⟨y⟩ := y
    have : x = y := Array.ext' e
    rw [this]
  · cases h
theorem csEq_ok : ∀ {a b : List Value}, csEq a b = true → a = b
  | [], [], _ => rfl
  | a :: xs, b :: bs, h => by
    simp only [csEq, Bool.and_eq_true] at h
    rw [cEq_ok h.1, csEq_ok h.2]
  | [], _ :: _, h => by cases h
  | _ :: _, [], h => by cases h
theorem d1Eq_ok {a b : D} (h : d1Eq a b = true) : a = b := by
  unfold d1Eq at h
  split at h
  · rfl
  · rw [cEq_ok h]
  · simp only [Bool.and_eq_true, beq_iff_eq] at h
    rw [h.1.1, h.1.2, csEq_ok h.2]
  · cases h
theorem d2Eq_ok : ∀ {a b : List D}, d2Eq a b = true → a = b
  | [], [], _ => rfl
  | a :: xs, b :: bs, h => by
    simp only [d2Eq, Bool.and_eq_true] at h
    rw [d1Eq_ok h.1, d2Eq_ok h.2]
  | [], _ :: _, h => by cases h
  | _ :: _, [], h => by cases h
theorem dEq_ok {a b : D} (h : dEq a b = true) : a = b := by
  unfold dEq at h
  split at h
  · rw [d2Eq_ok h]
  · exact d1Eq_ok h
theorem dsEq_ok : ∀ {a b : List D}, dsEq a b = true → a = b
  | [], [], _ => rfl
  | a :: xs, b :: bs, h => by
    simp only [dsEq, Bool.and_eq_true] at h
    rw [dEq_ok h.1, dsEq_ok h.2]
  | [], _ :: _, h => by cases h
  | _ :: _, [], h => by cases h

/-! ### The evaluator with a table -/
abbrev Tab := FuncId → Option (List D → Option (List D))
/-- (a list of what is known) -/
def tabLook : List (List D × List D) → List D → Option (List D)
  | [], _ => none
  | p :: r, ds => if dsEq p.1 ds then some p.2 else tabLook r ds
theorem tabLook_ok : ∀ {t : List (List D × List D)} {ds rs : List D}, tabLook t ds = some rs → (ds, rs) ∈ t
  | [], _, _, h => by cases h
  | p :: r, ds, rs, h => by
    unfold tabLook at h
    split at h
    · rename_i he
      simp only [Option.some.injEq] at h
      rw [← dsEq_ok he, ← h]
      exact List.mem_cons_self ..
    · exact List.mem_cons_of_mem _ (tabLook_ok h)
def tabCall (t : List D → Option (List D)) (args : Array Value) (H : Heap) : Option (Value × Heap) :=
  (readVO H args.toList).bind fun ds => (t ds).bind fun rs => (layVO rs H).map fun x => (tupleOf x.1, x.2)
def evalT (P : Program) (tab : Tab) : Nat → Self
  | 0 => ⟨fun _ _ _ => none, fun _ _ _ _ => none⟩
  | n + 1 => ⟨fun f args H => match tab f with | none => callBody P (evalT P tab n) f args H | some t => tabCall t args H, fun round c A H => codeA P (evalT P tab n) round c A H⟩
def TabOK (P : Program) (tab : Tab) : Prop := ∀ f t, tab f = some t → ∀ ds rs, t ds = some rs → Con P f ds rs
theorem tabCall_sound {f : FuncId} {t : List D → Option (List D)} (ht : ∀ ds rs, t ds = some rs → Con P f ds rs) {args : Array Value} {v : Value} {H' : Heap} (h : tabCall t args H = some (v, H')) : CallH P f args H (fun u K => u = v ∧ K = H') := by
  obtain ⟨ds, h1, h⟩ := Option.bind_eq_some_iff.1 h
  obtain ⟨rs, h2, h⟩ := Option.bind_eq_some_iff.1 h
  obtain ⟨x, h3, h⟩ := Option.map_eq_some_iff.1 h
  simp only [Prod.mk.injEq] at h
  obtain ⟨rfl, rfl⟩ := h
  refine wpFix_call (C := fun g ds rs => g = f ∧ t ds = some rs ∨ Con P g ds rs) (fun g ds rs hc => ?_) (fix := t) ?_
  · rcases hc with ⟨rfl, hm⟩ | hc
    · exact ht _ _ hm
    · exact hc
  · unfold wpFix
    refine readVO_ok h1 _ ?_
    simp only [h2]
    exact ⟨⟨.inl ⟨rfl, h2⟩⟩, layVO_ok h3 _ ⟨rfl, rfl⟩⟩
theorem evalT_sound {tab : Tab} (htab : TabOK P tab) (hmix : P.follows .mixedOrders = true) : ∀ n, SelfS P w0 (evalT P tab n)
  | 0 => ⟨fun n _ _ h => by simp [evalT] at h, fun n _ _ _ h => by simp [evalT] at h, fun n _ _ _ h => by simp [evalT] at h⟩
  | k + 1 => ⟨fun {ρ H w f args args' v H'} n g ha h => by
      simp only [evalT] at h
      split at h
      · exact callBody_sound (evalT_sound htab hmix k) g n ha h
      · rename_i t ht
        refine (tabCall_sound (htab f t ht) h w0 ρ w args' n g ha).mono ?_
        rintro e w' ⟨u, K, ρ', v', ⟨rfl, rfl⟩, h1, h2, h3, h4⟩
        exact ⟨ρ', v', h1, h2, h3, h4⟩, fun n g rr ra h => codeA_sound (evalT_sound htab hmix k) hmix n _ g rr ra h,
      fun n g rr ra h => loopIn_once (loop_body (evalT_sound htab hmix k) n _ (fun g rr ra h => codeA_sound (evalT_sound htab hmix k) hmix n _ g rr ra h) g rr ra h)⟩
/-- A call of known data is run. -/
def runOK (P : Program) (tab : Tab) (n : Nat) (f : FuncId) (ds rs : List D) (caps : Nat → Nat) : Bool :=
  match (evalT P tab n).call f (layVals caps 500 ds).1.toArray (heapOf (layVals caps 500 ds).2) with
  | some (v, H) => (match giveO v H with | some rs' => dsEq rs' rs | none => false)
  | none => false
theorem con_run {tab : Tab} (htab : TabOK P tab) (hmix : P.follows .mixedOrders = true) {n : Nat} {f : FuncId} {ds rs : List D} (hcount : countV ds ≤ 400) (h : ∀ caps, runOK P tab n f ds rs caps = true) : Con P f ds rs := by
  intro w args hgood hr
  obtain ⟨caps, ρ, hst, g, ha⟩ := lay_gam hgood hr hcount
  have h := h caps
  unfold runOK at h
  split at h
  · rename_i v H hc
    split at h
    · rename_i rs' hg
      have e := dsEq_ok h
      subst e
      refine callsIn_wide.1 (((evalT_sound htab hmix n).call 0 g (by simpa using ha) hc).mono ?_)
      rintro e w' ⟨ρ', v', rfl, hv, g', ext'⟩
      obtain ⟨vs, ds', u, rfl, h1, rfl⟩ := dataK_out g' hv (giveO_ok hg)
      exact ⟨⟨vs, u, rfl, h1⟩, g'.below.below hst⟩
    · cases h
  · cases h
end Go.Abs

/- Pairs of whole numbers as cells. -/
namespace Go.Abs
theorem bc_t {p : Prop} [Decidable p] {x y : Prop} (h : p) : bcase (decide p) x y = x := by rw [decide_eq_true h]; rfl
/-- pairs of whole numbers as cells -/
def vp : List (Int × Int) → List Value
  | [] => []
  | p :: r => .int .i64 p.1 :: .int .i64 p.2 :: vp r
@[simp] theorem vp_length : ∀ l : List (Int × Int), (vp l).length = l.length * 2
  | [] => rfl
  | p :: r => by simp only [vp, List.length_cons, vp_length r]; omega
abbrev dI (n : Int) : D := .val (.int .i64 n)
end Go.Abs

/- What a good world's variables hold, as the library's contracts ask it. -/
namespace Go.Abs
variable {P : Program} {w : World}
theorem mem_vars {name : String} {k : VarKind} {g : Nat} (hm : (name, k) ∈ wantedVars) (hg : P.globalNamed name = some g) : (g, k) ∈ varsOf P :=
  List.mem_filterMap.2 ⟨(name, k), hm, by simp [hg]⟩
theorem good_pow10 (h : GoodW P w) {g : Nat} (hg : P.globalNamed "internal/strconv.uint64pow10" = some g) : Lib.TabIs P w "internal/strconv.uint64pow10" .u64 Lib.pow10Tab := by
  obtain ⟨ty, fz, e⟩ := h _ (mem_vars (k := .tab .u64 pow10s) (by simp [wantedVars]) hg)
  simp only at e
  unfold Lib.TabIs World.var?
  rw [hg]
  simp only [Option.bind_some, e]
  rfl
theorem good_int (h : GoodW P w) {name : String} {g : Nat} (hm : (name, VarKind.int) ∈ wantedVars) (hg : P.globalNamed name = some g) : ∃ n, w.cell? ⟨g, 0, none⟩ = some (.int .i64 n) := by
  obtain ⟨c, ty, fz, n, e, hc⟩ := h _ (mem_vars hm hg)
  simp only at e
  exact ⟨n, by simp [World.cell?, e, hc]⟩
end Go.Abs

/- Strings as lists of bytes: pieces between separators, decimal numbers. -/
namespace Go.Str

/-- The string of a list of bytes. -/
abbrev bs (l : List UInt8) : ByteArray := ⟨l.toArray⟩
theorem bs_data (s : ByteArray) : bs s.data.toList = s := by cases s; simp [bs]
theorem data_bs (l : List UInt8) : (bs l).data.toList = l := by simp
theorem bs_size (l : List UInt8) : (bs l).size = l.length := by simp [ByteArray.size]
theorem bs_append (a b : List UInt8) : bs a ++ bs b = bs (a ++ b) := by
  apply ByteArray.ext
  simp [bs]
theorem bs_extract (l : List UInt8) (i j : Nat) : (bs l).extract i j = bs ((l.drop i).take (j - i)) := by
  have h := Lib.extract_data (bs l) i j
  rw [data_bs] at h
  rw [← bs_data ((bs l).extract i j), h]
theorem bs_get (l : List UInt8) (i : Nat) : (bs l)[i]? = l[i]? := by
  show (if h : i < (bs l).size then some ((bs l)[i]'h) else none) = _
  by_cases h : i < (bs l).size
  · rw [dif_pos h]
    have h2 : i < l.length := by rw [bs_size] at h; exact h
    rw [List.getElem?_eq_getElem h2]
    rfl
  · rw [dif_neg h]
    rw [bs_size] at h
    rw [List.getElem?_eq_none (by omega)]

/-! ### Pieces between separators -/
def cutA (c : UInt8) : List UInt8 → List UInt8 → List (List UInt8)
  | acc, [] => [acc]
  | acc, b :: r => if b = c then acc :: cutA c [] r else cutA c (acc ++ [b]) r
theorem cutA_miss {c : UInt8} : ∀ {l acc : List UInt8}, c ∉ l → cutA c acc l = [acc ++ l]
  | [], acc, _ => by simp [cutA]
  | b :: r, acc, h => by
    have h1 : ¬ b = c := fun e => h (by simp [e])
    rw [cutA, if_neg h1, cutA_miss (fun hm => h (List.mem_cons_of_mem _ hm))]
    simp
theorem cutA_hit {c : UInt8} : ∀ {a r acc : List UInt8}, c ∉ a → cutA c acc (a ++ c :: r) = (acc ++ a) :: cutA c [] r
  | [], r, acc, _ => by simp [cutA]
  | b :: a, r, acc, h => by
    have h1 : ¬ b = c := fun e => h (by simp [e])
    rw [List.cons_append, cutA, if_neg h1, cutA_hit (fun hm => h (List.mem_cons_of_mem _ hm))]
    simp
theorem cutA_le {c : UInt8} : ∀ {l acc : List UInt8}, ∀ x ∈ cutA c acc l, x.length ≤ acc.length + l.length
  | [], acc, x, hx => by simp [cutA] at hx; rw [hx]; simp
  | b :: r, acc, x, hx => by
    rw [cutA] at hx; split at hx
    · rcases List.mem_cons.1 hx with rfl | hx
      · omega
      · have := cutA_le x hx; simp at this ⊢; omega
    · have := cutA_le x hx; simp at this ⊢; omega
/-- the pieces of a joined list -/
theorem cutA_join {c : UInt8} : ∀ {xs : List (List UInt8)}, xs ≠ [] → (∀ x ∈ xs, c ∉ x) → cutA c [] (Lib.join xs [c]) = xs
  | [], h, _ => absurd rfl h
  | [x], _, h => by rw [Lib.join_one, cutA_miss (h x (by simp))]; simp
  | x :: y :: r, _, h => by
    have e : Lib.join (x :: y :: r) [c] = x ++ c :: Lib.join (y :: r) [c] := by
      rw [Lib.join_cons, Lib.join_cons]; simp [Lib.joinTail]
    rw [e, cutA_hit (h x (by simp)), cutA_join (by simp) (fun z hz => h z (List.mem_cons_of_mem _ hz))]
    simp
/-- a list that is joined is whole again -/
theorem join_snoc {c : UInt8} : ∀ {xs : List (List UInt8)} {y : List UInt8}, xs ≠ [] → Lib.join (xs ++ [y]) [c] = Lib.join xs [c] ++ c :: y
  | [], y, h => absurd rfl h
  | x :: r, y, _ => by rw [List.cons_append, Lib.join_cons, Lib.join_cons]; simp [Lib.joinTail]
/-- where a byte is found -/
theorem index_cases (l : List UInt8) (c : UInt8) : (Lib.index l [c] = -1 ∧ c ∉ l) ∨ ∃ a r, l = a ++ c :: r ∧ c ∉ a ∧ Lib.index l [c] = (a.length : Nat) := by
  rw [Lib.index_one]
  induction l with
  | nil => exact .inl ⟨rfl, by simp⟩
  | cons b l ih =>
    by_cases hb : b = c
    · subst hb
      exact .inr ⟨[], l, rfl, by simp, by simp [Lib.indexByte]⟩
    · rcases ih with ⟨h1, h2⟩ | ⟨a, r, rfl, h2, h3⟩
      · exact .inl ⟨by simp [Lib.indexByte, hb, h1], by simp [h2]; exact fun e => hb e.symm⟩
      · refine .inr ⟨b :: a, r, rfl, by simp [h2]; exact fun e => hb e.symm, ?_⟩
        have h4 : ((a.length : Int) == -1) = false := by rw [beq_eq_false_iff_ne]; omega
        simp only [Lib.indexByte, h3, beq_iff_eq, hb, if_false, h4, Bool.false_eq_true, List.length_cons]
        simp
/-- strings.Split at one byte -/
theorem split_one (c : UInt8) : ∀ (n : Nat) (l : List UInt8), l.length ≤ n → (Lib.splitB (bs [c]) 0 (Lib.countB (bs l) (bs [c])) (bs l)) = (cutA c [] l).map bs := by
  intro n
  induction n with
  | zero =>
    intro l hl
    obtain rfl : l = [] := List.length_eq_zero_iff.1 (by omega)
    rw [Lib.countB_miss _ _ rfl]; rfl
  | succ n ih =>
    intro l hl
    rcases index_cases l c with ⟨h1, h2⟩ | ⟨a, r, rfl, h2, h3⟩
    · have h1' : Lib.indexB (bs l) (bs [c]) = -1 := by unfold Lib.indexB; simpa [bs] using h1
      rw [Lib.countB_miss _ _ h1', Lib.splitB_zero, cutA_miss h2]; simp
    · have h3' : Lib.indexB (bs (a ++ c :: r)) (bs [c]) = (a.length : Nat) := by unfold Lib.indexB; simpa [bs] using h3
      have hs : (bs [c]).size = 1 := by rw [bs_size]; rfl
      rw [Lib.countB_hit _ _ _ (by rw [hs]; decide) h3', Nat.add_comm, Lib.splitB_hit _ _ _ _ _ h3', cutA_hit h2]
      have e1 : (bs (a ++ c :: r)).extract 0 (a.length + 0) = bs a := by rw [bs_extract]; simp
      have e2 : (bs (a ++ c :: r)).extract (a.length + (bs [c]).size) (bs (a ++ c :: r)).size = bs r := by
        rw [bs_extract, hs, bs_size]
        congr 1
        have : (a ++ c :: r).drop (a.length + 1) = r := by
          rw [← List.drop_drop]; simp
        rw [this]
        simp only [List.length_append, List.length_cons]
        rw [show a.length + (r.length + 1) - (a.length + 1) = r.length by omega, List.take_length]
      rw [e1, e2, ih r (by simp at hl; omega)]
      simp
/-! ### Numbers -/
def isDig (b : UInt8) : Bool := decide (48 ≤ b.toNat) && decide (b.toNat ≤ 57)
/-- the number of some digits, behind others -/
def numF (n : Int) (l : List UInt8) : Int := l.foldl (fun n b => 10 * n + ((b.toNat : Int) - 48)) n
theorem numF_nil (n : Int) : numF n [] = n := rfl
theorem numF_cons (n : Int) (b : UInt8) (l : List UInt8) : numF n (b :: l) = numF (10 * n + ((b.toNat : Int) - 48)) l := rfl
theorem numF_append (n : Int) (a b : List UInt8) : numF n (a ++ b) = numF (numF n a) b := by simp [numF, List.foldl_append]
/-- so many digits at the most, no zero ahead of others -/
def okNum (d : Nat) (l : List UInt8) : Bool := decide (1 ≤ l.length) && decide (l.length ≤ d) && !(decide (1 < l.length) && l.head? == some 48) && l.all isDig
/-- a number that may have a sign: (0, false) if it is none -/
def readNum (d : Nat) (l : List UInt8) : Int × Bool :=
  match l with
  | 45 :: r => if decide (1 ≤ r.length) && decide (r.length ≤ d) && !(r.head? == some 48) && r.all isDig then (-(numF 0 r), true) else (0, false)
  | l => if okNum d l then (numF 0 l, true) else (0, false)
theorem numF_ge : ∀ (l : List UInt8) (n : Int), 0 ≤ n → l.all isDig = true → 0 ≤ numF n l ∧ numF n l < (n + 1) * 10 ^ l.length
  | [], n, h, _ => by simp [numF]; omega
  | b :: r, n, h, hd => by
    simp only [List.all_cons, Bool.and_eq_true, isDig, decide_eq_true_eq] at hd
    have := numF_ge r (10 * n + ((b.toNat : Int) - 48)) (by omega) hd.2
    rw [numF_cons]
    refine ⟨this.1, Int.lt_of_lt_of_le this.2 ?_⟩
    rw [List.length_cons, Int.pow_succ]
    have hp : (0 : Int) < 10 ^ r.length := Int.pow_pos (by decide)
    have : (10 * n + ((b.toNat : Int) - 48) + 1) * 10 ^ r.length ≤ (10 * (n + 1)) * 10 ^ r.length := Int.mul_le_mul_of_nonneg_right (by omega) (Int.le_of_lt hp)
    calc _ ≤ _ := this
      _ = _ := by rw [Int.mul_comm 10 (n + 1), Int.mul_assoc, Int.mul_comm 10]
end Go.Str

/- Decimal numerals against the numbers that they spell. -/
namespace Go.Str
abbrev dec (u : Nat) : List UInt8 := Lib.decDigits u
theorem dec_small {u : Nat} (h : u < 10) : dec u = [UInt8.ofNat (48 + u)] := by unfold dec; rw [Lib.decDigits, dif_pos h]
theorem dec_big {u : Nat} (h : ¬ u < 10) : dec u = dec (u / 10) ++ [UInt8.ofNat (48 + u % 10)] := by unfold dec; rw [Lib.decDigits, dif_neg h]
theorem dig_toNat {k : Nat} (h : k < 10) : (UInt8.ofNat (48 + k)).toNat = 48 + k := by
  rw [UInt8.toNat_ofNat']; omega
theorem dec_all : ∀ (n u : Nat), u ≤ n → (dec u).all isDig = true := by
  intro n
  induction n with
  | zero => intro u h; rw [dec_small (by omega)]; simp only [List.all_cons, List.all_nil, isDig, dig_toNat (by omega : u < 10), Bool.and_true, Bool.and_eq_true, decide_eq_true_eq]; omega
  | succ n ih =>
    intro u h
    by_cases hu : u < 10
    · rw [dec_small hu]; simp only [List.all_cons, List.all_nil, isDig, dig_toNat hu, Bool.and_true, Bool.and_eq_true, decide_eq_true_eq]; omega
    · rw [dec_big hu, List.all_append, ih _ (by omega)]
      simp only [List.all_cons, List.all_nil, isDig, dig_toNat (by omega : u % 10 < 10), Bool.and_true, Bool.true_and, Bool.and_eq_true, decide_eq_true_eq]; omega
theorem dec_num : ∀ (n u : Nat), u ≤ n → numF 0 (dec u) = u := by
  intro n
  induction n with
  | zero => intro u h; rw [dec_small (by omega), numF_cons, numF_nil, dig_toNat (by omega)]; omega
  | succ n ih =>
    intro u h
    by_cases hu : u < 10
    · rw [dec_small hu, numF_cons, numF_nil, dig_toNat hu]; omega
    · rw [dec_big hu, numF_append, ih _ (by omega), numF_cons, numF_nil, dig_toNat (by omega)]; omega
theorem dec_ne : ∀ (u : Nat), 1 ≤ (dec u).length := by
  intro u
  by_cases hu : u < 10
  · rw [dec_small hu]; simp
  · rw [dec_big hu]; simp
theorem dec_head : ∀ (n u : Nat), u ≤ n → 1 ≤ u → (dec u).head? ≠ some 48 := by
  intro n
  induction n with
  | zero => intro u h1 h2; omega
  | succ n ih =>
    intro u h h1
    by_cases hu : u < 10
    · rw [dec_small hu]
      intro e
      simp only [List.head?_cons, Option.some.injEq] at e
      have := congrArg UInt8.toNat e
      rw [dig_toNat hu] at this
      have h48 : (48 : UInt8).toNat = 48 := rfl
      omega
    · rw [dec_big hu]
      have := ih (u / 10) (by omega) (by omega)
      have hl := dec_ne (u / 10)
      cases hd : dec (u / 10) with
      | nil => rw [hd] at hl; simp at hl
      | cons b r => rw [hd] at this; simpa using this
theorem dec_len : ∀ (d u : Nat), 1 ≤ d → u < 10 ^ d → (dec u).length ≤ d := by
  intro d
  induction d with
  | zero => intro u h; omega
  | succ d ih =>
    intro u _ h
    by_cases hu : u < 10
    · rw [dec_small hu]; simp
    · rw [dec_big hu]
      rw [Nat.pow_succ] at h
      have hd : 1 ≤ d := by
        rcases Nat.eq_zero_or_pos d with rfl | h'
        · simp at h; omega
        · exact h'
      have := ih (u / 10) hd (by omega)
      simp; omega
theorem ten_le_of_len {u : Nat} (h : 1 < (dec u).length) : 10 ≤ u := by
  rcases Nat.lt_or_ge u 10 with hu | hu
  · rw [dec_small hu] at h; simp at h
  · exact hu
theorem okNum_dec {d u : Nat} (h : (dec u).length ≤ d) : okNum d (dec u) = true := by
  have h1 := dec_all u u (Nat.le_refl _)
  have h2 := dec_ne u
  unfold okNum
  rw [h1]
  simp only [Bool.and_eq_true, decide_eq_true_eq, Bool.not_eq_true', Bool.and_eq_false_iff, decide_eq_false_iff_not, and_true]
  refine ⟨⟨h2, h⟩, ?_⟩
  rcases Nat.lt_or_ge 1 (dec u).length with hl | hl
  · right
    have := dec_head u u (Nat.le_refl _) (by have := ten_le_of_len hl; omega)
    simpa using this
  · left; omega
theorem okNum_inv {d : Nat} {l : List UInt8} (h : okNum d l = true) : 1 ≤ l.length ∧ l.length ≤ d ∧ (1 < l.length → l.head? ≠ some 48) ∧ l.all isDig = true := by
  unfold okNum at h
  simp only [Bool.and_eq_true, decide_eq_true_eq, Bool.not_eq_true', Bool.and_eq_false_iff, decide_eq_false_iff_not, beq_eq_false_iff_ne, ne_eq] at h
  obtain ⟨⟨⟨h1, h2⟩, h3⟩, h4⟩ := h
  exact ⟨h1, h2, fun hl => by rcases h3 with h3 | h3; omega; exact h3, h4⟩
theorem isDig_ofNat {b : UInt8} (h : isDig b = true) {k : Nat} (hk : (k : Int) = (b.toNat : Int) - 48) : UInt8.ofNat (48 + k) = b := by
  simp only [isDig, Bool.and_eq_true, decide_eq_true_eq] at h
  rw [← UInt8.toNat_inj, dig_toNat (by omega)]; omega
/-- a numeral is the numeral of its number -/
theorem dec_numF : ∀ (n : Nat) (l : List UInt8), l.length ≤ n → 1 ≤ l.length → (1 < l.length → l.head? ≠ some 48) → l.all isDig = true → dec (numF 0 l).toNat = l ∧ (l.head? ≠ some 48 → 1 ≤ numF 0 l) ∧ 0 ≤ numF 0 l := by
  intro n
  induction n with
  | zero => intro l h1 h2; omega
  | succ n ih =>
    intro l h1 h2 h3 h4
    rcases List.eq_nil_or_concat l with rfl | ⟨a, b, rfl⟩
    · simp at h2
    · simp only [List.concat_eq_append] at h1 h2 h3 h4 ⊢
      rw [List.all_append, Bool.and_eq_true] at h4
      obtain ⟨h4, h5⟩ := h4
      have h5 : isDig b = true := by simpa using h5
      have hb := h5
      simp only [isDig, Bool.and_eq_true, decide_eq_true_eq] at hb
      rw [numF_append, numF_cons, numF_nil]
      cases a with
      | nil =>
        rw [numF_nil]
        simp only [List.nil_append]
        refine ⟨?_, ?_, by omega⟩
        · rw [dec_small (by omega), isDig_ofNat h5 (by omega)]
        · intro hne
          have : b.toNat ≠ 48 := fun e => hne (by
            have : b = 48 := by rw [← UInt8.toNat_inj, e]; rfl
            rw [this]; rfl)
          omega
      | cons c r =>
        have hh : (c :: r).head? ≠ some 48 := by
          have := h3 (by simp)
          simpa using this
        obtain ⟨e1, e2, e3⟩ := ih (c :: r) (by simp at h1 ⊢; omega) (by simp) (fun _ => hh) h4
        have e2 := e2 hh
        generalize hz : numF 0 (c :: r) = z at *
        refine ⟨?_, fun _ => by omega, by omega⟩
        rw [dec_big (by omega)]
        have k1 : (10 * z + ((b.toNat : Int) - 48)).toNat / 10 = z.toNat := by omega
        have k2 : (((10 * z + ((b.toNat : Int) - 48)).toNat % 10 : Nat) : Int) = (b.toNat : Int) - 48 := by omega
        rw [k1, e1, isDig_ofNat h5 k2]
theorem dec_okNum {d : Nat} {l : List UInt8} (h : okNum d l = true) : dec (numF 0 l).toNat = l := by
  obtain ⟨h1, _, h3, h4⟩ := okNum_inv h
  exact (dec_numF _ l (Nat.le_refl _) h1 h3 h4).1
theorem numF_pos {d : Nat} {l : List UInt8} (h : okNum d l = true) : 0 ≤ numF 0 l ∧ numF 0 l < 10 ^ d := by
  obtain ⟨_, h2, _, h4⟩ := okNum_inv h
  have := numF_ge l 0 (by decide) h4
  refine ⟨this.1, Int.lt_of_lt_of_le this.2 ?_⟩
  rw [Int.zero_add, Int.one_mul]
  exact_mod_cast Nat.pow_le_pow_right (by decide) h2
/-! ### strconv.Itoa, strconv.Atoi -/
theorem itoa_nn {n : Int} (h : 0 ≤ n) : Lib.itoa n = dec n.toNat := by unfold Lib.itoa; rw [if_neg (by omega)]
theorem itoa_ng {n : Int} (h : n < 0) : Lib.itoa n = 45 :: dec n.natAbs := by unfold Lib.itoa; rw [if_pos h]
theorem decFrom_numF : ∀ (l : List UInt8) (acc : Nat), l.all isDig = true → ∃ m : Nat, Lib.decFrom acc l = some m ∧ numF acc l = m
  | [], acc, _ => ⟨acc, rfl, rfl⟩
  | b :: r, acc, h => by
    simp only [List.all_cons, Bool.and_eq_true] at h
    have hb := h.1
    simp only [isDig, Bool.and_eq_true, decide_eq_true_eq] at hb
    obtain ⟨m, h1, h2⟩ := decFrom_numF r (acc * 10 + (b.toNat - 48)) h.2
    refine ⟨m, ?_, ?_⟩
    · simp only [Lib.decFrom, Lib.digitVal, hb, and_self, if_true]; exact h1
    · rw [numF_cons, ← h2]; congr 1; omega
theorem not_sign {b : UInt8} (h : isDig b = true) : (b == 45) = false ∧ (b == 43) = false := by
  simp only [isDig, Bool.and_eq_true, decide_eq_true_eq] at h
  constructor <;> rw [beq_eq_false_iff_ne] <;> rintro rfl
  · have : (45 : UInt8).toNat = 45 := rfl
    omega
  · have : (43 : UInt8).toNat = 43 := rfl
    omega
theorem atoi_ok {d : Nat} {l : List UInt8} (h : okNum d l = true) : Lib.atoi l = some (numF 0 l) ∧ Lib.itoa (numF 0 l) = l := by
  have hd := dec_okNum h
  have hp := (numF_pos h).1
  obtain ⟨h1, _, _, h4⟩ := okNum_inv h
  refine ⟨?_, by rw [itoa_nn hp, hd]⟩
  cases l with
  | nil => simp at h1
  | cons b r =>
    have hb : isDig b = true := by simp only [List.all_cons, Bool.and_eq_true] at h4; exact h4.1
    obtain ⟨m, e1, e2⟩ := decFrom_numF (b :: r) 0 h4
    simp only [Lib.atoi, (not_sign hb).1, (not_sign hb).2, Bool.false_eq_true, if_false, Lib.decNat, List.isEmpty_cons, e1, Option.map_some]
    congr 1
    rw [← e2]; rfl
theorem itoa_ok {d : Nat} {l : List UInt8} {n : Int} (hn : 0 ≤ n) (hl : l.length ≤ d) (h : Lib.itoa n = l) : okNum d l = true := by
  rw [itoa_nn hn] at h
  subst h
  exact okNum_dec hl
/-- what is read behind the sign -/
def rdT (neg : Nat) (l : List UInt8) : Int × Bool := if (l.drop neg).all isDig then ((if neg = 1 then -(numF 0 (l.drop neg)) else numF 0 (l.drop neg)), true) else (0, false)
theorem readNum_neg {d : Nat} {r : List UInt8} : readNum d (45 :: r) = if r.length = 0 then (0, false) else if d < r.length then (0, false) else if r.head? = some 48 then (0, false) else rdT 1 (45 :: r) := by
  have e0 : readNum d (45 :: r) = if (decide (1 ≤ r.length) && decide (r.length ≤ d) && !(r.head? == some 48) && r.all isDig) = true then (-(numF 0 r), true) else (0, false) := rfl
  rw [e0]
  by_cases h1 : r.length = 0
  · rw [if_pos h1, if_neg (by simp [h1])]
  rw [if_neg h1]
  by_cases h2 : d < r.length
  · rw [if_pos h2, if_neg (by simp; omega)]
  rw [if_neg h2]
  by_cases h3 : r.head? = some 48
  · rw [if_pos h3, if_neg (by simp [h3])]
  rw [if_neg h3, decide_eq_true (by omega), decide_eq_true (by omega), beq_eq_false_iff_ne.2 h3]
  rfl
theorem readNum_pos {d : Nat} {l : List UInt8} (h0 : l.head? ≠ some 45) : readNum d l = if l.length = 0 then (0, false) else if d < l.length then (0, false) else if l.head? = some 48 ∧ 1 < l.length then (0, false) else rdT 0 l := by
  have e0 : readNum d l = if okNum d l then (numF 0 l, true) else (0, false) := by
    unfold readNum
    split
    · simp at h0
    · rfl
  rw [e0]
  by_cases h1 : l.length = 0
  · rw [if_pos h1, if_neg (by simp [okNum, h1])]
  rw [if_neg h1]
  by_cases h2 : d < l.length
  · rw [if_pos h2, if_neg (by simp [okNum]; omega)]
  rw [if_neg h2]
  by_cases h3 : l.head? = some 48 ∧ 1 < l.length
  · rw [if_pos h3, if_neg (by simp [okNum, h3])]
  rw [if_neg h3]
  have e : okNum d l = l.all isDig := by
    unfold okNum
    have : (decide (1 < l.length) && l.head? == some 48) = false := by
      rw [Bool.and_eq_false_iff, decide_eq_false_iff_not, beq_eq_false_iff_ne]
      rcases Nat.lt_or_ge 1 l.length with h | h
      · exact .inr (fun e => h3 ⟨e, h⟩)
      · exact .inl (by omega)
    rw [this, decide_eq_true (by omega), decide_eq_true (by omega)]; rfl
  rw [e]
  rfl
theorem not_all {l : List UInt8} {i : Nat} {b : UInt8} (h : l[i]? = some b) (hb : isDig b = false) : l.all isDig = false := by
  rw [List.all_eq_false]
  exact ⟨b, List.mem_of_getElem? h, by simp [hb]⟩
theorem pow10_le {k d : Nat} (h : k ≤ d) : (10 : Int) ^ k ≤ 10 ^ d := by
  have := Nat.pow_le_pow_right (n := 10) (by decide) h
  exact_mod_cast this
theorem p17 : (10 : Int) ^ 17 = 100000000000000000 := by decide
theorem p18 : (10 : Int) ^ 18 = 1000000000000000000 := by decide
theorem readNum_ok {d : Nat} {l : List UInt8} (h : okNum d l = true) : readNum d l = (numF 0 l, true) := by
  have h4 := okNum_inv h
  unfold readNum
  split
  · rename_i r
    have := h4.2.2.2
    simp only [List.all_cons, Bool.and_eq_true] at this
    exact absurd (not_sign this.1).1 (by simp)
  · rw [if_pos h]
/-- a number without a sign: nothing else is read as one that is not below naught -/
theorem readNum_no {d : Nat} {l : List UInt8} (h : okNum d l = false) : (readNum d l).2 = true → (readNum d l).1 < 0 := by
  unfold readNum
  split
  · rename_i r
    split
    · next hc =>
      intro _
      simp only [Bool.and_eq_true, decide_eq_true_eq, Bool.not_eq_true', beq_eq_false_iff_ne, ne_eq] at hc
      have := (dec_numF _ r (Nat.le_refl _) hc.1.1.1 (fun _ => hc.1.2) hc.2).2.1 hc.1.2
      show -(numF 0 r) < 0
      omega
    · intro e; cases e
  · rw [h]; intro e; cases e
theorem okNum_mem {d : Nat} {l : List UInt8} {c : UInt8} (h : okNum d l = true) (hc : isDig c = false) : c ∉ l := by
  intro hm
  have := List.all_eq_true.1 (okNum_inv h).2.2.2 c hm
  rw [hc] at this; cases this
theorem okNum_nil {d : Nat} : okNum d [] = false := by simp [okNum]
/-- two numbers with a sign between them -/
def two (c : UInt8) (d : Nat) (w : List UInt8) : Option (Int × Int) :=
  if okNum d (Lib.cut w [c]).1 && okNum d (Lib.cut w [c]).2.1 then some (numF 0 (Lib.cut w [c]).1, numF 0 (Lib.cut w [c]).2.1) else none
theorem bs_toList (l : List UInt8) : (bs l).toList = l := by rw [Lib.toList_data, data_bs]
end Go.Str

/- Strings and lists of strings as cells. -/
namespace Go.Abs
open Go.Str
abbrev str (l : List UInt8) : Value := .string (bs l)
abbrev dS (l : List UInt8) : D := .val (str l)
abbrev dB (b : Bool) : D := .val (.bool b)
/-- lists of strings as cells -/
abbrev strs (xs : List (List UInt8)) : List Value := xs.map str
abbrev dSs (xs : List (List UInt8)) : D := .sl xs.length 1 (strs xs)
theorem strs_whole (xs : List (List UInt8)) : List.take (xs.length * 1) (List.drop 0 (strs xs)) = strs xs := by simp [List.take_of_length_le]
theorem strs_at (xs : List (List UInt8)) (i : Nat) (h : i < xs.length) : At (strs xs) (0 + i * 1) 1 [str xs[i]] := by
  refine ⟨by simp; omega, ?_⟩
  rw [Nat.zero_add, Nat.mul_one, List.drop_eq_getElem_cons (by simpa using h)]
  simp
theorem atS {l : List Value} {k : Nat} {s : ByteArray} (h : At l k 1 [.string s]) {Q : ByteArray → Prop} : (∃ n : ByteArray, At l k 1 [.string n] ∧ Q n) = Q s := by
  apply propext
  constructor
  · rintro ⟨n, hn, hq⟩
    have e := hn.eq.symm.trans h.eq
    simp only [List.cons.injEq, Value.string.injEq, and_true] at e
    rw [← e]; exact hq
  · intro hq; exact ⟨s, h, hq⟩
/-- what is read of a string is what is there -/
theorem byte1 {l : List UInt8} {i : Nat} {b : UInt8} (h : l[i]? = some b) {Q : UInt8 → Prop} : (∃ x : UInt8, ByteAt (bs l) i x ∧ Q x) = Q b := by
  apply propext
  constructor
  · rintro ⟨x, hx, hq⟩
    have e := hx.out
    rw [bs_get, h] at e
    obtain rfl := Option.some.inj e
    exact hq
  · intro hq; exact ⟨b, ⟨by rw [bs_get]; exact h⟩, hq⟩
theorem take_snoc {α : Type} {l : List α} {f i : Nat} (h1 : f ≤ i) (h2 : i < l.length) : (l.drop f).take (i + 1 - f) = (l.drop f).take (i - f) ++ [l[i]] := by
  rw [show i + 1 - f = (i - f) + 1 by omega, List.take_add_one]
  congr 1
  rw [List.getElem?_drop, show f + (i - f) = i by omega, List.getElem?_eq_getElem h2]
  rfl
theorem u8_eq {b c : UInt8} (h : (b.toNat : Int) = (c.toNat : Int)) : b = c := by rw [← UInt8.toNat_inj]; omega
theorem wi1 {i n : Nat} (h : i < n) (hn : n < 4294967296) : IntKind.wrap .i64 ((i : Int) + 1) = ((i + 1 : Nat) : Int) := by rw [w64 (by omega) (by omega)]; rfl
theorem whole_le (xs : List (List UInt8)) : 0 + xs.length * 1 ≤ (strs xs).length := by simp
theorem whole_eq (xs : List (List UInt8)) : 0 + xs.length * 1 = (strs xs).length := by simp
end Go.Abs

/- The library's functions on strings, in data, by the library's own contracts. -/
namespace Go.Proofs.G5w
open Go Go.Abs Go.Proofs Go.RowKit Go.Str Go.Sort
set_option maxRecDepth 100000
theorem mixed : Tryz.prog.follows .mixedOrders = true := by kernel_rfl
abbrev C5 : FuncId → List D → List D → Prop := Con Tryz.prog
theorem vPow : Tryz.prog.globalNamed "internal/strconv.uint64pow10" = some 1 := by kernel_rfl
theorem vMax : Tryz.prog.globalNamed "internal/bytealg.MaxLen" = some 0 := by kernel_rfl
theorem hMax {w : World} (h : GoodW Tryz.prog w) : ∃ n, w.cell? ⟨0, 0, none⟩ = some (.int .i64 n) := good_int h (by simp [wantedVars]) vMax
theorem reads1 {w : World} {v : Value} {args : Array Value} (h : ReadsL w [.val v] args.toList) : args = #[v] := by
  obtain ⟨l⟩ := args
  replace h : ReadsL w [.val v] l := h
  cases h with | cons h1 t => cases t; cases h1; rfl
theorem reads2 {w : World} {u v : Value} {args : Array Value} (h : ReadsL w [.val u, .val v] args.toList) : args = #[u, v] := by
  obtain ⟨l⟩ := args
  replace h : ReadsL w [.val u, .val v] l := h
  cases h with | cons h1 t => cases t with | cons h2 t => cases t; cases h1; cases h2; rfl
theorem below_dg (w : World) (k : Nat) (os : Array Obj) : Below w.heap.size w (grow (w.drewN k) os) :=
  ⟨rfl, rfl, rfl, by simp [grow, World.drewN], fun j hj => heap_grow_old (w.drewN k) os hj⟩
/-- strconv.Itoa -/
theorem conIt (n : Int) (h0 : -9223372036854775808 ≤ n) (h1 : n ≤ 9223372036854775807) : C5 21 [dI n] [dS (Lib.itoa n)] := by
  intro w args hg hr
  rw [reads1 hr]
  refine (Tryz.strconv_Itoa n h0 h1 w (good_pow10 hg vPow)).mono ?_
  rintro e w' ⟨rfl, k, os, rfl⟩
  exact ⟨⟨[.string _], [], rfl, .cons (.val _ _ rfl) (.nil _)⟩, below_dg w k os⟩
/-- strings.Split at one byte -/
theorem conSp (l : List UInt8) (c : UInt8) (hl : l.length < 4294967281) : C5 22 [dS l, dS [c]] [dSs (cutA c [] l)] := by
  intro w args hg hr
  rw [reads2 hr]
  obtain ⟨m, hm⟩ := hMax hg
  refine (Tryz.strings_Split (bs l) (bs [c]) m w (by rw [bs_size]; exact hl) hm (by rw [bs_size]; exact Nat.le_refl _)).mono ?_
  rintro e w' ⟨rfl, rfl⟩
  have hsp := split_one c l.length l (Nat.le_refl _)
  have hlen : Lib.countB (bs l) (bs [c]) + 1 = (cutA c [] l).length := by
    have := Lib.splitB_all (bs [c]) (by rw [bs_size]; exact Nat.le_refl _) 0 _ (bs l) rfl
    rw [← this, hsp, List.length_map]
  have hcs : (Lib.splitB (bs [c]) 0 (Lib.countB (bs l) (bs [c])) (bs l)).map Value.string = strs (cutA c [] l) := by rw [hsp, List.map_map]; rfl
  rw [hlen, hcs]
  have hlen2 : (strs (cutA c [] l)).length = (cutA c [] l).length := by simp [strs]
  refine ⟨⟨[.slice _ _ _], [w.heap.size], rfl, .cons ?_ (.nil _)⟩, (Below.refl _ _).alloc (Nat.le_refl _) _⟩
  refine .sl [] _ 1 _ w.heap.size 0 _ (strs (cutA c [] l)).toArray _ (alloc_get _ _) (Nat.le_refl _) (by simp) (by simp) (Nat.le_refl _) ?_ (by simp) ?_
  · rw [hlen2]; simp [List.take_of_length_le]
  · intro v hv
    obtain ⟨x, _, rfl⟩ := List.mem_map.1 hv
    rfl
/-- strings.Join with one byte between -/
theorem conJn (xs : List (List UInt8)) (c : UInt8) (hN : xs.length ≤ 140737488355328) (hlen : (Lib.join xs [c]).length ≤ 140737488355328) : C5 20 [dSs xs, dS [c]] [dS (Lib.join xs [c])] := by
  intro w args hg hr
  obtain ⟨l⟩ := args
  replace hr : ReadsL w _ l := hr
  cases hr with | cons h1 t => cases t with | cons h2 t =>
  cases t
  cases h2
  cases h1 with | sl _ _ _ b o cap cc ty fz hb hs hc hn hp hl =>
  have e1 : (xs.map bs).map (·.data.toList) = xs := by rw [List.map_map]; conv => rhs; rw [← List.map_id xs]
                                                       exact List.map_congr_left fun x _ => data_bs x
  have := Tryz.strings_Join b o cap (xs.map bs) (bs [c]) w (fun j x hj => ?_) ((Array.getElem?_eq_some_iff.1 hb).1) (by simpa using hN) (by simpa using hl) (by rw [e1, data_bs]; exact hlen)
  · rw [List.length_map] at this
    refine this.mono ?_
    rintro e w' ⟨rfl, hb⟩
    refine ⟨⟨[.string _], [], rfl, .cons ?_ (.nil _)⟩, hb⟩
    rw [e1, data_bs]
    exact .val _ _ rfl
  · rw [List.getElem?_map, Option.map_eq_some_iff] at hj
    obtain ⟨y, hy, rfl⟩ := hj
    have hlen2 : (strs xs).length = xs.length := by simp [strs]
    have h1 : ((cc.toList.drop o).take (strs xs).length)[j]? = some (str y) := by rw [hc]; simp [strs, hy]
    have hj' : j < xs.length := (List.getElem?_eq_some_iff.1 hy).1
    rw [List.getElem?_take, if_pos (by rw [hlen2]; exact hj'), List.getElem?_drop, Array.getElem?_toList] at h1
    simp [World.cell?, hb, h1]
end Go.Proofs.G5w

/- Strings: what the frames of the laws share: arguments read as data, a world with the listed tables. -/
namespace Go.Proofs.YtlggmgkebnedcaaGreatDoor.K
open Go Go.Abs Go.RowKit Go.ChangeShapes Go.WideShapes Go.ChangeAt Go.Proofs Go.Flat Go.Proofs.G5w
set_option maxRecDepth 100000
theorem own : ownKnob Tryz.prog.godebug = none := by kernel_rfl
theorem laidP : laidOutB Tryz.prog = true := by kernel_rfl
theorem mapsP : mapsRowed Tryz.prog = true := by kernel_rfl
theorem slicesP : ∀ t e, t < Tryz.prog.types.size → Tryz.prog.underlying t = some (.slice e) → 0 < Tryz.prog.cellsOf e := slices_full_of Tryz.prog (by kernel_rfl)
theorem tsP {l : List TypeId} (h : l.all (fun t => decide (t < Tryz.prog.types.size)) = true) : ∀ t ∈ l, t < Tryz.prog.types.size := fun t ht => of_decide_eq_true (List.all_eq_true.1 h t ht)
theorem leaf_int {t : TypeId} {d : D} (ht : Tryz.prog.underlying t = some (.int .i64)) (h : LeafD Tryz.prog t d) : ∃ n : Int, d = dI n ∧ (-9223372036854775808 ≤ n ∧ n ≤ 9223372036854775807) := by
  unfold LeafD at h
  rw [ht] at h
  obtain ⟨n, rfl, hw⟩ := h
  exact ⟨n, rfl, wf64 hw⟩
theorem leaf_str {t : TypeId} {d : D} (ht : Tryz.prog.underlying t = some .string) (h : LeafD Tryz.prog t d) : ∃ s : List UInt8, d = dS s := by
  unfold LeafD at h
  rw [ht] at h
  obtain ⟨s, rfl, _⟩ := h
  exact ⟨s.data.toList, by rw [dS, str, Go.Str.bs_data]⟩
/-- The cells of data without addresses. -/
def cellsD : Nat → DataW Unit → List Value
  | 0, _ => []
  | n + 1, .agg ps => ps.flatMap (cellsD n)
  | _ + 1, .lit (.int k z) => [.int k z]
  | _ + 1, .lit (.bool b) => [.bool b]
  | _, _ => []
/-- A world in which the listed tables hold what is listed. -/
def layAt (h : Array Obj) (i : Nat) (d : DataW Unit) : Array Obj := h.modify i fun
  | .cells _ t frozen => .cells (cellsD 8 d).toArray t frozen
  | o => o
/-- So many blocks has the settled world. -/
noncomputable def low : Nat := (World.holding Tryz.prog default ⟨#[], #[], []⟩).heap.size
/-- A variable of an interface type that holds a pointer to an errors.errorString. -/
def layErr (h : Array Obj) (i b : Nat) : Array Obj := h.modify i fun
  | .cells _ t frozen => .cells #[.iface 197 (.pointer (some ⟨b, 0, none⟩))] t frozen
  | o => o
abbrev rngS : ByteArray := ⟨#[118, 97, 108, 117, 101, 32, 111, 117, 116, 32, 111, 102, 32, 114, 97, 110, 103, 101]⟩
abbrev synS : ByteArray := ⟨#[105, 110, 118, 97, 108, 105, 100, 32, 115, 121, 110, 116, 97, 120]⟩
noncomputable def laidHeap (h : Array Obj) : Array Obj :=
  layErr (layErr (layAt (layAt (layAt (layAt (layAt h 6 Rows.laid_math_bits_deBruijn32tab) 7 Rows.laid_math_bits_deBruijn64tab) 1 Rows.laid_internal_strconv_uint64pow10) 5 Rows.laid_unicode_utf8_acceptRanges) 4 Rows.laid_unicode_utf8_first) 3 low) 2 (low + 1)
noncomputable def laidWorld (os : Os) : World :=
  let w0 := World.holding Tryz.prog os ⟨#[.cells #[.string rngS] 199, .cells #[.string synS] 199], #[], []⟩
  { w0 with heap := laidHeap w0.heap }
theorem noStand {ps : Array TypeId} (h : (ps.toList.all fun t => !(Tryz.prog.wantsStandIn t)) = true) : ∀ (j : Nat) t, ps[j]? = some t → Tryz.prog.wantsStandIn t = false := by
  intro j t ht
  have := List.all_eq_true.1 h t (Array.mem_toList_iff.2 (Array.mem_of_getElem? ht))
  simpa using this
theorem starE : "*" ++ "errors.errorString" = "*errors.errorString" := by decide
theorem rowE (u : TypeId) (h : Tryz.prog.typeName? 3 u = some "*errors.errorString") : u = 197 :=
  typeName_ptr_named (nm := "errors.errorString") (by rw [starE]; kernel_rfl) (by kernel_rfl) (by decide) u (by rw [starE]; exact h)
theorem held_iface {W : World} {g : Nat} {n : String} {t : TypeId} {a : Addr} (hg : Tryz.prog.globalNamed n = some g) (h : W.var? Tryz.prog n = some #[.iface t (.pointer (some a))]) : VarKind.iface.ok W.heap[g]? := by
  unfold World.var? at h
  rw [hg, Option.bind_some] at h
  cases ho : W.heap[g]? with
  | none => rw [ho] at h; cases h
  | some o =>
    rw [ho] at h
    cases o with
    | cells c ty fz =>
      obtain rfl := Option.some.inj h
      exact ⟨_, ty, fz, _, rfl, rfl, .inr ⟨_, _, rfl⟩⟩
    | _ => cases h
/-- what the row's condition says of the library's variables -/
theorem good_of {W : World} {rest : List (String × DataW Unit)} {a b c : String × DataW Unit} {t1 t2 : List UInt8} (h4 : laidMet Tryz.prog (a :: b :: ("internal/strconv.uint64pow10", Lib.tabData .u64 Lib.pow10Tab) :: c :: ("strconv.ErrRange", .iface "*errors.errorString" (.ptr (.agg [.lit (.string t1)]))) :: ("strconv.ErrSyntax", .iface "*errors.errorString" (.ptr (.agg [.lit (.string t2)]))) :: rest) W) (h5 : World.ShapedOpen Tryz.prog W) : GoodW Tryz.prog W := by
  have ht := Lib.tabIs_of_head (g := 1) (t := 177) (e := 160) (n := 20) vPow (by kernel_rfl) (by kernel_rfl) (by kernel_rfl) (by kernel_rfl) (by kernel_rfl) h4.tail.tail
  obtain ⟨m, hm⟩ : ∃ m, W.cell? ⟨0, 0, none⟩ = some (.int .i64 m) := Tryz.laysM146.s1_3 W h5
  have gr : Tryz.prog.globalNamed "strconv.ErrRange" = some 3 := by kernel_rfl
  have gs : Tryz.prog.globalNamed "strconv.ErrSyntax" = some 2 := by kernel_rfl
  obtain ⟨a1, s1, hv1, _⟩ := laid_sentinel (ti := 111) (tp := 197) (te := 199) (ts := 9) h4.tail.tail.tail.tail gr (by kernel_rfl) Tryz.underlying111 rowE Tryz.underlying197 Tryz.underlying199 rfl rfl Tryz.underlying9 (by kernel_rfl) (by kernel_rfl)
  obtain ⟨a2, s2, hv2, _⟩ := laid_sentinel (ti := 111) (tp := 197) (te := 199) (ts := 9) h4.tail.tail.tail.tail.tail gs (by kernel_rfl) Tryz.underlying111 rowE Tryz.underlying197 Tryz.underlying199 rfl rfl Tryz.underlying9 (by kernel_rfl) (by kernel_rfl)
  have e : varsOf Tryz.prog = [(1, .tab .u64 pow10s), (0, .int), (2, .iface), (3, .iface)] := by kernel_rfl
  intro q hq
  rw [e] at hq
  rcases List.mem_cons.1 hq with rfl | hq
  · unfold Lib.TabIs World.var? at ht
    rw [vPow, Option.bind_some] at ht
    cases ho : W.heap[1]? with
    | none => rw [ho] at ht; cases ht
    | some o =>
      rw [ho] at ht
      cases o with
      | cells c ty fz =>
        obtain rfl := Option.some.inj ht
        exact ⟨ty, fz, rfl⟩
      | _ => cases ht
  rcases List.mem_cons.1 hq with rfl | hq
  · unfold World.cell? at hm
    cases ho : W.heap[0]? with
    | none => simp [ho] at hm
    | some o =>
      cases o with
      | cells c ty fz => exact ⟨c, ty, fz, m, rfl, by simpa [ho] using hm⟩
      | _ => simp [ho] at hm
  rcases List.mem_cons.1 hq with rfl | hq
  · exact held_iface gs hv2
  · obtain rfl := List.mem_singleton.1 hq
    exact held_iface gr hv1
end Go.Proofs.YtlggmgkebnedcaaGreatDoor.K

/- A call that is met by what it does to the blocks that it reaches ('state contracts'): definitions. -/
namespace Go.Abs
/-- The end of such a call. -/
def endMu (v : Value) (H : Heap) : Mu := reach H 1000 (blocksV 8 v ++ mroots H) [] gbase
def stateK (K : Value → Blocks → Prop) : Value → Heap → Prop := fun v H =>
  bcase (gcGood (endMu v H) (gcB H (endMu v H) (endMu v H))) (K (mapV (endMu v H) 8 v) (gcB H (endMu v H) (endMu v H))) False
end Go.Abs

/- Handlers by a table: each function is met in its own way, the others are entered. -/
namespace Go.Abs
def saidH (P : Program) (C : FuncId → List D → List D → Prop) : Handler := fun g args _ H k =>
  match P.funcs[g]? with | some fn => wpSaid P C g fn.resultTypes.toList args H k | none => False
/-- (u: so many rounds of the loops of what is entered) -/
def handlerX (P : Program) (pre : FuncId → Option Handler) (u : Nat) : Nat → Handler
  | 0 => fun _ _ _ _ _ => False
  | n + 1 => fun g args ats H k =>
    match pre g with
    | some h => h g args ats H k
    | none => wpFn P (handlerX P pre u n) (fun _ _ _ => False) u g args H k
/-- A check that all of some numbers lie in a range: what it says. -/
def limE (lo hi : Int) : List Value → Int
  | [] => 0
  | .int _ n :: r => if n < lo ∨ n > hi then 2 else limE lo hi r
  | _ :: r => limE lo hi r
end Go.Abs

/- A call that is met by what it does to the blocks that it reaches: it is sound. -/
namespace Go.Abs
open Go.RowKit
variable {P : Program} {ρ : Ren} {w0 : Start P} {w : World} {H : Heap}

/-! ### Renaming, once more (numbers change anyhow; the globals stay) -/
structure MuS (μ : Mu) : Prop where
  snd : (μ.map (·.2)).Nodup
  glb : ∀ i j, (i, j) ∈ μ → i < abase → j = i
variable {μ : Mu}
/-! ### What is reached has its place -/
def Placed (ρ : Ren) (i : Nat) : Prop := i < abase ∨ ∃ m, ρ i = some m
theorem LR.placed {f : Value → List Nat} (hf : ∀ v v', VR ρ v v' → ∀ i ∈ f v, Placed ρ i) : ∀ {l l' : List Value}, LR ρ l l' → ∀ i ∈ l.flatMap f, Placed ρ i
  | _, _, .nil, i, h => by cases h
  | _, _, .cons h t, i, hi => by
    rw [List.flatMap_cons] at hi
    rcases List.mem_append.1 hi with h1 | h1
    · exact hf _ _ h i h1
    · exact LR.placed hf t i h1
theorem blocksV_placed : ∀ (n : Nat) (v v' : Value), VR ρ v v' → ∀ i ∈ blocksV n v, Placed ρ i
  | 0, _, _, _, i, h => by simp [blocksV] at h
  | n + 1, v, v', hv, i, h => by
    have ih : ∀ (v v' : Value), VR ρ v v' → ∀ i ∈ blocksV n v, Placed ρ i := blocksV_placed n
    cases hv with
    | glob g k hg => simp only [blocksV, List.mem_singleton] at h; subst h; exact .inl hg
    | ptr j k m hm => simp only [blocksV, List.mem_singleton] at h; subst h; exact .inr ⟨m, hm⟩
    | map j m hm => simp only [blocksV, List.mem_singleton] at h; subst h; exact .inr ⟨m, hm⟩
    | slice j k len cap m hm ho => simp only [blocksV, List.mem_singleton] at h; subst h; exact .inr ⟨m, hm⟩
    | opened j k len cap capC m hm ho hc hs => simp only [blocksV, List.mem_singleton] at h; subst h; exact .inr ⟨m, hm⟩
    | empty j k off m hm ho hz => simp only [blocksV, List.mem_singleton] at h; subst h; exact .inr ⟨m, hm⟩
    | func f a b a' b' ha hb ra rb =>
      simp only [blocksV] at h
      rcases List.mem_append.1 h with h | h
      · exact LR.placed ih (LR.of_arr ha ra) i h
      · exact LR.placed ih (LR.of_arr hb rb) i h
    | iface t v v' hv => exact ih _ _ hv i (by simpa [blocksV] using h)
    | agg a a' ha ra => exact LR.placed ih (LR.of_arr ha ra) i (by simpa [blocksV] using h)
    | tuple a a' ha ra => exact LR.placed ih (LR.of_arr ha ra) i (by simpa [blocksV] using h)
    | _ => simp [blocksV] at h
theorem ER.placed : ∀ {l l' : List MapEntry}, ER ρ l l' → ∀ i ∈ l.flatMap (fun e => blocksV 8 e.val), Placed ρ i
  | _, _, .nil, i, h => by cases h
  | _, _, .cons k kk v b t, i, hi => by
    rw [List.flatMap_cons] at hi
    rcases List.mem_append.1 hi with h1 | h1
    · exact blocksV_placed 8 _ _ v i h1
    · exact ER.placed t i h1
/-! ### The call's own view -/
structure CallOK (μ : Mu) (H : Heap) : Prop where
  fst : (μ.map (·.1)).Nodup
  snd : (μ.map (·.2)).Nodup
  lo : ∀ i j, (i, j) ∈ μ → abase ≤ i ∧ abase ≤ j ∧ j < gbase
  mb : ∀ i j, (i, j) ∈ μ → (mbase ≤ i ↔ mbase ≤ j)
  live : ∀ i j, (i, j) ∈ μ → ∃ o o2, H.get i = some o ∧ mapO μ o = some o2 ∧ o.alive = true
/-! ### Back at the caller -/
variable {β : Mu} {bs : Blocks}
end Go.Abs

/- State contracts: a function whose body has been walked. -/
namespace Go.Abs
open Go.RowKit
variable {P : Program} {ρ : Ren} {w0 : Start P} {w : World} {H : Heap} {h : Handler} {L : AtLoop}

/-- A loop of a function, whatever its end is. -/
structure LoopGoodF (P : Program) (h : Handler) (L : AtLoop) (f : FuncId) (c : Code) (lv : Lv) (id : Nat) (F : Value → Heap → Prop) (X : Type) (st : X → Slots × Blocks) (inv : X → Prop) (m : X → Nat) : Prop where
  head : ∀ s b, L id s b → ∃ x, inv x ∧ st x = (s, b)
  flat : ((findLoop c lv id).map fun r => loopIds r.1) = some []
  round : ∀ x, inv x → wpRound P h L f id (st x).1 (st x).2 (fun s b => ∃ y, inv y ∧ m y < m x ∧ st y = (s, b))
    (fun i s b => if i = id then wpNext P h L f id .normal s b F else wpNext P h L f id (.exit i) s b F) F

end Go.Abs

/- Handlers by a table hold if each entry does. -/
namespace Go.Abs
open Go.RowKit
variable {P : Program}
theorem saidH_ok {C : FuncId → List D → List D → Prop} (hC : ∀ f ds rs, C f ds rs → Con P f ds rs) : HandlerOK P (saidH P C) := by
  intro g args ats H k hk
  unfold saidH at hk
  split at hk
  · exact wpSaid_call hC hk
  · exact hk.elim
/-- (a state contract speaks of one function) -/
def PreOK (P : Program) (pre : FuncId → Option Handler) : Prop := ∀ g h, pre g = some h → ∀ args ats H k, h g args ats H k → CallH P g args H k
theorem handlerX_ok (hmix : P.follows .mixedOrders = true) {pre : FuncId → Option Handler} (hp : PreOK P pre) {u : Nat} (hu : u ≠ 0) : ∀ n, HandlerOK P (handlerX P pre u n)
  | 0 => fun _ _ _ _ _ h => h.elim
  | n + 1 => fun g args ats H k hk => by
    simp only [handlerX] at hk
    split at hk
    · rename_i h he
      exact hp g h he args ats H k hk
    · exact wpFn_call (handlerX_ok hmix hp hu n) hmix hu hk
abbrev limBs (ti : TypeId) (cs : List Value) (lo hi : Int) : Blocks := [(900, .cells cs ti false 1), (901, .cells [.int .i64 lo] ti false 1), (902, .cells [.int .i64 hi] ti false 1)]
abbrev limArgs (n cap : Nat) : List Value := [.slice (some ⟨900, 0, none⟩) n cap, .pointer (some ⟨901, 0, none⟩), .pointer (some ⟨902, 0, none⟩)]
/-- What is left to show of the function that limit returns. -/
def limGoal (P : Program) (f : FuncId) (ti : TypeId) (n : Nat) (cs : List Value) (cap : Nat) (lo hi : Int) (K : Value → Blocks → Prop) : Prop :=
  wpFn P (fun _ _ _ _ _ => False) (fun _ _ _ => False) 6 f (limArgs n cap).toArray (heapOf (limBs ti cs lo hi)) (stateK K)
structure LimGood (P : Program) (f : FuncId) (ti : TypeId) : Prop where
  mix : P.follows .mixedOrders = true
  fn : ∃ fn c, P.funcs[f]? = some fn ∧ fn.body = some c
  one : ∀ cap lo hi x, limGoal P f ti 1 [.int .i64 x] cap lo hi (fun v b => v = .int .i64 (limE lo hi [.int .i64 x]) ∧ b = limBs ti [.int .i64 x] lo hi)
  two : ∀ cap lo hi x y, limGoal P f ti 2 [.int .i64 x, .int .i64 y] cap lo hi (fun v b => v = .int .i64 (limE lo hi [.int .i64 x, .int .i64 y]) ∧ b = limBs ti [.int .i64 x, .int .i64 y] lo hi)
  three : ∀ cap lo hi x y z, limGoal P f ti 3 [.int .i64 x, .int .i64 y, .int .i64 z] cap lo hi (fun v b => v = .int .i64 (limE lo hi [.int .i64 x, .int .i64 y, .int .i64 z]) ∧ b = limBs ti [.int .i64 x, .int .i64 y, .int .i64 z] lo hi)
  four : ∀ cap lo hi x y z u, limGoal P f ti 4 [.int .i64 x, .int .i64 y, .int .i64 z, .int .i64 u] cap lo hi (fun v b => v = .int .i64 (limE lo hi [.int .i64 x, .int .i64 y, .int .i64 z, .int .i64 u]) ∧ b = limBs ti [.int .i64 x, .int .i64 y, .int .i64 z, .int .i64 u] lo hi)
end Go.Abs

/- What is left to show of each function, written out; the kernel reckons it. -/
namespace Go.Proofs.G5w
open Go Go.Abs Go.Proofs
set_option maxRecDepth 100000
set_option linter.unusedVariables false
abbrev vI (n : Int) : Value := .int .i64 n
abbrev Ct := FuncId → List D → List D → Prop
abbrev Bx := Slots → Blocks → Prop
abbrev Xx := Nat → Slots → Blocks → Prop
abbrev hE (C : Ct) : Handler := handlerX Tryz.prog (fun _ => none) 12 6
def gCu (C : Ct) (L : AtLoop) (s0 : ByteArray) (x1 : Int) (k : List D → Prop) : Prop := wpFn Tryz.prog (hE C) L 0 25 #[.string s0, .int .u8 x1] (heapOf []) (dataK k)
theorem gCu_text (C : Ct) (L : AtLoop) (s0 : ByteArray) (x1 : Int) (k : List D → Prop) : gCu C L s0 x1 k =
 (L 0 [(Prod.mk 0 (Go.Value.string (s0))), (Prod.mk 1 (Go.Value.int Go.IntKind.u8 (x1))), (Prod.mk 5 (Go.Value.slice Option.none 0 0)), (Prod.mk 6 (vI (0 : Int))), (Prod.mk 7 (vI (0 : Int)))] []) := by kernel_rfl
abbrev zCu1 (s0 : ByteArray) (x1 : Int) (x2 : Int) (x3 : Int) : Slots × Blocks := ([(0, (Value.string s0)), (1, (Value.int Go.IntKind.u8 x1)), (5, (Value.slice none 0 0)), (6, (Value.int .i64 x2)), (7, (Value.int .i64 x3))], [])
def rCu1 (C : Ct) (L : AtLoop) (s0 : ByteArray) (x1 : Int) (x2 : Int) (x3 : Int) (B : Bx) (X : Xx) (k : List D → Prop) : Prop := wpRound Tryz.prog (hE C) L 25 0 [(0, (Value.string s0)), (1, (Value.int Go.IntKind.u8 x1)), (5, (Value.slice none 0 0)), (6, (Value.int .i64 x2)), (7, (Value.int .i64 x3))] [] B X (dataK k)
theorem rCu1_text (C : Ct) (L : AtLoop) (s0 : ByteArray) (x1 : Int) (x2 : Int) (x3 : Int) (B : Bx) (X : Xx) (k : List D → Prop) : rCu1 C L s0 x1 x2 x3 B X k =
 (bcase (decide (x3 < (↑(ByteArray.size s0) : Int)))
 (bcase (decide (0 ≤ x3))
 (∃ b1 : UInt8,
 ((ByteAt (s0) (Int.toNat x3) (b1)) ∧
 (bcase ((↑(UInt8.toNat b1) : Int) == x1)
 (bcase (decide (0 ≤ x3))
 (bcase (decide (x3 ≤ (↑(ByteArray.size s0) : Int)))
 (bcase (decide (0 ≤ x2))
 (bcase (decide (x2 ≤ (↑(Int.toNat x3) : Int)))
 (B [(Prod.mk 0 (Go.Value.string (s0))), (Prod.mk 1 (Go.Value.int Go.IntKind.u8 (x1))), (Prod.mk 5 (Go.Value.slice (Option.some (Go.Addr.mk 1000 0 Option.none)) 1 1)), (Prod.mk 6 (vI (IntKind.wrap .i64 (x3 + 1)))), (Prod.mk 7 (vI (IntKind.wrap .i64 (x3 + 1))))] [(Prod.mk 1000 (AObj.sym [(Go.Value.string (ByteArray.extract s0 (Int.toNat x2) (Int.toNat x3)))] true 1))])
 False)
 False)
 False)
 False)
 (B [(Prod.mk 0 (Go.Value.string (s0))), (Prod.mk 1 (Go.Value.int Go.IntKind.u8 (x1))), (Prod.mk 5 (Go.Value.slice Option.none 0 0)), (Prod.mk 6 (vI x2)), (Prod.mk 7 (vI (IntKind.wrap .i64 (x3 + 1))))] []))))
 False)
 (X 0 [(Prod.mk 0 (Go.Value.string (s0))), (Prod.mk 5 (Go.Value.slice Option.none 0 0)), (Prod.mk 6 (vI x2))] [])) := by kernel_rfl
abbrev zCu2 (s0 : ByteArray) (x1 : Int) (n2 : Nat) (x3 : Int) (x4 : Int) (l5 : List Value) : Slots × Blocks := ([(0, (Value.string s0)), (1, (Value.int Go.IntKind.u8 x1)), (5, (Value.slice (some ⟨1000, 0, none⟩) n2 n2)), (6, (Value.int .i64 x3)), (7, (Value.int .i64 x4))], [(1000, (AObj.sym l5 true 1))])
def rCu2 (C : Ct) (L : AtLoop) (s0 : ByteArray) (x1 : Int) (n2 : Nat) (x3 : Int) (x4 : Int) (l5 : List Value) (B : Bx) (X : Xx) (k : List D → Prop) : Prop := wpRound Tryz.prog (hE C) L 25 0 [(0, (Value.string s0)), (1, (Value.int Go.IntKind.u8 x1)), (5, (Value.slice (some ⟨1000, 0, none⟩) n2 n2)), (6, (Value.int .i64 x3)), (7, (Value.int .i64 x4))] [(1000, (AObj.sym l5 true 1))] B X (dataK k)
theorem rCu2_text (C : Ct) (L : AtLoop) (s0 : ByteArray) (x1 : Int) (n2 : Nat) (x3 : Int) (x4 : Int) (l5 : List Go.Value) (B : Bx) (X : Xx) (k : List D → Prop) : rCu2 C L s0 x1 n2 x3 x4 l5 B X k =
 (bcase (decide (x4 < (↑(ByteArray.size s0) : Int)))
 (bcase (decide (0 ≤ x4))
 (∃ b1 : UInt8,
 ((ByteAt (s0) (Int.toNat x4) (b1)) ∧
 (bcase ((↑(UInt8.toNat b1) : Int) == x1)
 (bcase (decide (0 ≤ x4))
 (bcase (decide (x4 ≤ (↑(ByteArray.size s0) : Int)))
 (bcase (decide (0 ≤ x3))
 (bcase (decide (x3 ≤ (↑(Int.toNat x4) : Int)))
 (bcase (decide (n2 < n2 + 1))
 (bcase (decide ((2 * (n2 + 1) + 768) * 16 ≤ 281474976710656))
 (bcase (decide (n2 + 1 ≤ 1099511627776))
 (bcase (decide (0 + n2 * 1 ≤ List.length l5))
 (bcase (decide (0 + n2 * 1 = List.length l5))
 (B [(Prod.mk 0 (Go.Value.string (s0))), (Prod.mk 1 (Go.Value.int Go.IntKind.u8 (x1))), (Prod.mk 5 (Go.Value.slice (Option.some (Go.Addr.mk 1000 0 Option.none)) (n2 + 1) (n2 + 1))), (Prod.mk 6 (vI (IntKind.wrap .i64 (x4 + 1)))), (Prod.mk 7 (vI (IntKind.wrap .i64 (x4 + 1))))] [(Prod.mk 1000 (AObj.sym ((List.take (n2 * 1) (List.drop 0 l5)) ++ [(Go.Value.string (ByteArray.extract s0 (Int.toNat x3) (Int.toNat x4)))]) true 1))])
 False)
 False)
 False)
 False)
 False)
 False)
 False)
 False)
 False)
 (B [(Prod.mk 0 (Go.Value.string (s0))), (Prod.mk 1 (Go.Value.int Go.IntKind.u8 (x1))), (Prod.mk 5 (Go.Value.slice (Option.some (Go.Addr.mk 1000 0 Option.none)) (n2) (n2))), (Prod.mk 6 (vI x3)), (Prod.mk 7 (vI (IntKind.wrap .i64 (x4 + 1))))] [(Prod.mk 1000 (AObj.sym (l5) true 1))]))))
 False)
 (X 0 [(Prod.mk 0 (Go.Value.string (s0))), (Prod.mk 5 (Go.Value.slice (Option.some (Go.Addr.mk 1000 0 Option.none)) (n2) (n2))), (Prod.mk 6 (vI x3))] [(Prod.mk 1000 (AObj.sym (l5) true 1))])) := by kernel_rfl
def nCu3 (C : Ct) (L : AtLoop) (s0 : ByteArray) (x1 : Int) (k : List D → Prop) : Prop := wpNext Tryz.prog (hE C) L 25 0 .normal [(0, (Value.string s0)), (5, (Value.slice none 0 0)), (6, (Value.int .i64 x1))] [] (dataK k)
theorem nCu3_text (C : Ct) (L : AtLoop) (s0 : ByteArray) (x1 : Int) (k : List D → Prop) : nCu3 C L s0 x1 k =
 (bcase (decide (0 ≤ x1))
 (bcase (decide (x1 ≤ (↑(ByteArray.size s0) : Int)))
 (((1 = 1) ∧
 (1 = 1)) ∧
 (k [(D.sl 1 1 [(Go.Value.string (ByteArray.extract s0 (Int.toNat x1) (ByteArray.size s0)))])]))
 False)
 False) := by kernel_rfl
def nCu4 (C : Ct) (L : AtLoop) (s0 : ByteArray) (n1 : Nat) (x2 : Int) (l3 : List Value) (k : List D → Prop) : Prop := wpNext Tryz.prog (hE C) L 25 0 .normal [(0, (Value.string s0)), (5, (Value.slice (some ⟨1000, 0, none⟩) n1 n1)), (6, (Value.int .i64 x2))] [(1000, (AObj.sym l3 true 1))] (dataK k)
theorem nCu4_text (C : Ct) (L : AtLoop) (s0 : ByteArray) (n1 : Nat) (x2 : Int) (l3 : List Go.Value) (k : List D → Prop) : nCu4 C L s0 n1 x2 l3 k =
 (bcase (decide (0 ≤ x2))
 (bcase (decide (x2 ≤ (↑(ByteArray.size s0) : Int)))
 (bcase (decide (n1 < n1 + 1))
 (bcase (decide ((2 * (n1 + 1) + 768) * 16 ≤ 281474976710656))
 (bcase (decide (n1 + 1 ≤ 1099511627776))
 (bcase (decide (0 + n1 * 1 ≤ List.length l3))
 (bcase (decide (0 + n1 * 1 = List.length l3))
 ((((n1 + 1) = (n1 + 1)) ∧
 ((List.length ((List.take (n1 * 1) (List.drop 0 l3)) ++ [(Go.Value.string (ByteArray.extract s0 (Int.toNat x2) (ByteArray.size s0)))])) = ((n1 + 1) * 1))) ∧
 (k [(D.sl (n1 + 1) 1 ((List.take (n1 * 1) (List.drop 0 l3)) ++ [(Go.Value.string (ByteArray.extract s0 (Int.toNat x2) (ByteArray.size s0)))]))]))
 False)
 False)
 False)
 False)
 False)
 False)
 False) := by kernel_rfl
def gDe (C : Ct) (L : AtLoop) (x0 : Int) (k : List D → Prop) : Prop := wpFn Tryz.prog (hE C) L 0 27 #[.int .i64 x0] (heapOf []) (dataK k)
theorem gDe_text (C : Ct) (L : AtLoop) (x0 : Int) (k : List D → Prop) : gDe C L x0 k =
 (bcase (x0 == 0)
 (k [(D.val (Go.Value.string ({ data := #[48] })))])
 (bcase (decide (x0 < 0))
 (L 0 [(Prod.mk 0 (vI x0)), (Prod.mk 3 (Go.Value.string ({ data := #[] }))), (Prod.mk 4 (Go.Value.string ({ data := #[45] })))] [])
 (L 0 [(Prod.mk 0 (vI x0)), (Prod.mk 3 (Go.Value.string ({ data := #[] }))), (Prod.mk 4 (Go.Value.string ({ data := #[] })))] []))) := by kernel_rfl
abbrev zDe1 (x0 : Int) (s1 : ByteArray) (s2 : ByteArray) : Slots × Blocks := ([(0, (Value.int .i64 x0)), (3, (Value.string s1)), (4, (Value.string s2))], [])
def rDe1 (C : Ct) (L : AtLoop) (x0 : Int) (s1 : ByteArray) (s2 : ByteArray) (B : Bx) (X : Xx) (k : List D → Prop) : Prop := wpRound Tryz.prog (hE C) L 27 0 [(0, (Value.int .i64 x0)), (3, (Value.string s1)), (4, (Value.string s2))] [] B X (dataK k)
theorem rDe1_text (C : Ct) (L : AtLoop) (x0 : Int) (s1 : ByteArray) (s2 : ByteArray) (B : Bx) (X : Xx) (k : List D → Prop) : rDe1 C L x0 s1 s2 B X k =
 (bcase (x0 != 0)
 (bcase (decide (ByteArray.size (List.foldl (fun r n => ByteArray.push r (UInt8.ofNat (Int.toNat n))) ByteArray.empty [Go.IntKind.wrap Go.IntKind.u8 (IntKind.wrap .i64 (48 + if IntKind.wrap .i64 (0 - Int.tmod x0 10) > Int.tmod x0 10 then IntKind.wrap .i64 (0 - Int.tmod x0 10) else Int.tmod x0 10))]) + ByteArray.size s1 ≤ 9223372036854775807))
 (B [(Prod.mk 0 (vI (IntKind.wrap .i64 (Int.tdiv x0 10)))), (Prod.mk 3 (Go.Value.string (List.foldl (fun r n => ByteArray.push r (UInt8.ofNat (Int.toNat n))) ByteArray.empty [Go.IntKind.wrap Go.IntKind.u8 (IntKind.wrap .i64 (48 + if IntKind.wrap .i64 (0 - Int.tmod x0 10) > Int.tmod x0 10 then IntKind.wrap .i64 (0 - Int.tmod x0 10) else Int.tmod x0 10))] ++ s1))), (Prod.mk 4 (Go.Value.string (s2)))] [])
 False)
 (X 0 [(Prod.mk 3 (Go.Value.string (s1))), (Prod.mk 4 (Go.Value.string (s2)))] [])) := by kernel_rfl
def nDe2 (C : Ct) (L : AtLoop) (s0 : ByteArray) (s1 : ByteArray) (k : List D → Prop) : Prop := wpNext Tryz.prog (hE C) L 27 0 .normal [(3, (Value.string s0)), (4, (Value.string s1))] [] (dataK k)
theorem nDe2_text (C : Ct) (L : AtLoop) (s0 : ByteArray) (s1 : ByteArray) (k : List D → Prop) : nDe2 C L s0 s1 k =
 (bcase (decide (ByteArray.size s1 + ByteArray.size s0 ≤ 9223372036854775807))
 (k [(D.val (Go.Value.string (s1 ++ s0)))])
 False) := by kernel_rfl
def gNu (C : Ct) (L : AtLoop) (s0 : ByteArray) (x1 : Int) (k : List D → Prop) : Prop := wpFn Tryz.prog (hE C) L 0 26 #[.string s0, .int .i64 x1] (heapOf []) (dataK k)
theorem gNu_text (C : Ct) (L : AtLoop) (s0 : ByteArray) (x1 : Int) (k : List D → Prop) : gNu C L s0 x1 k =
 (bcase (decide ((↑(ByteArray.size s0) : Int) > 0))
 (∃ b1 : UInt8,
 ((ByteAt (s0) 0 (b1)) ∧
 (bcase ((↑(UInt8.toNat b1) : Int) == 45)
 (bcase ((↑(ByteArray.size s0) : Int) == 1)
 (k [(D.val (vI (0 : Int))), (D.val (Value.bool false))])
 (bcase (decide (IntKind.wrap .i64 ((↑(ByteArray.size s0) : Int) - 1) > x1))
 (k [(D.val (vI (0 : Int))), (D.val (Value.bool false))])
 (∃ b2 : UInt8,
 ((ByteAt (s0) 1 (b2)) ∧
 (bcase ((↑(UInt8.toNat b2) : Int) == 48)
 (bcase (decide ((↑(ByteArray.size s0) : Int) > 1))
 (k [(D.val (vI (0 : Int))), (D.val (Value.bool false))])
 (L 0 [(Prod.mk 0 (Go.Value.string (s0))), (Prod.mk 6 (vI (1 : Int))), (Prod.mk 7 (vI (0 : Int))), (Prod.mk 8 (vI (1 : Int)))] []))
 (L 0 [(Prod.mk 0 (Go.Value.string (s0))), (Prod.mk 6 (vI (1 : Int))), (Prod.mk 7 (vI (0 : Int))), (Prod.mk 8 (vI (1 : Int)))] []))))))
 (bcase ((↑(ByteArray.size s0) : Int) == 0)
 (k [(D.val (vI (0 : Int))), (D.val (Value.bool false))])
 (bcase (decide (IntKind.wrap .i64 ((↑(ByteArray.size s0) : Int) - 0) > x1))
 (k [(D.val (vI (0 : Int))), (D.val (Value.bool false))])
 (∃ b2 : UInt8,
 ((ByteAt (s0) 0 (b2)) ∧
 (bcase ((↑(UInt8.toNat b2) : Int) == 48)
 (bcase (decide ((↑(ByteArray.size s0) : Int) > 1))
 (k [(D.val (vI (0 : Int))), (D.val (Value.bool false))])
 (L 0 [(Prod.mk 0 (Go.Value.string (s0))), (Prod.mk 6 (vI (0 : Int))), (Prod.mk 7 (vI (0 : Int))), (Prod.mk 8 (vI (0 : Int)))] []))
 (L 0 [(Prod.mk 0 (Go.Value.string (s0))), (Prod.mk 6 (vI (0 : Int))), (Prod.mk 7 (vI (0 : Int))), (Prod.mk 8 (vI (0 : Int)))] [])))))))))
 (bcase ((↑(ByteArray.size s0) : Int) == 0)
 (k [(D.val (vI (0 : Int))), (D.val (Value.bool false))])
 (bcase (decide (IntKind.wrap .i64 ((↑(ByteArray.size s0) : Int) - 0) > x1))
 (k [(D.val (vI (0 : Int))), (D.val (Value.bool false))])
 (∃ b1 : UInt8,
 ((ByteAt (s0) 0 (b1)) ∧
 (bcase ((↑(UInt8.toNat b1) : Int) == 48)
 (bcase (decide ((↑(ByteArray.size s0) : Int) > 1))
 (k [(D.val (vI (0 : Int))), (D.val (Value.bool false))])
 (L 0 [(Prod.mk 0 (Go.Value.string (s0))), (Prod.mk 6 (vI (0 : Int))), (Prod.mk 7 (vI (0 : Int))), (Prod.mk 8 (vI (0 : Int)))] []))
 (L 0 [(Prod.mk 0 (Go.Value.string (s0))), (Prod.mk 6 (vI (0 : Int))), (Prod.mk 7 (vI (0 : Int))), (Prod.mk 8 (vI (0 : Int)))] []))))))) := by kernel_rfl
abbrev zNu1 (s0 : ByteArray) (x1 : Int) (x2 : Int) (x3 : Int) : Slots × Blocks := ([(0, (Value.string s0)), (6, (Value.int .i64 x1)), (7, (Value.int .i64 x2)), (8, (Value.int .i64 x3))], [])
def rNu1 (C : Ct) (L : AtLoop) (s0 : ByteArray) (x1 : Int) (x2 : Int) (x3 : Int) (B : Bx) (X : Xx) (k : List D → Prop) : Prop := wpRound Tryz.prog (hE C) L 26 0 [(0, (Value.string s0)), (6, (Value.int .i64 x1)), (7, (Value.int .i64 x2)), (8, (Value.int .i64 x3))] [] B X (dataK k)
theorem rNu1_text (C : Ct) (L : AtLoop) (s0 : ByteArray) (x1 : Int) (x2 : Int) (x3 : Int) (B : Bx) (X : Xx) (k : List D → Prop) : rNu1 C L s0 x1 x2 x3 B X k =
 (bcase (decide (x3 < (↑(ByteArray.size s0) : Int)))
 (bcase (decide (0 ≤ x3))
 (∃ b1 : UInt8,
 ((ByteAt (s0) (Int.toNat x3) (b1)) ∧
 (bcase (decide ((↑(UInt8.toNat b1) : Int) < 48))
 (k [(D.val (vI (0 : Int))), (D.val (Value.bool false))])
 (bcase (decide (0 ≤ x3))
 (∃ b2 : UInt8,
 ((ByteAt (s0) (Int.toNat x3) (b2)) ∧
 (bcase (decide ((↑(UInt8.toNat b2) : Int) > 57))
 (k [(D.val (vI (0 : Int))), (D.val (Value.bool false))])
 (bcase (decide (0 ≤ x3))
 (∃ b3 : UInt8,
 ((ByteAt (s0) (Int.toNat x3) (b3)) ∧
 (B [(Prod.mk 0 (Go.Value.string (s0))), (Prod.mk 6 (vI x1)), (Prod.mk 7 (vI (IntKind.wrap .i64 (IntKind.wrap .i64 (10 * x2) + IntKind.wrap .i64 (Go.IntKind.wrap Go.IntKind.u8 ((↑(UInt8.toNat b3) : Int) - 48)))))), (Prod.mk 8 (vI (IntKind.wrap .i64 (x3 + 1))))] [])))
 False))))
 False))))
 False)
 (X 0 [(Prod.mk 6 (vI x1)), (Prod.mk 7 (vI x2))] [])) := by kernel_rfl
def nNu2 (C : Ct) (L : AtLoop) (x0 : Int) (x1 : Int) (k : List D → Prop) : Prop := wpNext Tryz.prog (hE C) L 26 0 .normal [(6, (Value.int .i64 x0)), (7, (Value.int .i64 x1))] [] (dataK k)
theorem nNu2_text (C : Ct) (L : AtLoop) (x0 : Int) (x1 : Int) (k : List D → Prop) : nNu2 C L x0 x1 k =
 (bcase (x0 == 1)
 (k [(D.val (vI (IntKind.wrap .i64 (0 - x1)))), (D.val (Value.bool true))])
 (k [(D.val (vI x1)), (D.val (Value.bool true))])) := by kernel_rfl
def gWi (C : Ct) (L : AtLoop) (x0 : Int) (x1 : Int) (x2 : Int) (k : List D → Prop) : Prop := wpFn Tryz.prog (hE C) L 0 29 #[.int .i64 x0, .int .i64 x1, .int .i64 x2] (heapOf []) (dataK k)
theorem gWi_text (C : Ct) (L : AtLoop) (x0 : Int) (x1 : Int) (x2 : Int) (k : List D → Prop) : gWi C L x0 x1 x2 k =
 (bcase (decide (x1 ≤ x0))
 (bcase (decide (x0 ≤ x2))
 (k [(D.val (Value.bool true))])
 (k [(D.val (Value.bool false))]))
 (k [(D.val (Value.bool false))])) := by kernel_rfl
end Go.Proofs.G5w

/- What is left to show of each function, written out; the kernel reckons it. -/
namespace Go.Proofs.G5w
open Go Go.Abs Go.Proofs
set_option maxRecDepth 100000
set_option linter.unusedVariables false
def preG (C : Ct) : FuncId → Option Handler := fun g => if [4, 21, 22, 20, 25, 27, 26, 29, 28, 56, 83, 84, 23, 24, 5, 6, 9, 8, 7].contains g then some (saidH Tryz.prog C) else none
abbrev hG (C : Ct) : Handler := handlerX Tryz.prog (preG C) 12 6
def gIL (C : Ct) (L : AtLoop) (x0 : Int) (k : List D → Prop) : Prop := wpFn Tryz.prog (hG C) L 0 83 #[.int .u8 x0] (heapOf []) (dataK k)
theorem gIL_text (C : Ct) (L : AtLoop) (x0 : Int) (k : List D → Prop) : gIL C L x0 k =
 (bcase (decide (97 ≤ x0))
 (bcase (decide (x0 ≤ 122))
 (k [(D.val (Value.bool true))])
 (bcase (decide (65 ≤ x0))
 (bcase (decide (x0 ≤ 90))
 (k [(D.val (Value.bool true))])
 (k [(D.val (Value.bool false))]))
 (k [(D.val (Value.bool false))])))
 (bcase (decide (65 ≤ x0))
 (bcase (decide (x0 ≤ 90))
 (k [(D.val (Value.bool true))])
 (k [(D.val (Value.bool false))]))
 (k [(D.val (Value.bool false))]))) := by kernel_rfl
def gID (C : Ct) (L : AtLoop) (x0 : Int) (k : List D → Prop) : Prop := wpFn Tryz.prog (hG C) L 0 84 #[.int .u8 x0] (heapOf []) (dataK k)
theorem gID_text (C : Ct) (L : AtLoop) (x0 : Int) (k : List D → Prop) : gID C L x0 k =
 (bcase (decide (48 ≤ x0))
 (bcase (decide (x0 ≤ 57))
 (k [(D.val (Value.bool true))])
 (k [(D.val (Value.bool false))]))
 (k [(D.val (Value.bool false))])) := by kernel_rfl
def gCN (C : Ct) (L : AtLoop) (s0 : ByteArray) (k : List D → Prop) : Prop := wpFn Tryz.prog (hG C) L 0 56 #[.string s0] (heapOf []) (dataK k)
theorem gCN_text (C : Ct) (L : AtLoop) (s0 : ByteArray) (k : List D → Prop) : gCN C L s0 k =
 (bcase ((↑(ByteArray.size s0) : Int) == 0)
 (k [(D.val (vI (4 : Int)))])
 (bcase (decide ((↑(ByteArray.size s0) : Int) > 12))
 (k [(D.val (vI (4 : Int)))])
 (∃ b1 : UInt8,
 ((ByteAt (s0) 0 (b1)) ∧
 (((Says C 83 [(D.val (Go.Value.int Go.IntKind.u8 ((↑(UInt8.toNat b1) : Int))))] [(D.val (Value.bool true))]) ∧
 (L 0 [(Prod.mk 0 (Go.Value.string (s0))), (Prod.mk 19 (vI ((↑(ByteArray.size s0) : Int)))), (Prod.mk 20 (vI (0 : Int)))] [])) ∨
 ((Says C 83 [(D.val (Go.Value.int Go.IntKind.u8 ((↑(UInt8.toNat b1) : Int))))] [(D.val (Value.bool false))]) ∧
 (k [(D.val (vI (4 : Int)))]))))))) := by kernel_rfl
abbrev zCN1 (s0 : ByteArray) (x1 : Int) (x2 : Int) : Slots × Blocks := ([(0, (Value.string s0)), (19, (Value.int .i64 x1)), (20, (Value.int .i64 x2))], [])
def rCN1 (C : Ct) (L : AtLoop) (s0 : ByteArray) (x1 : Int) (x2 : Int) (B : Bx) (X : Xx) (k : List D → Prop) : Prop := wpRound Tryz.prog (hG C) L 56 0 [(0, (Value.string s0)), (19, (Value.int .i64 x1)), (20, (Value.int .i64 x2))] [] B X (dataK k)
theorem rCN1_text (C : Ct) (L : AtLoop) (s0 : ByteArray) (x1 : Int) (x2 : Int) (B : Bx) (X : Xx) (k : List D → Prop) : rCN1 C L s0 x1 x2 B X k =
 (bcase (decide (x2 < x1))
 (bcase (decide (0 ≤ x2))
 (∃ b1 : UInt8,
 ((ByteAt (s0) (Int.toNat x2) (b1)) ∧
 (((Says C 83 [(D.val (Go.Value.int Go.IntKind.u8 ((↑(UInt8.toNat b1) : Int))))] [(D.val (Value.bool true))]) ∧
 (B [(Prod.mk 0 (Go.Value.string (s0))), (Prod.mk 19 (vI x1)), (Prod.mk 20 (vI (IntKind.wrap .i64 (x2 + 1))))] [])) ∨
 ((Says C 83 [(D.val (Go.Value.int Go.IntKind.u8 ((↑(UInt8.toNat b1) : Int))))] [(D.val (Value.bool false))]) ∧
 (bcase (decide (0 ≤ x2))
 (∃ b2 : UInt8,
 ((ByteAt (s0) (Int.toNat x2) (b2)) ∧
 (((Says C 84 [(D.val (Go.Value.int Go.IntKind.u8 ((↑(UInt8.toNat b2) : Int))))] [(D.val (Value.bool true))]) ∧
 (B [(Prod.mk 0 (Go.Value.string (s0))), (Prod.mk 19 (vI x1)), (Prod.mk 20 (vI (IntKind.wrap .i64 (x2 + 1))))] [])) ∨
 ((Says C 84 [(D.val (Go.Value.int Go.IntKind.u8 ((↑(UInt8.toNat b2) : Int))))] [(D.val (Value.bool false))]) ∧
 (bcase (decide (0 ≤ x2))
 (∃ b3 : UInt8,
 ((ByteAt (s0) (Int.toNat x2) (b3)) ∧
 (bcase ((↑(UInt8.toNat b3) : Int) != 45)
 (k [(D.val (vI (4 : Int)))])
 (B [(Prod.mk 0 (Go.Value.string (s0))), (Prod.mk 19 (vI x1)), (Prod.mk 20 (vI (IntKind.wrap .i64 (x2 + 1))))] []))))
 False)))))
 False)))))
 False)
 (X 0 [] [])) := by kernel_rfl
def nCN2 (C : Ct) (L : AtLoop) (k : List D → Prop) : Prop := wpNext Tryz.prog (hG C) L 56 0 .normal [] [] (dataK k)
theorem nCN2_text (C : Ct) (L : AtLoop) (k : List D → Prop) : nCN2 C L k =
 (k [(D.val (vI (0 : Int)))]) := by kernel_rfl
def gIN (C : Ct) (L : AtLoop) (s0 : ByteArray) (k : List D → Prop) : Prop := wpFn Tryz.prog (hG C) L 0 28 #[.string s0] (heapOf []) (dataK k)
theorem gIN_text (C : Ct) (L : AtLoop) (s0 : ByteArray) (k : List D → Prop) : gIN C L s0 k =
 (bcase (decide ((↑(ByteArray.size s0) : Int) < 1))
 (k [(D.val (Value.bool false))])
 (bcase (decide ((↑(ByteArray.size s0) : Int) > 12))
 (k [(D.val (Value.bool false))])
 (L 0 [(Prod.mk 0 (Go.Value.string (s0))), (Prod.mk 3 (vI (0 : Int)))] []))) := by kernel_rfl
abbrev zIN1 (s0 : ByteArray) (x1 : Int) : Slots × Blocks := ([(0, (Value.string s0)), (3, (Value.int .i64 x1))], [])
def rIN1 (C : Ct) (L : AtLoop) (s0 : ByteArray) (x1 : Int) (B : Bx) (X : Xx) (k : List D → Prop) : Prop := wpRound Tryz.prog (hG C) L 28 0 [(0, (Value.string s0)), (3, (Value.int .i64 x1))] [] B X (dataK k)
theorem rIN1_text (C : Ct) (L : AtLoop) (s0 : ByteArray) (x1 : Int) (B : Bx) (X : Xx) (k : List D → Prop) : rIN1 C L s0 x1 B X k =
 (bcase (decide (x1 < (↑(ByteArray.size s0) : Int)))
 (bcase (decide (0 ≤ x1))
 (∃ b1 : UInt8,
 ((ByteAt (s0) (Int.toNat x1) (b1)) ∧
 (bcase (decide ((↑(UInt8.toNat b1) : Int) ≥ 97))
 (bcase (decide ((↑(UInt8.toNat b1) : Int) ≤ 122))
 (B [(Prod.mk 0 (Go.Value.string (s0))), (Prod.mk 3 (vI (IntKind.wrap .i64 (x1 + 1))))] [])
 (bcase (decide ((↑(UInt8.toNat b1) : Int) ≥ 65))
 (bcase (decide ((↑(UInt8.toNat b1) : Int) ≤ 90))
 (B [(Prod.mk 0 (Go.Value.string (s0))), (Prod.mk 3 (vI (IntKind.wrap .i64 (x1 + 1))))] [])
 (bcase (x1 == 0)
 (k [(D.val (Value.bool false))])
 (bcase ((↑(UInt8.toNat b1) : Int) != 45)
 (bcase (decide ((↑(UInt8.toNat b1) : Int) < 48))
 (k [(D.val (Value.bool false))])
 (bcase (decide ((↑(UInt8.toNat b1) : Int) > 57))
 (k [(D.val (Value.bool false))])
 (B [(Prod.mk 0 (Go.Value.string (s0))), (Prod.mk 3 (vI (IntKind.wrap .i64 (x1 + 1))))] [])))
 (B [(Prod.mk 0 (Go.Value.string (s0))), (Prod.mk 3 (vI (IntKind.wrap .i64 (x1 + 1))))] []))))
 (bcase (x1 == 0)
 (k [(D.val (Value.bool false))])
 (bcase ((↑(UInt8.toNat b1) : Int) != 45)
 (bcase (decide ((↑(UInt8.toNat b1) : Int) < 48))
 (k [(D.val (Value.bool false))])
 (bcase (decide ((↑(UInt8.toNat b1) : Int) > 57))
 (k [(D.val (Value.bool false))])
 (B [(Prod.mk 0 (Go.Value.string (s0))), (Prod.mk 3 (vI (IntKind.wrap .i64 (x1 + 1))))] [])))
 (B [(Prod.mk 0 (Go.Value.string (s0))), (Prod.mk 3 (vI (IntKind.wrap .i64 (x1 + 1))))] [])))))
 (bcase (decide ((↑(UInt8.toNat b1) : Int) ≥ 65))
 (bcase (decide ((↑(UInt8.toNat b1) : Int) ≤ 90))
 (B [(Prod.mk 0 (Go.Value.string (s0))), (Prod.mk 3 (vI (IntKind.wrap .i64 (x1 + 1))))] [])
 (bcase (x1 == 0)
 (k [(D.val (Value.bool false))])
 (bcase ((↑(UInt8.toNat b1) : Int) != 45)
 (bcase (decide ((↑(UInt8.toNat b1) : Int) < 48))
 (k [(D.val (Value.bool false))])
 (bcase (decide ((↑(UInt8.toNat b1) : Int) > 57))
 (k [(D.val (Value.bool false))])
 (B [(Prod.mk 0 (Go.Value.string (s0))), (Prod.mk 3 (vI (IntKind.wrap .i64 (x1 + 1))))] [])))
 (B [(Prod.mk 0 (Go.Value.string (s0))), (Prod.mk 3 (vI (IntKind.wrap .i64 (x1 + 1))))] []))))
 (bcase (x1 == 0)
 (k [(D.val (Value.bool false))])
 (bcase ((↑(UInt8.toNat b1) : Int) != 45)
 (bcase (decide ((↑(UInt8.toNat b1) : Int) < 48))
 (k [(D.val (Value.bool false))])
 (bcase (decide ((↑(UInt8.toNat b1) : Int) > 57))
 (k [(D.val (Value.bool false))])
 (B [(Prod.mk 0 (Go.Value.string (s0))), (Prod.mk 3 (vI (IntKind.wrap .i64 (x1 + 1))))] [])))
 (B [(Prod.mk 0 (Go.Value.string (s0))), (Prod.mk 3 (vI (IntKind.wrap .i64 (x1 + 1))))] [])))))))
 False)
 (X 0 [] [])) := by kernel_rfl
def nIN2 (C : Ct) (L : AtLoop) (k : List D → Prop) : Prop := wpNext Tryz.prog (hG C) L 28 0 .normal [] [] (dataK k)
theorem nIN2_text (C : Ct) (L : AtLoop) (k : List D → Prop) : nIN2 C L k =
 (k [(D.val (Value.bool true))]) := by kernel_rfl
def gKD (C : Ct) (L : AtLoop) (s0 : ByteArray) (x1 : Int) (x2 : Int) (k : List D → Prop) : Prop := wpFn Tryz.prog (hG C) L 0 24 #[.agg #[.string s0, .int .i64 x1, .int .i64 x2]] (heapOf []) (dataK k)
theorem gKD_text (C : Ct) (L : AtLoop) (s0 : ByteArray) (x1 : Int) (x2 : Int) (k : List D → Prop) : gKD C L s0 x1 x2 k =
 (((((Go.Value.slice (Option.some (Go.Addr.mk 1001 0 Option.none)) 1 1) = (Go.Value.slice (Option.some (Go.Addr.mk 1001 0 Option.none)) 1 1)) ∧
 ((Option.some (AObj.cells [(vI x1)] 3 false 1)) = (Option.some (AObj.cells [(vI x1)] 3 false 1)))) ∧
 (((vI x1) = (vI x1)) ∧
 (((Go.Value.pointer (Option.some (Go.Addr.mk 1000 1 Option.none))) = (Go.Value.pointer (Option.some (Go.Addr.mk 1000 1 Option.none)))) ∧
 (((Go.Value.string (s0)) = (Go.Value.string (s0))) ∧
 (((Go.Value.pointer (Option.some (Go.Addr.mk 1000 0 Option.none))) = (Go.Value.pointer (Option.some (Go.Addr.mk 1000 0 Option.none)))) ∧
 True))))) ∧
 (∃ n1 : Int,
 ((Says C 56 [(D.val (Go.Value.string (s0)))] [(D.val (vI n1))]) ∧
 (((((Go.Value.slice (Option.some (Go.Addr.mk 1001 0 Option.none)) 1 1) = (Go.Value.slice (Option.some (Go.Addr.mk 1001 0 Option.none)) 1 1)) ∧
 ((Option.some (AObj.cells [(vI x1)] 3 false 1)) = (Option.some (AObj.cells [(vI x1)] 3 false 1)))) ∧
 (((vI x1) = (vI x1)) ∧
 (((Go.Value.pointer (Option.some (Go.Addr.mk 1000 1 Option.none))) = (Go.Value.pointer (Option.some (Go.Addr.mk 1000 1 Option.none)))) ∧
 (((Go.Value.pointer (Option.some (Go.Addr.mk 1000 0 Option.none))) = (Go.Value.pointer (Option.some (Go.Addr.mk 1000 0 Option.none)))) ∧
 True)))) ∧
 (((((Go.Value.slice (Option.some (Go.Addr.mk 1001 0 Option.none)) 1 1) = (Go.Value.slice (Option.some (Go.Addr.mk 1001 0 Option.none)) 1 1)) ∧
 ((Option.some (AObj.cells [(vI x1)] 3 false 1)) = (Option.some (AObj.cells [(vI x1)] 3 false 1)))) ∧
 (((vI x1) = (vI x1)) ∧
 (((Go.Value.pointer (Option.some (Go.Addr.mk 1000 1 Option.none))) = (Go.Value.pointer (Option.some (Go.Addr.mk 1000 1 Option.none)))) ∧
 (((Go.Value.pointer (Option.some (Go.Addr.mk 1000 0 Option.none))) = (Go.Value.pointer (Option.some (Go.Addr.mk 1000 0 Option.none)))) ∧
 True)))) ∧
 (bcase (decide (x1 < 4))
 (((((Go.Value.slice (Option.some (Go.Addr.mk 1004 0 Option.none)) 2 2) = (Go.Value.slice (Option.some (Go.Addr.mk 1004 0 Option.none)) 2 2)) ∧
 ((Option.some (AObj.cells [(vI n1), (vI (2 : Int))] 26 false 1)) = (Option.some (AObj.cells [(vI n1), (vI (2 : Int))] 26 false 1)))) ∧
 (((vI x1) = (vI x1)) ∧
 (((Go.Value.pointer (Option.some (Go.Addr.mk 1000 1 Option.none))) = (Go.Value.pointer (Option.some (Go.Addr.mk 1000 1 Option.none)))) ∧
 (((Go.Value.pointer (Option.some (Go.Addr.mk 1000 0 Option.none))) = (Go.Value.pointer (Option.some (Go.Addr.mk 1000 0 Option.none)))) ∧
 True)))) ∧
 (bcase (n1 != 0)
 ((((vI x1) = (vI x1)) ∧
 (((Go.Value.pointer (Option.some (Go.Addr.mk 1000 1 Option.none))) = (Go.Value.pointer (Option.some (Go.Addr.mk 1000 1 Option.none)))) ∧
 (((Go.Value.pointer (Option.some (Go.Addr.mk 1000 0 Option.none))) = (Go.Value.pointer (Option.some (Go.Addr.mk 1000 0 Option.none)))) ∧
 True))) ∧
 (True ∧
 (bcase (n1 != 0)
 (k [(D.val (vI n1))])
 (bcase (Int.tmod x1 4 != 0)
 (k [(D.val (vI (3 : Int)))])
 (((((Go.Value.slice (Option.some (Go.Addr.mk 1005 0 Option.none)) 1 1) = (Go.Value.slice (Option.some (Go.Addr.mk 1005 0 Option.none)) 1 1)) ∧
 ((Option.some (AObj.cells [(vI x2)] 3 false 1)) = (Option.some (AObj.cells [(vI x2)] 3 false 1)))) ∧
 (((vI x2) = (vI x2)) ∧
 (((Go.Value.pointer (Option.some (Go.Addr.mk 1000 2 Option.none))) = (Go.Value.pointer (Option.some (Go.Addr.mk 1000 2 Option.none)))) ∧
 (((vI (IntKind.wrap .i64 (x1 - 1))) = (vI (IntKind.wrap .i64 (x1 - 1)))) ∧
 (((vI x1) = (vI x1)) ∧
 (((Go.Value.pointer (Option.some (Go.Addr.mk 1000 1 Option.none))) = (Go.Value.pointer (Option.some (Go.Addr.mk 1000 1 Option.none)))) ∧
 True)))))) ∧
 (((((Go.Value.slice (Option.some (Go.Addr.mk 1005 0 Option.none)) 1 1) = (Go.Value.slice (Option.some (Go.Addr.mk 1005 0 Option.none)) 1 1)) ∧
 ((Option.some (AObj.cells [(vI x2)] 3 false 1)) = (Option.some (AObj.cells [(vI x2)] 3 false 1)))) ∧
 (((vI x2) = (vI x2)) ∧
 (((Go.Value.pointer (Option.some (Go.Addr.mk 1000 2 Option.none))) = (Go.Value.pointer (Option.some (Go.Addr.mk 1000 2 Option.none)))) ∧
 (((vI x1) = (vI x1)) ∧
 (((Go.Value.pointer (Option.some (Go.Addr.mk 1000 1 Option.none))) = (Go.Value.pointer (Option.some (Go.Addr.mk 1000 1 Option.none)))) ∧
 True))))) ∧
 (bcase (decide (x2 < 0))
 ((((vI x2) = (vI x2)) ∧
 (((Go.Value.pointer (Option.some (Go.Addr.mk 1000 2 Option.none))) = (Go.Value.pointer (Option.some (Go.Addr.mk 1000 2 Option.none)))) ∧
 (((vI x1) = (vI x1)) ∧
 (((Go.Value.pointer (Option.some (Go.Addr.mk 1000 1 Option.none))) = (Go.Value.pointer (Option.some (Go.Addr.mk 1000 1 Option.none)))) ∧
 True)))) ∧
 (True ∧
 (k [(D.val (vI (2 : Int)))])))
 (bcase (decide (x2 > IntKind.wrap .i64 (x1 - 1)))
 ((((vI x2) = (vI x2)) ∧
 (((Go.Value.pointer (Option.some (Go.Addr.mk 1000 2 Option.none))) = (Go.Value.pointer (Option.some (Go.Addr.mk 1000 2 Option.none)))) ∧
 (((vI x1) = (vI x1)) ∧
 (((Go.Value.pointer (Option.some (Go.Addr.mk 1000 1 Option.none))) = (Go.Value.pointer (Option.some (Go.Addr.mk 1000 1 Option.none)))) ∧
 True)))) ∧
 (True ∧
 (k [(D.val (vI (2 : Int)))])))
 ((((vI x2) = (vI x2)) ∧
 (((Go.Value.pointer (Option.some (Go.Addr.mk 1000 2 Option.none))) = (Go.Value.pointer (Option.some (Go.Addr.mk 1000 2 Option.none)))) ∧
 (((vI x1) = (vI x1)) ∧
 (((Go.Value.pointer (Option.some (Go.Addr.mk 1000 1 Option.none))) = (Go.Value.pointer (Option.some (Go.Addr.mk 1000 1 Option.none)))) ∧
 True)))) ∧
 (True ∧
 (k [(D.val (vI (0 : Int)))])))))))))))
 ((((vI x1) = (vI x1)) ∧
 (((Go.Value.pointer (Option.some (Go.Addr.mk 1000 1 Option.none))) = (Go.Value.pointer (Option.some (Go.Addr.mk 1000 1 Option.none)))) ∧
 (((Go.Value.pointer (Option.some (Go.Addr.mk 1000 0 Option.none))) = (Go.Value.pointer (Option.some (Go.Addr.mk 1000 0 Option.none)))) ∧
 True))) ∧
 (True ∧
 (k [(D.val (vI (2 : Int)))])))))
 (bcase (decide (x1 > 64))
 (((((Go.Value.slice (Option.some (Go.Addr.mk 1004 0 Option.none)) 2 2) = (Go.Value.slice (Option.some (Go.Addr.mk 1004 0 Option.none)) 2 2)) ∧
 ((Option.some (AObj.cells [(vI n1), (vI (2 : Int))] 26 false 1)) = (Option.some (AObj.cells [(vI n1), (vI (2 : Int))] 26 false 1)))) ∧
 (((vI x1) = (vI x1)) ∧
 (((Go.Value.pointer (Option.some (Go.Addr.mk 1000 1 Option.none))) = (Go.Value.pointer (Option.some (Go.Addr.mk 1000 1 Option.none)))) ∧
 (((Go.Value.pointer (Option.some (Go.Addr.mk 1000 0 Option.none))) = (Go.Value.pointer (Option.some (Go.Addr.mk 1000 0 Option.none)))) ∧
 True)))) ∧
 (bcase (n1 != 0)
 ((((vI x1) = (vI x1)) ∧
 (((Go.Value.pointer (Option.some (Go.Addr.mk 1000 1 Option.none))) = (Go.Value.pointer (Option.some (Go.Addr.mk 1000 1 Option.none)))) ∧
 (((Go.Value.pointer (Option.some (Go.Addr.mk 1000 0 Option.none))) = (Go.Value.pointer (Option.some (Go.Addr.mk 1000 0 Option.none)))) ∧
 True))) ∧
 (True ∧
 (bcase (n1 != 0)
 (k [(D.val (vI n1))])
 (bcase (Int.tmod x1 4 != 0)
 (k [(D.val (vI (3 : Int)))])
 (((((Go.Value.slice (Option.some (Go.Addr.mk 1005 0 Option.none)) 1 1) = (Go.Value.slice (Option.some (Go.Addr.mk 1005 0 Option.none)) 1 1)) ∧
 ((Option.some (AObj.cells [(vI x2)] 3 false 1)) = (Option.some (AObj.cells [(vI x2)] 3 false 1)))) ∧
 (((vI x2) = (vI x2)) ∧
 (((Go.Value.pointer (Option.some (Go.Addr.mk 1000 2 Option.none))) = (Go.Value.pointer (Option.some (Go.Addr.mk 1000 2 Option.none)))) ∧
 (((vI (IntKind.wrap .i64 (x1 - 1))) = (vI (IntKind.wrap .i64 (x1 - 1)))) ∧
 (((vI x1) = (vI x1)) ∧
 (((Go.Value.pointer (Option.some (Go.Addr.mk 1000 1 Option.none))) = (Go.Value.pointer (Option.some (Go.Addr.mk 1000 1 Option.none)))) ∧
 True)))))) ∧
 (((((Go.Value.slice (Option.some (Go.Addr.mk 1005 0 Option.none)) 1 1) = (Go.Value.slice (Option.some (Go.Addr.mk 1005 0 Option.none)) 1 1)) ∧
 ((Option.some (AObj.cells [(vI x2)] 3 false 1)) = (Option.some (AObj.cells [(vI x2)] 3 false 1)))) ∧
 (((vI x2) = (vI x2)) ∧
 (((Go.Value.pointer (Option.some (Go.Addr.mk 1000 2 Option.none))) = (Go.Value.pointer (Option.some (Go.Addr.mk 1000 2 Option.none)))) ∧
 (((vI x1) = (vI x1)) ∧
 (((Go.Value.pointer (Option.some (Go.Addr.mk 1000 1 Option.none))) = (Go.Value.pointer (Option.some (Go.Addr.mk 1000 1 Option.none)))) ∧
 True))))) ∧
 (bcase (decide (x2 < 0))
 ((((vI x2) = (vI x2)) ∧
 (((Go.Value.pointer (Option.some (Go.Addr.mk 1000 2 Option.none))) = (Go.Value.pointer (Option.some (Go.Addr.mk 1000 2 Option.none)))) ∧
 (((vI x1) = (vI x1)) ∧
 (((Go.Value.pointer (Option.some (Go.Addr.mk 1000 1 Option.none))) = (Go.Value.pointer (Option.some (Go.Addr.mk 1000 1 Option.none)))) ∧
 True)))) ∧
 (True ∧
 (k [(D.val (vI (2 : Int)))])))
 (bcase (decide (x2 > IntKind.wrap .i64 (x1 - 1)))
 ((((vI x2) = (vI x2)) ∧
 (((Go.Value.pointer (Option.some (Go.Addr.mk 1000 2 Option.none))) = (Go.Value.pointer (Option.some (Go.Addr.mk 1000 2 Option.none)))) ∧
 (((vI x1) = (vI x1)) ∧
 (((Go.Value.pointer (Option.some (Go.Addr.mk 1000 1 Option.none))) = (Go.Value.pointer (Option.some (Go.Addr.mk 1000 1 Option.none)))) ∧
 True)))) ∧
 (True ∧
 (k [(D.val (vI (2 : Int)))])))
 ((((vI x2) = (vI x2)) ∧
 (((Go.Value.pointer (Option.some (Go.Addr.mk 1000 2 Option.none))) = (Go.Value.pointer (Option.some (Go.Addr.mk 1000 2 Option.none)))) ∧
 (((vI x1) = (vI x1)) ∧
 (((Go.Value.pointer (Option.some (Go.Addr.mk 1000 1 Option.none))) = (Go.Value.pointer (Option.some (Go.Addr.mk 1000 1 Option.none)))) ∧
 True)))) ∧
 (True ∧
 (k [(D.val (vI (0 : Int)))])))))))))))
 ((((vI x1) = (vI x1)) ∧
 (((Go.Value.pointer (Option.some (Go.Addr.mk 1000 1 Option.none))) = (Go.Value.pointer (Option.some (Go.Addr.mk 1000 1 Option.none)))) ∧
 (((Go.Value.pointer (Option.some (Go.Addr.mk 1000 0 Option.none))) = (Go.Value.pointer (Option.some (Go.Addr.mk 1000 0 Option.none)))) ∧
 True))) ∧
 (True ∧
 (k [(D.val (vI (2 : Int)))])))))
 (((((Go.Value.slice (Option.some (Go.Addr.mk 1004 0 Option.none)) 2 2) = (Go.Value.slice (Option.some (Go.Addr.mk 1004 0 Option.none)) 2 2)) ∧
 ((Option.some (AObj.cells [(vI n1), (vI (0 : Int))] 26 false 1)) = (Option.some (AObj.cells [(vI n1), (vI (0 : Int))] 26 false 1)))) ∧
 (((vI x1) = (vI x1)) ∧
 (((Go.Value.pointer (Option.some (Go.Addr.mk 1000 1 Option.none))) = (Go.Value.pointer (Option.some (Go.Addr.mk 1000 1 Option.none)))) ∧
 (((Go.Value.pointer (Option.some (Go.Addr.mk 1000 0 Option.none))) = (Go.Value.pointer (Option.some (Go.Addr.mk 1000 0 Option.none)))) ∧
 True)))) ∧
 (bcase (n1 != 0)
 ((((vI x1) = (vI x1)) ∧
 (((Go.Value.pointer (Option.some (Go.Addr.mk 1000 1 Option.none))) = (Go.Value.pointer (Option.some (Go.Addr.mk 1000 1 Option.none)))) ∧
 (((Go.Value.pointer (Option.some (Go.Addr.mk 1000 0 Option.none))) = (Go.Value.pointer (Option.some (Go.Addr.mk 1000 0 Option.none)))) ∧
 True))) ∧
 (True ∧
 (bcase (n1 != 0)
 (k [(D.val (vI n1))])
 (bcase (Int.tmod x1 4 != 0)
 (k [(D.val (vI (3 : Int)))])
 (((((Go.Value.slice (Option.some (Go.Addr.mk 1005 0 Option.none)) 1 1) = (Go.Value.slice (Option.some (Go.Addr.mk 1005 0 Option.none)) 1 1)) ∧
 ((Option.some (AObj.cells [(vI x2)] 3 false 1)) = (Option.some (AObj.cells [(vI x2)] 3 false 1)))) ∧
 (((vI x2) = (vI x2)) ∧
 (((Go.Value.pointer (Option.some (Go.Addr.mk 1000 2 Option.none))) = (Go.Value.pointer (Option.some (Go.Addr.mk 1000 2 Option.none)))) ∧
 (((vI (IntKind.wrap .i64 (x1 - 1))) = (vI (IntKind.wrap .i64 (x1 - 1)))) ∧
 (((vI x1) = (vI x1)) ∧
 (((Go.Value.pointer (Option.some (Go.Addr.mk 1000 1 Option.none))) = (Go.Value.pointer (Option.some (Go.Addr.mk 1000 1 Option.none)))) ∧
 True)))))) ∧
 (((((Go.Value.slice (Option.some (Go.Addr.mk 1005 0 Option.none)) 1 1) = (Go.Value.slice (Option.some (Go.Addr.mk 1005 0 Option.none)) 1 1)) ∧
 ((Option.some (AObj.cells [(vI x2)] 3 false 1)) = (Option.some (AObj.cells [(vI x2)] 3 false 1)))) ∧
 (((vI x2) = (vI x2)) ∧
 (((Go.Value.pointer (Option.some (Go.Addr.mk 1000 2 Option.none))) = (Go.Value.pointer (Option.some (Go.Addr.mk 1000 2 Option.none)))) ∧
 (((vI x1) = (vI x1)) ∧
 (((Go.Value.pointer (Option.some (Go.Addr.mk 1000 1 Option.none))) = (Go.Value.pointer (Option.some (Go.Addr.mk 1000 1 Option.none)))) ∧
 True))))) ∧
 (bcase (decide (x2 < 0))
 ((((vI x2) = (vI x2)) ∧
 (((Go.Value.pointer (Option.some (Go.Addr.mk 1000 2 Option.none))) = (Go.Value.pointer (Option.some (Go.Addr.mk 1000 2 Option.none)))) ∧
 (((vI x1) = (vI x1)) ∧
 (((Go.Value.pointer (Option.some (Go.Addr.mk 1000 1 Option.none))) = (Go.Value.pointer (Option.some (Go.Addr.mk 1000 1 Option.none)))) ∧
 True)))) ∧
 (True ∧
 (k [(D.val (vI (2 : Int)))])))
 (bcase (decide (x2 > IntKind.wrap .i64 (x1 - 1)))
 ((((vI x2) = (vI x2)) ∧
 (((Go.Value.pointer (Option.some (Go.Addr.mk 1000 2 Option.none))) = (Go.Value.pointer (Option.some (Go.Addr.mk 1000 2 Option.none)))) ∧
 (((vI x1) = (vI x1)) ∧
 (((Go.Value.pointer (Option.some (Go.Addr.mk 1000 1 Option.none))) = (Go.Value.pointer (Option.some (Go.Addr.mk 1000 1 Option.none)))) ∧
 True)))) ∧
 (True ∧
 (k [(D.val (vI (2 : Int)))])))
 ((((vI x2) = (vI x2)) ∧
 (((Go.Value.pointer (Option.some (Go.Addr.mk 1000 2 Option.none))) = (Go.Value.pointer (Option.some (Go.Addr.mk 1000 2 Option.none)))) ∧
 (((vI x1) = (vI x1)) ∧
 (((Go.Value.pointer (Option.some (Go.Addr.mk 1000 1 Option.none))) = (Go.Value.pointer (Option.some (Go.Addr.mk 1000 1 Option.none)))) ∧
 True)))) ∧
 (True ∧
 (k [(D.val (vI (0 : Int)))])))))))))))
 ((((vI x1) = (vI x1)) ∧
 (((Go.Value.pointer (Option.some (Go.Addr.mk 1000 1 Option.none))) = (Go.Value.pointer (Option.some (Go.Addr.mk 1000 1 Option.none)))) ∧
 (((Go.Value.pointer (Option.some (Go.Addr.mk 1000 0 Option.none))) = (Go.Value.pointer (Option.some (Go.Addr.mk 1000 0 Option.none)))) ∧
 True))) ∧
 (True ∧
 (bcase (Int.tmod x1 4 != 0)
 (k [(D.val (vI (3 : Int)))])
 (((((Go.Value.slice (Option.some (Go.Addr.mk 1005 0 Option.none)) 1 1) = (Go.Value.slice (Option.some (Go.Addr.mk 1005 0 Option.none)) 1 1)) ∧
 ((Option.some (AObj.cells [(vI x2)] 3 false 1)) = (Option.some (AObj.cells [(vI x2)] 3 false 1)))) ∧
 (((vI x2) = (vI x2)) ∧
 (((Go.Value.pointer (Option.some (Go.Addr.mk 1000 2 Option.none))) = (Go.Value.pointer (Option.some (Go.Addr.mk 1000 2 Option.none)))) ∧
 (((vI (IntKind.wrap .i64 (x1 - 1))) = (vI (IntKind.wrap .i64 (x1 - 1)))) ∧
 (((vI x1) = (vI x1)) ∧
 (((Go.Value.pointer (Option.some (Go.Addr.mk 1000 1 Option.none))) = (Go.Value.pointer (Option.some (Go.Addr.mk 1000 1 Option.none)))) ∧
 True)))))) ∧
 (((((Go.Value.slice (Option.some (Go.Addr.mk 1005 0 Option.none)) 1 1) = (Go.Value.slice (Option.some (Go.Addr.mk 1005 0 Option.none)) 1 1)) ∧
 ((Option.some (AObj.cells [(vI x2)] 3 false 1)) = (Option.some (AObj.cells [(vI x2)] 3 false 1)))) ∧
 (((vI x2) = (vI x2)) ∧
 (((Go.Value.pointer (Option.some (Go.Addr.mk 1000 2 Option.none))) = (Go.Value.pointer (Option.some (Go.Addr.mk 1000 2 Option.none)))) ∧
 (((vI x1) = (vI x1)) ∧
 (((Go.Value.pointer (Option.some (Go.Addr.mk 1000 1 Option.none))) = (Go.Value.pointer (Option.some (Go.Addr.mk 1000 1 Option.none)))) ∧
 True))))) ∧
 (bcase (decide (x2 < 0))
 ((((vI x2) = (vI x2)) ∧
 (((Go.Value.pointer (Option.some (Go.Addr.mk 1000 2 Option.none))) = (Go.Value.pointer (Option.some (Go.Addr.mk 1000 2 Option.none)))) ∧
 (((vI x1) = (vI x1)) ∧
 (((Go.Value.pointer (Option.some (Go.Addr.mk 1000 1 Option.none))) = (Go.Value.pointer (Option.some (Go.Addr.mk 1000 1 Option.none)))) ∧
 True)))) ∧
 (True ∧
 (k [(D.val (vI (2 : Int)))])))
 (bcase (decide (x2 > IntKind.wrap .i64 (x1 - 1)))
 ((((vI x2) = (vI x2)) ∧
 (((Go.Value.pointer (Option.some (Go.Addr.mk 1000 2 Option.none))) = (Go.Value.pointer (Option.some (Go.Addr.mk 1000 2 Option.none)))) ∧
 (((vI x1) = (vI x1)) ∧
 (((Go.Value.pointer (Option.some (Go.Addr.mk 1000 1 Option.none))) = (Go.Value.pointer (Option.some (Go.Addr.mk 1000 1 Option.none)))) ∧
 True)))) ∧
 (True ∧
 (k [(D.val (vI (2 : Int)))])))
 ((((vI x2) = (vI x2)) ∧
 (((Go.Value.pointer (Option.some (Go.Addr.mk 1000 2 Option.none))) = (Go.Value.pointer (Option.some (Go.Addr.mk 1000 2 Option.none)))) ∧
 (((vI x1) = (vI x1)) ∧
 (((Go.Value.pointer (Option.some (Go.Addr.mk 1000 1 Option.none))) = (Go.Value.pointer (Option.some (Go.Addr.mk 1000 1 Option.none)))) ∧
 True)))) ∧
 (True ∧
 (k [(D.val (vI (0 : Int)))]))))))))))))))))))) := by kernel_rfl
def gRK (C : Ct) (L : AtLoop) (s0 : ByteArray) (x1 : Int) (x2 : Int) (k : List D → Prop) : Prop := wpFn Tryz.prog (hG C) L 0 9 #[.agg #[.string s0, .int .i64 x1, .int .i64 x2]] (heapOf []) (dataK k)
theorem gRK_text (C : Ct) (L : AtLoop) (s0 : ByteArray) (x1 : Int) (x2 : Int) (k : List D → Prop) : gRK C L s0 x1 x2 k =
 (((Says C 28 [(D.val (Go.Value.string (s0)))] [(D.val (Value.bool true))]) ∧
 (((Says C 29 [(D.val (vI x1)), (D.val (vI (4 : Int))), (D.val (vI (64 : Int)))] [(D.val (Value.bool true))]) ∧
 (bcase (Int.tmod x1 4 != 0)
 (k [(D.val (vI (3 : Int)))])
 (((Says C 29 [(D.val (vI x2)), (D.val (vI (0 : Int))), (D.val (vI (IntKind.wrap .i64 (x1 - 1))))] [(D.val (Value.bool true))]) ∧
 (k [(D.val (vI (0 : Int)))])) ∨
 ((Says C 29 [(D.val (vI x2)), (D.val (vI (0 : Int))), (D.val (vI (IntKind.wrap .i64 (x1 - 1))))] [(D.val (Value.bool false))]) ∧
 (k [(D.val (vI (2 : Int)))]))))) ∨
 ((Says C 29 [(D.val (vI x1)), (D.val (vI (4 : Int))), (D.val (vI (64 : Int)))] [(D.val (Value.bool false))]) ∧
 (k [(D.val (vI (2 : Int)))])))) ∨
 ((Says C 28 [(D.val (Go.Value.string (s0)))] [(D.val (Value.bool false))]) ∧
 (k [(D.val (vI (4 : Int)))]))) := by kernel_rfl
def gFD (C : Ct) (L : AtLoop) (s0 : ByteArray) (x1 : Int) (x2 : Int) (k : List D → Prop) : Prop := wpFn Tryz.prog (hG C) L 0 5 #[.agg #[.string s0, .int .i64 x1, .int .i64 x2]] (heapOf []) (dataK k)
theorem gFD_text (C : Ct) (L : AtLoop) (s0 : ByteArray) (x1 : Int) (x2 : Int) (k : List D → Prop) : gFD C L s0 x1 x2 k =
 ((((vI x2) = (vI x2)) ∧
 (((Go.Value.pointer (Option.some (Go.Addr.mk 1000 2 Option.none))) = (Go.Value.pointer (Option.some (Go.Addr.mk 1000 2 Option.none)))) ∧
 (((vI x1) = (vI x1)) ∧
 (((Go.Value.pointer (Option.some (Go.Addr.mk 1000 1 Option.none))) = (Go.Value.pointer (Option.some (Go.Addr.mk 1000 1 Option.none)))) ∧
 (((Go.Value.string (s0)) = (Go.Value.string (s0))) ∧
 (((Go.Value.pointer (Option.some (Go.Addr.mk 1000 0 Option.none))) = (Go.Value.pointer (Option.some (Go.Addr.mk 1000 0 Option.none)))) ∧
 True)))))) ∧
 (∃ s1 : ByteArray,
 ((Says C 21 [(D.val (vI x1))] [(D.val (Go.Value.string (s1)))]) ∧
 ((((vI x2) = (vI x2)) ∧
 (((Go.Value.pointer (Option.some (Go.Addr.mk 1000 2 Option.none))) = (Go.Value.pointer (Option.some (Go.Addr.mk 1000 2 Option.none)))) ∧
 (((Go.Value.pointer (Option.some (Go.Addr.mk 1000 1 Option.none))) = (Go.Value.pointer (Option.some (Go.Addr.mk 1000 1 Option.none)))) ∧
 (((Go.Value.string (s0)) = (Go.Value.string (s0))) ∧
 (((Go.Value.pointer (Option.some (Go.Addr.mk 1000 0 Option.none))) = (Go.Value.pointer (Option.some (Go.Addr.mk 1000 0 Option.none)))) ∧
 True))))) ∧
 (∃ s2 : ByteArray,
 ((Says C 21 [(D.val (vI x2))] [(D.val (Go.Value.string (s2)))]) ∧
 (((((Go.Value.slice (Option.some (Go.Addr.mk 1001 0 Option.none)) 3 3) = (Go.Value.slice (Option.some (Go.Addr.mk 1001 0 Option.none)) 3 3)) ∧
 ((Option.some (AObj.cells [(Go.Value.string (s0)), (Go.Value.string (s1)), (Go.Value.string (s2))] 9 false 1)) = (Option.some (AObj.cells [(Go.Value.string (s0)), (Go.Value.string (s1)), (Go.Value.string (s2))] 9 false 1)))) ∧
 (((Go.Value.pointer (Option.some (Go.Addr.mk 1000 2 Option.none))) = (Go.Value.pointer (Option.some (Go.Addr.mk 1000 2 Option.none)))) ∧
 (((Go.Value.pointer (Option.some (Go.Addr.mk 1000 1 Option.none))) = (Go.Value.pointer (Option.some (Go.Addr.mk 1000 1 Option.none)))) ∧
 (((Go.Value.string (s0)) = (Go.Value.string (s0))) ∧
 (((Go.Value.pointer (Option.some (Go.Addr.mk 1000 0 Option.none))) = (Go.Value.pointer (Option.some (Go.Addr.mk 1000 0 Option.none)))) ∧
 True))))) ∧
 (∃ s3 : ByteArray,
 ((Says C 20 [(D.sl 3 1 [(Go.Value.string (s0)), (Go.Value.string (s1)), (Go.Value.string (s2))]), (D.val (Go.Value.string ({ data := #[32] })))] [(D.val (Go.Value.string (s3)))]) ∧
 ((((Go.Value.pointer (Option.some (Go.Addr.mk 1000 2 Option.none))) = (Go.Value.pointer (Option.some (Go.Addr.mk 1000 2 Option.none)))) ∧
 (((Go.Value.pointer (Option.some (Go.Addr.mk 1000 1 Option.none))) = (Go.Value.pointer (Option.some (Go.Addr.mk 1000 1 Option.none)))) ∧
 (((Go.Value.string (s0)) = (Go.Value.string (s0))) ∧
 (((Go.Value.pointer (Option.some (Go.Addr.mk 1000 0 Option.none))) = (Go.Value.pointer (Option.some (Go.Addr.mk 1000 0 Option.none)))) ∧
 True)))) ∧
 (True ∧
 (k [(D.val (Go.Value.string (s3)))])))))))))))) := by kernel_rfl
def gRF (C : Ct) (L : AtLoop) (s0 : ByteArray) (x1 : Int) (x2 : Int) (k : List D → Prop) : Prop := wpFn Tryz.prog (hG C) L 0 8 #[.agg #[.string s0, .int .i64 x1, .int .i64 x2]] (heapOf []) (dataK k)
theorem gRF_text (C : Ct) (L : AtLoop) (s0 : ByteArray) (x1 : Int) (x2 : Int) (k : List D → Prop) : gRF C L s0 x1 x2 k =
 (bcase (decide (ByteArray.size s0 + 1 ≤ 9223372036854775807))
 ((((vI x2) = (vI x2)) ∧
 (((Go.Value.pointer (Option.some (Go.Addr.mk 1000 2 Option.none))) = (Go.Value.pointer (Option.some (Go.Addr.mk 1000 2 Option.none)))) ∧
 (((vI x1) = (vI x1)) ∧
 (((Go.Value.pointer (Option.some (Go.Addr.mk 1000 1 Option.none))) = (Go.Value.pointer (Option.some (Go.Addr.mk 1000 1 Option.none)))) ∧
 ((bcase (decide (ByteArray.size s0 + 1 ≤ 9223372036854775807))
 ((Go.Value.string (s0 ++ { data := #[32] })) = (Go.Value.string (s0 ++ { data := #[32] })))
 False) ∧
 (((Go.Value.string (s0)) = (Go.Value.string (s0))) ∧
 (((Go.Value.pointer (Option.some (Go.Addr.mk 1000 0 Option.none))) = (Go.Value.pointer (Option.some (Go.Addr.mk 1000 0 Option.none)))) ∧
 True))))))) ∧
 (∃ s1 : ByteArray,
 ((Says C 27 [(D.val (vI x1))] [(D.val (Go.Value.string (s1)))]) ∧
 (bcase (decide (ByteArray.size (s0 ++ { data := #[32] }) + ByteArray.size s1 ≤ 9223372036854775807))
 (bcase (decide (ByteArray.size (s0 ++ { data := #[32] } ++ s1) + 1 ≤ 9223372036854775807))
 (((bcase (decide (ByteArray.size (s0 ++ { data := #[32] } ++ s1) + 1 ≤ 9223372036854775807))
 ((Go.Value.string (s0 ++ { data := #[32] } ++ s1 ++ { data := #[32] })) = (Go.Value.string (s0 ++ { data := #[32] } ++ s1 ++ { data := #[32] })))
 False) ∧
 ((bcase (decide (ByteArray.size (s0 ++ { data := #[32] }) + ByteArray.size s1 ≤ 9223372036854775807))
 ((Go.Value.string (s0 ++ { data := #[32] } ++ s1)) = (Go.Value.string (s0 ++ { data := #[32] } ++ s1)))
 False) ∧
 (((vI x2) = (vI x2)) ∧
 (((Go.Value.pointer (Option.some (Go.Addr.mk 1000 2 Option.none))) = (Go.Value.pointer (Option.some (Go.Addr.mk 1000 2 Option.none)))) ∧
 (((Go.Value.pointer (Option.some (Go.Addr.mk 1000 1 Option.none))) = (Go.Value.pointer (Option.some (Go.Addr.mk 1000 1 Option.none)))) ∧
 ((bcase (decide (ByteArray.size s0 + 1 ≤ 9223372036854775807))
 ((Go.Value.string (s0 ++ { data := #[32] })) = (Go.Value.string (s0 ++ { data := #[32] })))
 False) ∧
 (((Go.Value.string (s0)) = (Go.Value.string (s0))) ∧
 (((Go.Value.pointer (Option.some (Go.Addr.mk 1000 0 Option.none))) = (Go.Value.pointer (Option.some (Go.Addr.mk 1000 0 Option.none)))) ∧
 True)))))))) ∧
 (∃ s2 : ByteArray,
 ((Says C 27 [(D.val (vI x2))] [(D.val (Go.Value.string (s2)))]) ∧
 (bcase (decide (ByteArray.size (s0 ++ { data := #[32] } ++ s1 ++ { data := #[32] }) + ByteArray.size s2 ≤ 9223372036854775807))
 (((bcase (decide (ByteArray.size (s0 ++ { data := #[32] } ++ s1 ++ { data := #[32] }) + ByteArray.size s2 ≤ 9223372036854775807))
 ((Go.Value.string (s0 ++ { data := #[32] } ++ s1 ++ { data := #[32] } ++ s2)) = (Go.Value.string (s0 ++ { data := #[32] } ++ s1 ++ { data := #[32] } ++ s2)))
 False) ∧
 ((bcase (decide (ByteArray.size (s0 ++ { data := #[32] } ++ s1) + 1 ≤ 9223372036854775807))
 ((Go.Value.string (s0 ++ { data := #[32] } ++ s1 ++ { data := #[32] })) = (Go.Value.string (s0 ++ { data := #[32] } ++ s1 ++ { data := #[32] })))
 False) ∧
 ((bcase (decide (ByteArray.size (s0 ++ { data := #[32] }) + ByteArray.size s1 ≤ 9223372036854775807))
 ((Go.Value.string (s0 ++ { data := #[32] } ++ s1)) = (Go.Value.string (s0 ++ { data := #[32] } ++ s1)))
 False) ∧
 (((Go.Value.pointer (Option.some (Go.Addr.mk 1000 2 Option.none))) = (Go.Value.pointer (Option.some (Go.Addr.mk 1000 2 Option.none)))) ∧
 (((Go.Value.pointer (Option.some (Go.Addr.mk 1000 1 Option.none))) = (Go.Value.pointer (Option.some (Go.Addr.mk 1000 1 Option.none)))) ∧
 ((bcase (decide (ByteArray.size s0 + 1 ≤ 9223372036854775807))
 ((Go.Value.string (s0 ++ { data := #[32] })) = (Go.Value.string (s0 ++ { data := #[32] })))
 False) ∧
 (((Go.Value.string (s0)) = (Go.Value.string (s0))) ∧
 (((Go.Value.pointer (Option.some (Go.Addr.mk 1000 0 Option.none))) = (Go.Value.pointer (Option.some (Go.Addr.mk 1000 0 Option.none)))) ∧
 True)))))))) ∧
 (True ∧
 (k [(D.val (Go.Value.string (s0 ++ { data := #[32] } ++ s1 ++ { data := #[32] } ++ s2)))])))
 False))))
 False)
 False))))
 False) := by kernel_rfl
def gPD (C : Ct) (L : AtLoop) (s0 : ByteArray) (k : List D → Prop) : Prop := wpFn Tryz.prog (hG C) L 0 6 #[.string s0] (heapOf []) (dataK k)
theorem gPD_text (C : Ct) (L : AtLoop) (s0 : ByteArray) (k : List D → Prop) : gPD C L s0 k =
 (((Says C 22 [(D.val (Go.Value.string (s0))), (D.val (Go.Value.string ({ data := #[32] })))] [D.nil]) ∧
 (k [(D.agg [(D.val (Go.Value.string ({ data := #[] }))), (D.val (vI (0 : Int))), (D.val (vI (0 : Int)))]), (D.val (vI (7 : Int)))])) ∨
 (∃ n1 : Nat,
 (∃ cs1 : List Go.Value,
 ((Says C 22 [(D.val (Go.Value.string (s0))), (D.val (Go.Value.string ({ data := #[32] })))] [(D.sl (n1) 1 (cs1))]) ∧
 (bcase ((↑n1 : Int) != 3)
 (k [(D.agg [(D.val (Go.Value.string ({ data := #[] }))), (D.val (vI (0 : Int))), (D.val (vI (0 : Int)))]), (D.val (vI (7 : Int)))])
 (bcase (decide (0 < (↑n1 : Int)))
 (∃ s1 : ByteArray,
 ((At (cs1) 0 1 [(Go.Value.string (s1))]) ∧
 (bcase (ByteArray.toList s1 == ByteArray.toList { data := #[] })
 (k [(D.agg [(D.val (Go.Value.string ({ data := #[] }))), (D.val (vI (0 : Int))), (D.val (vI (0 : Int)))]), (D.val (vI (7 : Int)))])
 (bcase (decide (1 < (↑n1 : Int)))
 (∃ s2 : ByteArray,
 ((At (cs1) 1 1 [(Go.Value.string (s2))]) ∧
 (∃ n2 : Int,
 (((Says C 23 [(D.val (Go.Value.string (s2)))] [(D.val (vI n2)), (D.val (Value.bool true))]) ∧
 (bcase (decide (2 < (↑n1 : Int)))
 (∃ s3 : ByteArray,
 ((At (cs1) 2 1 [(Go.Value.string (s3))]) ∧
 (∃ n3 : Int,
 (((Says C 23 [(D.val (Go.Value.string (s3)))] [(D.val (vI n3)), (D.val (Value.bool true))]) ∧
 (bcase (decide (0 < (↑n1 : Int)))
 (∃ s4 : ByteArray,
 ((At (cs1) 0 1 [(Go.Value.string (s4))]) ∧
 (∃ n4 : Int,
 ((Says C 24 [(D.agg [(D.val (Go.Value.string (s4))), (D.val (vI n2)), (D.val (vI n3))])] [(D.val (vI n4))]) ∧
 (bcase (n4 != 0)
 (k [(D.agg [(D.val (Go.Value.string ({ data := #[] }))), (D.val (vI (0 : Int))), (D.val (vI (0 : Int)))]), (D.val (vI n4))])
 (k [(D.agg [(D.val (Go.Value.string (s4))), (D.val (vI n2)), (D.val (vI n3))]), (D.val (vI (0 : Int)))]))))))
 False)) ∨
 ((Says C 23 [(D.val (Go.Value.string (s3)))] [(D.val (vI n3)), (D.val (Value.bool false))]) ∧
 (k [(D.agg [(D.val (Go.Value.string ({ data := #[] }))), (D.val (vI (0 : Int))), (D.val (vI (0 : Int)))]), (D.val (vI (7 : Int)))]))))))
 False)) ∨
 ((Says C 23 [(D.val (Go.Value.string (s2)))] [(D.val (vI n2)), (D.val (Value.bool false))]) ∧
 (bcase (decide (2 < (↑n1 : Int)))
 (∃ s3 : ByteArray,
 ((At (cs1) 2 1 [(Go.Value.string (s3))]) ∧
 (∃ n3 : Int,
 (((Says C 23 [(D.val (Go.Value.string (s3)))] [(D.val (vI n3)), (D.val (Value.bool true))]) ∧
 (k [(D.agg [(D.val (Go.Value.string ({ data := #[] }))), (D.val (vI (0 : Int))), (D.val (vI (0 : Int)))]), (D.val (vI (7 : Int)))])) ∨
 ((Says C 23 [(D.val (Go.Value.string (s3)))] [(D.val (vI n3)), (D.val (Value.bool false))]) ∧
 (k [(D.agg [(D.val (Go.Value.string ({ data := #[] }))), (D.val (vI (0 : Int))), (D.val (vI (0 : Int)))]), (D.val (vI (7 : Int)))]))))))
 False))))))
 False))))
 False)))))) := by kernel_rfl
def gRP (C : Ct) (L : AtLoop) (s0 : ByteArray) (k : List D → Prop) : Prop := wpFn Tryz.prog (hG C) L 0 7 #[.string s0] (heapOf []) (dataK k)
theorem gRP_text (C : Ct) (L : AtLoop) (s0 : ByteArray) (k : List D → Prop) : gRP C L s0 k =
 (((Says C 25 [(D.val (Go.Value.string (s0))), (D.val (Go.Value.int Go.IntKind.u8 (32 : Int)))] [D.nil]) ∧
 (k [(D.agg [(D.val (Go.Value.string ({ data := #[] }))), (D.val (vI (0 : Int))), (D.val (vI (0 : Int)))]), (D.val (vI (7 : Int)))])) ∨
 (∃ n1 : Nat,
 (∃ cs1 : List Go.Value,
 ((Says C 25 [(D.val (Go.Value.string (s0))), (D.val (Go.Value.int Go.IntKind.u8 (32 : Int)))] [(D.sl (n1) 1 (cs1))]) ∧
 (bcase ((↑n1 : Int) != 3)
 (k [(D.agg [(D.val (Go.Value.string ({ data := #[] }))), (D.val (vI (0 : Int))), (D.val (vI (0 : Int)))]), (D.val (vI (7 : Int)))])
 (bcase (decide (0 < (↑n1 : Int)))
 (∃ s1 : ByteArray,
 ((At (cs1) 0 1 [(Go.Value.string (s1))]) ∧
 (bcase (ByteArray.toList s1 == ByteArray.toList { data := #[] })
 (k [(D.agg [(D.val (Go.Value.string ({ data := #[] }))), (D.val (vI (0 : Int))), (D.val (vI (0 : Int)))]), (D.val (vI (7 : Int)))])
 (bcase (decide (0 < (↑n1 : Int)))
 (∃ s2 : ByteArray,
 ((At (cs1) 0 1 [(Go.Value.string (s2))]) ∧
 (L 0 [(Prod.mk 2 (Go.Value.pointer (Option.some (Go.Addr.mk 1000 0 Option.none)))), (Prod.mk 4 (Go.Value.slice (Option.some (Go.Addr.mk 1001 0 Option.none)) (n1) (n1))), (Prod.mk 5 (Go.Value.pointer (Option.some (Go.Addr.mk 1002 0 Option.none)))), (Prod.mk 6 (vI (1 : Int)))] [(Prod.mk 1000 (AObj.cells [(Go.Value.string ({ data := #[] })), (vI (0 : Int)), (vI (0 : Int))] 23 false 3)), (Prod.mk 1001 (AObj.sym (cs1) true 1)), (Prod.mk 1002 (AObj.cells [(Go.Value.string (s2)), (vI (0 : Int)), (vI (0 : Int))] 23 false 3))])))
 False))))
 False)))))) := by kernel_rfl
abbrev zRP1 (n0 : Nat) (x1 : Int) (s2 : ByteArray) (x3 : Int) (x4 : Int) (l5 : List Value) (s6 : ByteArray) (x7 : Int) (x8 : Int) : Slots × Blocks := ([(2, (Value.pointer (some ⟨1000, 0, none⟩))), (4, (Value.slice (some ⟨1001, 0, none⟩) n0 n0)), (5, (Value.pointer (some ⟨1002, 0, none⟩))), (6, (Value.int .i64 x1))], [(1000, (AObj.cells [(Value.string s2), (Value.int .i64 x3), (Value.int .i64 x4)] 23 false 3)), (1001, (AObj.sym l5 true 1)), (1002, (AObj.cells [(Value.string s6), (Value.int .i64 x7), (Value.int .i64 x8)] 23 false 3))])
def rRP1 (C : Ct) (L : AtLoop) (n0 : Nat) (x1 : Int) (s2 : ByteArray) (x3 : Int) (x4 : Int) (l5 : List Value) (s6 : ByteArray) (x7 : Int) (x8 : Int) (B : Bx) (X : Xx) (k : List D → Prop) : Prop := wpRound Tryz.prog (hG C) L 7 0 [(2, (Value.pointer (some ⟨1000, 0, none⟩))), (4, (Value.slice (some ⟨1001, 0, none⟩) n0 n0)), (5, (Value.pointer (some ⟨1002, 0, none⟩))), (6, (Value.int .i64 x1))] [(1000, (AObj.cells [(Value.string s2), (Value.int .i64 x3), (Value.int .i64 x4)] 23 false 3)), (1001, (AObj.sym l5 true 1)), (1002, (AObj.cells [(Value.string s6), (Value.int .i64 x7), (Value.int .i64 x8)] 23 false 3))] B X (dataK k)
theorem rRP1_text (C : Ct) (L : AtLoop) (n0 : Nat) (x1 : Int) (s2 : ByteArray) (x3 : Int) (x4 : Int) (l5 : List Go.Value) (s6 : ByteArray) (x7 : Int) (x8 : Int) (B : Bx) (X : Xx) (k : List D → Prop) : rRP1 C L n0 x1 s2 x3 x4 l5 s6 x7 x8 B X k =
 (bcase (decide (x1 < 3))
 (bcase (decide (0 ≤ x1))
 (bcase (decide (x1 < (↑n0 : Int)))
 (∃ s1 : ByteArray,
 ((At (l5) (0 + Int.toNat x1 * 1) 1 [(Go.Value.string (s1))]) ∧
 (∃ n1 : Int,
 (((Says C 26 [(D.val (Go.Value.string (s1))), (D.val (vI (4 : Int)))] [(D.val (vI n1)), (D.val (Value.bool true))]) ∧
 (bcase (decide (0 ≤ x1))
 (bcase (decide (x1 < (↑n0 : Int)))
 (∃ s3 : ByteArray,
 ((At (l5) (0 + Int.toNat x1 * 1) 1 [(Go.Value.string (s3))]) ∧
 (∃ b1 : UInt8,
 ((ByteAt (s3) 0 (b1)) ∧
 (bcase ((↑(UInt8.toNat b1) : Int) == 45)
 (k [(D.agg [(D.val (Go.Value.string ({ data := #[] }))), (D.val (vI (0 : Int))), (D.val (vI (0 : Int)))]), (D.val (vI (7 : Int)))])
 (bcase (x1 == 1)
 (B [(Prod.mk 2 (Go.Value.pointer (Option.some (Go.Addr.mk 1000 0 Option.none)))), (Prod.mk 4 (Go.Value.slice (Option.some (Go.Addr.mk 1001 0 Option.none)) (n0) (n0))), (Prod.mk 5 (Go.Value.pointer (Option.some (Go.Addr.mk 1002 0 Option.none)))), (Prod.mk 6 (vI (IntKind.wrap .i64 (x1 + 1))))] [(Prod.mk 1000 (AObj.cells [(Go.Value.string (s2)), (vI x3), (vI x4)] 23 false 3)), (Prod.mk 1001 (AObj.sym (l5) true 1)), (Prod.mk 1002 (AObj.cells [(Go.Value.string (s6)), (vI n1), (vI x8)] 23 false 3))])
 (B [(Prod.mk 2 (Go.Value.pointer (Option.some (Go.Addr.mk 1000 0 Option.none)))), (Prod.mk 4 (Go.Value.slice (Option.some (Go.Addr.mk 1001 0 Option.none)) (n0) (n0))), (Prod.mk 5 (Go.Value.pointer (Option.some (Go.Addr.mk 1002 0 Option.none)))), (Prod.mk 6 (vI (IntKind.wrap .i64 (x1 + 1))))] [(Prod.mk 1000 (AObj.cells [(Go.Value.string (s2)), (vI x3), (vI x4)] 23 false 3)), (Prod.mk 1001 (AObj.sym (l5) true 1)), (Prod.mk 1002 (AObj.cells [(Go.Value.string (s6)), (vI x7), (vI n1)] 23 false 3))])))))))
 False)
 False)) ∨
 ((Says C 26 [(D.val (Go.Value.string (s1))), (D.val (vI (4 : Int)))] [(D.val (vI n1)), (D.val (Value.bool false))]) ∧
 (k [(D.agg [(D.val (Go.Value.string ({ data := #[] }))), (D.val (vI (0 : Int))), (D.val (vI (0 : Int)))]), (D.val (vI (7 : Int)))]))))))
 False)
 False)
 (X 0 [(Prod.mk 2 (Go.Value.pointer (Option.some (Go.Addr.mk 1000 0 Option.none)))), (Prod.mk 5 (Go.Value.pointer (Option.some (Go.Addr.mk 1001 0 Option.none))))] [(Prod.mk 1000 (AObj.cells [(Go.Value.string (s2)), (vI x3), (vI x4)] 23 false 3)), (Prod.mk 1001 (AObj.cells [(Go.Value.string (s6)), (vI x7), (vI x8)] 23 false 3))])) := by kernel_rfl
def nRP2 (C : Ct) (L : AtLoop) (s0 : ByteArray) (x1 : Int) (x2 : Int) (s3 : ByteArray) (x4 : Int) (x5 : Int) (k : List D → Prop) : Prop := wpNext Tryz.prog (hG C) L 7 0 .normal [(2, (Value.pointer (some ⟨1000, 0, none⟩))), (5, (Value.pointer (some ⟨1001, 0, none⟩)))] [(1000, (AObj.cells [(Value.string s0), (Value.int .i64 x1), (Value.int .i64 x2)] 23 false 3)), (1001, (AObj.cells [(Value.string s3), (Value.int .i64 x4), (Value.int .i64 x5)] 23 false 3))] (dataK k)
theorem nRP2_text (C : Ct) (L : AtLoop) (s0 : ByteArray) (x1 : Int) (x2 : Int) (s3 : ByteArray) (x4 : Int) (x5 : Int) (k : List D → Prop) : nRP2 C L s0 x1 x2 s3 x4 x5 k =
 (∃ n1 : Int,
 ((Says C 9 [(D.agg [(D.val (Go.Value.string (s3))), (D.val (vI x4)), (D.val (vI x5))])] [(D.val (vI n1))]) ∧
 (bcase (n1 != 0)
 (k [(D.agg [(D.val (Go.Value.string ({ data := #[] }))), (D.val (vI (0 : Int))), (D.val (vI (0 : Int)))]), (D.val (vI n1))])
 (k [(D.agg [(D.val (Go.Value.string (s3))), (D.val (vI x4)), (D.val (vI x5))]), (D.val (vI (0 : Int)))])))) := by kernel_rfl
def gLw (C : Ct) (L : AtLoop) (s0 : ByteArray) (x1 : Int) (x2 : Int) (s3 : ByteArray) (k : List D → Prop) : Prop := wpFn Tryz.prog (hG C) L 0 3 #[.agg #[.string s0, .int .i64 x1, .int .i64 x2], .string s3] (heapOf []) (dataK k)
theorem gLw_text (C : Ct) (L : AtLoop) (s0 : ByteArray) (x1 : Int) (x2 : Int) (s3 : ByteArray) (k : List D → Prop) : gLw C L s0 x1 x2 s3 k =
 (((Says C 4 [] [(D.val (Value.bool true))]) ∧
 (bcase (decide ((↑(ByteArray.size s0) : Int) > 60))
 (k [(D.val (Value.bool true))])
 (bcase (decide ((↑(ByteArray.size s3) : Int) > 60))
 (k [(D.val (Value.bool true))])
 (∃ s1 : ByteArray,
 ((Says C 5 [(D.agg [(D.val (Go.Value.string (s0))), (D.val (vI x1)), (D.val (vI x2))])] [(D.val (Go.Value.string (s1)))]) ∧
 (∃ s2 : ByteArray,
 (∃ n1 : Int,
 (∃ n2 : Int,
 (∃ n3 : Int,
 ((Says C 6 [(D.val (Go.Value.string (s3)))] [(D.agg [(D.val (Go.Value.string (s2))), (D.val (vI n1)), (D.val (vI n2))]), (D.val (vI n3))]) ∧
 (∃ s4 : ByteArray,
 (∃ n4 : Int,
 (∃ n5 : Int,
 (∃ n6 : Int,
 ((Says C 7 [(D.val (Go.Value.string (s3)))] [(D.agg [(D.val (Go.Value.string (s4))), (D.val (vI n4)), (D.val (vI n5))]), (D.val (vI n6))]) ∧
 (∃ s5 : ByteArray,
 ((Says C 8 [(D.agg [(D.val (Go.Value.string (s0))), (D.val (vI x1)), (D.val (vI x2))])] [(D.val (Go.Value.string (s5)))]) ∧
 (bcase (!ByteArray.toList s1 == ByteArray.toList s5)
 (k [(D.val (Value.bool false))])
 (bcase (n3 != n6)
 (k [(D.val (Value.bool false))])
 (bcase (if Bool.true = Bool.true then !(s2 == s4 && (n1 == n4 && (n2 == n5 && Bool.true))) else s2 == s4 && (n1 == n4 && (n2 == n5 && Bool.true)))
 (k [(D.val (Value.bool false))])
 (∃ n7 : Int,
 ((Says C 9 [(D.agg [(D.val (Go.Value.string (s0))), (D.val (vI x1)), (D.val (vI x2))])] [(D.val (vI n7))]) ∧
 (bcase (n7 != 0)
 (k [(D.val (Value.bool true))])
 (∃ s6 : ByteArray,
 (∃ n8 : Int,
 (∃ n9 : Int,
 (∃ n10 : Int,
 ((Says C 6 [(D.val (Go.Value.string (s1)))] [(D.agg [(D.val (Go.Value.string (s6))), (D.val (vI n8)), (D.val (vI n9))]), (D.val (vI n10))]) ∧
 (bcase (n10 == 0)
 (bcase (if Bool.false = Bool.true then !(s6 == s0 && (n8 == x1 && (n9 == x2 && Bool.true))) else s6 == s0 && (n8 == x1 && (n9 == x2 && Bool.true)))
 (k [(D.val (Value.bool true))])
 (k [(D.val (Value.bool false))]))
 (k [(D.val (Value.bool false))])))))))))))))))))))))))))))))) ∨
 ((Says C 4 [] [(D.val (Value.bool false))]) ∧
 (k [(D.val (Value.bool false))]))) := by kernel_rfl
end Go.Proofs.G5w

/- The small functions on strings of the references, in data. -/
namespace Go.Proofs.G5w
open Go Go.Abs Go.Proofs Go.Str
set_option maxRecDepth 100000
theorem hokE : HandlerOK Tryz.prog (hE C5) := handlerX_ok mixed (fun g h he => by cases he) (by decide) 6
/-- pieces between separators -/
theorem conCu (l : List UInt8) (c : UInt8) (hl : l.length < 4294967281) : C5 25 [dS l, .val (.int .u8 (c.toNat : Int))] [dSs (cutA c [] l)] := by
  let inv : Nat × Nat × List (List UInt8) → Prop := fun x => x.2.1 ≤ x.1 ∧ x.1 ≤ l.length ∧ x.2.2.length ≤ x.1 ∧ x.2.2 ++ cutA c ((l.drop x.2.1).take (x.1 - x.2.1)) (l.drop x.1) = cutA c [] l
  let st : Nat × Nat × List (List UInt8) → Slots × Blocks := fun x => match x.2.2 with
    | [] => zCu1 (bs l) c.toNat x.2.1 x.1
    | y :: r => zCu2 (bs l) c.toNat (y :: r).length x.2.1 x.1 (strs (y :: r))
  refine con_of (L := fun _ s b => ∃ x, inv x ∧ st x = (s, b)) hokE mixed Tryz.func25 rfl (by show 0 ≤ 400; omega) rfl (ids := [0]) (by kernel_rfl) rfl (fun caps => ?_) (fun id hid => ?_)
  · show gCu _ _ (bs l) c.toNat _
    rw [gCu_text]
    exact ⟨(0, 0, []), ⟨Nat.le_refl _, Nat.zero_le _, Nat.le_refl _, by simp⟩, rfl⟩
  · obtain rfl := List.mem_singleton.1 hid
    refine ⟨Nat × Nat × List (List UInt8), st, inv, fun x => l.length - x.1, ⟨fun s b h => h, by kernel_rfl, ?_⟩⟩
    rintro ⟨i, f, out⟩ ⟨h1, h2, h3, h4⟩
    simp only at h1 h2 h3 h4
    have hx : ∀ j, (bs l).extract f j = bs ((l.drop f).take (j - f)) := fun j => bs_extract l f j
    have hend : ¬ i < l.length → out ++ [(l.drop f).take (l.length - f)] = cutA c [] l := by
      intro hi
      obtain rfl : i = l.length := by omega
      rw [List.drop_length, cutA] at h4
      exact h4
    have step : ∀ hi : i < l.length, if l[i] = c then inv (i + 1, i + 1, out ++ [(l.drop f).take (i - f)]) else inv (i + 1, f, out) := by
      intro hi
      rw [List.drop_eq_getElem_cons hi, cutA] at h4
      split
      · next hc =>
        rw [if_pos hc] at h4
        exact ⟨Nat.le_refl _, hi, by simp; omega, by simpa using h4⟩
      · next hc =>
        rw [if_neg hc] at h4
        exact ⟨by show f ≤ i + 1; omega, hi, by show out.length ≤ i + 1; omega, by show out ++ cutA c ((l.drop f).take (i + 1 - f)) (l.drop (i + 1)) = _; rw [take_snoc h1 hi]; exact h4⟩
    cases out with
    | nil =>
      show rCu1 _ _ (bs l) c.toNat f i _ _ _
      rw [rCu1_text]
      simp only [bs_size]
      refine bc_dec (fun h => ?_) (fun h => ?_)
      · have hi : i < l.length := by omega
        have step := step hi
        simp only [bc_t (show (0 : Int) ≤ (i : Int) by omega), Int.toNat_natCast, byte1 (List.getElem?_eq_getElem hi), wi1 hi (by omega)]
        refine bc_beq (fun hc => ?_) (fun hc => ?_)
        · rw [if_pos (u8_eq hc)] at step
          simp only [bc_t (show (i : Int) ≤ (l.length : Int) by omega), bc_t (show (0 : Int) ≤ (f : Int) by omega), bc_t (show (f : Int) ≤ (i : Int) by omega), hx]
          exact ⟨_, step, by show l.length - (i + 1) < l.length - i; omega, rfl⟩
        · rw [if_neg (fun e => hc (by rw [e]))] at step
          exact ⟨_, step, by show l.length - (i + 1) < l.length - i; omega, rfl⟩
      · show nCu3 _ _ (bs l) f _
        rw [nCu3_text]
        simp only [bs_size, bc_t (show (0 : Int) ≤ (f : Int) by omega), bc_t (show (f : Int) ≤ (l.length : Int) by omega), Int.toNat_natCast, hx]
        refine ⟨⟨trivial, trivial⟩, ?_⟩
        rw [← hend (by omega)]
        rfl
    | cons y r =>
      show rCu2 _ _ (bs l) c.toNat (y :: r).length f i (strs (y :: r)) _ _ _
      rw [rCu2_text]
      simp only [bs_size]
      have hlen : (y :: r).length ≤ i := h3
      refine bc_dec (fun h => ?_) (fun h => ?_)
      · have hi : i < l.length := by omega
        have step := step hi
        simp only [bc_t (show (0 : Int) ≤ (i : Int) by omega), Int.toNat_natCast, byte1 (List.getElem?_eq_getElem hi), wi1 hi (by omega)]
        refine bc_beq (fun hc => ?_) (fun hc => ?_)
        · rw [if_pos (u8_eq hc)] at step
          simp only [bc_t (show (i : Int) ≤ (l.length : Int) by omega), bc_t (show (0 : Int) ≤ (f : Int) by omega), bc_t (show (f : Int) ≤ (i : Int) by omega), hx,
            bc_t (Nat.lt_succ_self (y :: r).length), bc_t (show (2 * ((y :: r).length + 1) + 768) * 16 ≤ 281474976710656 by omega), bc_t (show (y :: r).length + 1 ≤ 1099511627776 by omega), bc_t (whole_le (y :: r)), bc_t (whole_eq (y :: r)), strs_whole]
          refine ⟨_, step, by show l.length - (i + 1) < l.length - i; omega, ?_⟩
          show zCu2 _ _ ((y :: r) ++ [_]).length _ _ (strs ((y :: r) ++ [_])) = _
          rw [List.length_append]
          simp only [strs, List.map_append]
          rfl
        · rw [if_neg (fun e => hc (by rw [e]))] at step
          exact ⟨_, step, by show l.length - (i + 1) < l.length - i; omega, rfl⟩
      · show nCu4 _ _ (bs l) (y :: r).length f (strs (y :: r)) _
        rw [nCu4_text]
        simp only [bs_size, bc_t (show (0 : Int) ≤ (f : Int) by omega), bc_t (show (f : Int) ≤ (l.length : Int) by omega), Int.toNat_natCast, hx,
          bc_t (Nat.lt_succ_self (y :: r).length), bc_t (show (2 * ((y :: r).length + 1) + 768) * 16 ≤ 281474976710656 by omega), bc_t (show (y :: r).length + 1 ≤ 1099511627776 by omega), bc_t (whole_le (y :: r)), bc_t (whole_eq (y :: r)), strs_whole]
        refine ⟨⟨trivial, by simp⟩, ?_⟩
        rw [← hend (by omega)]
        show [_] = [D.sl ((y :: r) ++ [_]).length 1 (strs ((y :: r) ++ [_]))]
        rw [List.length_append]
        simp only [strs, List.map_append]
        rfl
/-! ### decimal numerals -/
theorem one_byte (b : Int) : List.foldl (fun r n => ByteArray.push r (UInt8.ofNat (Int.toNat n))) ByteArray.empty [b] = bs [UInt8.ofNat (Int.toNat b)] := rfl
theorem size_dig (k : Nat) (m : Int) (h : m = (k : Int) ∨ m = -(k : Int)) : IntKind.wrap .u8 (IntKind.wrap .i64 (48 + if IntKind.wrap .i64 (0 - Int.tmod m 10) > Int.tmod m 10 then IntKind.wrap .i64 (0 - Int.tmod m 10) else Int.tmod m 10)) = ((48 + k % 10 : Nat) : Int) := by
  have e : Int.tmod m 10 = ((k % 10 : Nat) : Int) ∨ Int.tmod m 10 = -((k % 10 : Nat) : Int) := by
    rcases h with rfl | rfl
    · left; rw [Int.tmod_eq_emod_of_nonneg (by omega)]; omega
    · right; rw [Int.neg_tmod, Int.tmod_eq_emod_of_nonneg (by omega)]; omega
  generalize Int.tmod m 10 = r at e ⊢
  have hk : k % 10 < 10 := Nat.mod_lt _ (by decide)
  rw [w64 (z := 0 - r) (by omega) (by omega)]
  have h2 : (48 + if 0 - r > r then 0 - r else r) = ((48 + k % 10 : Nat) : Int) := by split <;> omega
  rw [h2, w64 (by omega) (by omega), IntKind.wrap_u8]
  omega
theorem tdiv10 (k : Nat) (m : Int) (h : m = (k : Int) ∨ m = -(k : Int)) : (m = (k : Int) → Int.tdiv m 10 = ((k / 10 : Nat) : Int)) ∧ (m = -(k : Int) → Int.tdiv m 10 = -((k / 10 : Nat) : Int)) := by
  constructor
  · rintro rfl; rw [Int.tdiv_eq_ediv_of_nonneg (by omega)]; omega
  · rintro rfl; rw [Int.neg_tdiv, Int.tdiv_eq_ediv_of_nonneg (by omega)]; omega
theorem conDe (n : Int) (h0 : -9223372036854775808 ≤ n) (h1 : n ≤ 9223372036854775807) : C5 27 [dI n] [dS (Lib.itoa n)] := by
  let sg : List UInt8 := if n < 0 then [45] else []
  let num : Nat → Int := fun k => if n < 0 then -(k : Int) else (k : Int)
  let inv : Nat × List UInt8 → Prop := fun x => n ≠ 0 ∧ x.1 ≤ n.natAbs ∧ (if x.1 = 0 then [] else dec x.1) ++ x.2 = dec n.natAbs
  let st : Nat × List UInt8 → Slots × Blocks := fun x => zDe1 (num x.1) (bs x.2) (bs sg)
  have hit : n ≠ 0 → sg ++ dec n.natAbs = Lib.itoa n := by
    intro hn
    show (if n < 0 then [45] else []) ++ dec n.natAbs = _
    split
    · next h => rw [itoa_ng h]; rfl
    · next h => rw [itoa_nn (by omega), show n.toNat = n.natAbs by omega]; rfl
  have hdl : (dec n.natAbs).length ≤ 20 := dec_len 20 _ (by decide) (by omega)
  have hsg : sg.length ≤ 1 := by show (if n < 0 then [(45 : UInt8)] else []).length ≤ 1; split <;> simp
  refine con_of (L := fun _ s b => ∃ x, inv x ∧ st x = (s, b)) hokE mixed Tryz.func27 rfl (by show 0 ≤ 400; omega) rfl (ids := [0]) (by kernel_rfl) rfl (fun caps => ?_) (fun id hid => ?_)
  · show gDe _ _ n _
    rw [gDe_text]
    refine bc_beq (fun h => ?_) (fun h => ?_)
    · subst h
      have : Lib.itoa 0 = [48] := by rw [itoa_nn (by decide)]; exact dec_small (by decide)
      rw [this]
    · have hi : inv (n.natAbs, []) := ⟨h, Nat.le_refl _, by show (if n.natAbs = 0 then [] else _) ++ [] = _; rw [if_neg (by omega), List.append_nil]⟩
      refine bc_dec (fun hn => ?_) (fun hn => ?_)
      · refine ⟨(n.natAbs, []), hi, ?_⟩
        show zDe1 (if n < 0 then _ else _) _ (bs (if n < 0 then _ else _)) = _
        rw [if_pos hn, if_pos hn, show -(n.natAbs : Int) = n by omega]
      · refine ⟨(n.natAbs, []), hi, ?_⟩
        show zDe1 (if n < 0 then _ else _) _ (bs (if n < 0 then _ else _)) = _
        rw [if_neg hn, if_neg hn, show (n.natAbs : Int) = n by omega]
  · obtain rfl := List.mem_singleton.1 hid
    refine ⟨Nat × List UInt8, st, inv, fun x => x.1, ⟨fun s b h => h, by kernel_rfl, ?_⟩⟩
    rintro ⟨k, sfx⟩ ⟨hn, hk, he⟩
    simp only at hk he
    show rDe1 _ _ (num k) (bs sfx) (bs sg) _ _ _
    rw [rDe1_text]
    have hor : num k = (k : Int) ∨ num k = -(k : Int) := by show (if n < 0 then _ else _) = _ ∨ (if n < 0 then _ else _) = _; split <;> simp
    have hsl : sfx.length ≤ 20 := by have := congrArg List.length he; simp at this; omega
    refine bc_bne (fun h => ?_) (fun h => ?_)
    · have hk0 : k ≠ 0 := by rintro rfl; rcases hor with e | e <;> simp [e] at h
      rw [size_dig k (num k) hor, one_byte, bs_append, Int.toNat_natCast]
      simp only [bs_size]
      refine bc_yes (by simp; omega) ?_
      refine ⟨(k / 10, UInt8.ofNat (48 + k % 10) :: sfx), ⟨hn, by show k / 10 ≤ _; omega, ?_⟩, by show k / 10 < k; omega, ?_⟩
      · show (if k / 10 = 0 then [] else dec (k / 10)) ++ _ = _
        rw [if_neg hk0] at he
        rw [← he]
        by_cases hk10 : k < 10
        · rw [if_pos (by omega), dec_small hk10, show k % 10 = k by omega]; rfl
        · rw [if_neg (by omega), dec_big hk10]; simp
      · have e2 : IntKind.wrap .i64 (Int.tdiv (num k) 10) = num (k / 10) := by
          have t := tdiv10 k (num k) hor
          show IntKind.wrap .i64 (Int.tdiv (if n < 0 then -(k : Int) else (k : Int)) 10) = if n < 0 then _ else _
          have hnum : num k = if n < 0 then -(k : Int) else (k : Int) := rfl
          by_cases hneg : n < 0
          · rw [if_pos hneg] at hnum ⊢
            rw [if_pos hneg, ← hnum, t.2 hnum, w64 (by omega) (by omega)]
          · rw [if_neg hneg] at hnum ⊢
            rw [if_neg hneg, ← hnum, t.1 hnum, w64 (by omega) (by omega)]
        rw [e2]; rfl
    · have hk0 : k = 0 := by rcases hor with e | e <;> omega
      subst hk0
      show (if 0 = 0 then _ else _)
      rw [if_pos rfl]
      show nDe2 _ _ (bs sfx) (bs sg) _
      rw [nDe2_text]
      simp only [bs_size]
      refine bc_yes (by omega) ?_
      rw [if_pos rfl, List.nil_append] at he
      rw [bs_append, he, hit hn]
/-! ### numbers that are read -/
theorem pow_le {k : Nat} (h : k ≤ 17) : (10 : Int) ^ k ≤ 100000000000000000 := by
  have := pow10_le h
  rw [p17] at this; exact this
theorem isDig_no {b : UInt8} (h : ¬ (48 ≤ b.toNat ∧ b.toNat ≤ 57)) : isDig b = false := by
  unfold isDig
  rw [Bool.and_eq_false_iff, decide_eq_false_iff_not, decide_eq_false_iff_not]; omega
theorem byte48 {b : UInt8} (h1 : 48 ≤ b.toNat) (h2 : b.toNat ≤ 57) : IntKind.wrap .i64 (IntKind.wrap .u8 ((b.toNat : Int) - 48)) = (b.toNat : Int) - 48 := by
  rw [IntKind.wrap_u8]
  rw [w64 (by omega) (by omega)]; omega
theorem conNu (l : List UInt8) (d : Nat) (hd : d ≤ 18) (hl : l.length < 4294967281) : C5 26 [dS l, dI d] [dI (readNum d l).1, dB (readNum d l).2] := by
  let inv : Nat × Nat → Prop := fun x => x.1 ≤ 1 ∧ x.1 ≤ x.2 ∧ x.2 ≤ l.length ∧ l.length ≤ d + x.1 ∧ ((l.drop x.1).take (x.2 - x.1)).all isDig = true ∧ readNum d l = rdT x.1 l
  let st : Nat × Nat → Slots × Blocks := fun x => zNu1 (bs l) x.1 (numF 0 ((l.drop x.1).take (x.2 - x.1))) x.2
  refine con_of (L := fun _ s b => ∃ x, inv x ∧ st x = (s, b)) hokE mixed Tryz.func26 rfl (by show 0 ≤ 400; omega) rfl (ids := [0]) (by kernel_rfl) rfl (fun caps => ?_) (fun id hid => ?_)
  · show gNu _ _ (bs l) d _
    rw [gNu_text]
    simp only [bs_size]
    have pos : (∀ b, l[0]? = some b → b.toNat ≠ 45) → bcase ((l.length : Int) == 0) ([dI 0, dB false] = [dI (readNum d l).1, dB (readNum d l).2])
        (bcase (decide (IntKind.wrap .i64 ((l.length : Int) - 0) > (d : Int))) ([dI 0, dB false] = [dI (readNum d l).1, dB (readNum d l).2])
        (∃ b2 : UInt8, ByteAt (bs l) 0 b2 ∧ bcase ((b2.toNat : Int) == 48) (bcase (decide ((l.length : Int) > 1)) ([dI 0, dB false] = [dI (readNum d l).1, dB (readNum d l).2]) (∃ x, inv x ∧ st x = zNu1 (bs l) 0 0 0)) (∃ x, inv x ∧ st x = zNu1 (bs l) 0 0 0))) := by
      intro hno
      have hh : l.head? ≠ some 45 := by
        intro e
        cases l with
        | nil => simp at e
        | cons b r =>
          simp only [List.head?_cons, Option.some.injEq] at e
          subst e
          exact hno 45 rfl rfl
      have hr := readNum_pos (d := d) hh
      refine bc_beq (fun h => ?_) (fun h => ?_)
      · rw [hr, if_pos (by omega)]
      · rw [if_neg (by omega)] at hr
        have e1 : IntKind.wrap .i64 ((l.length : Int) - 0) = (l.length : Int) := by rw [w64 (by omega) (by omega)]; omega
        simp only [e1]
        refine bc_dec (fun h2 => ?_) (fun h2 => ?_)
        · rw [hr, if_pos (by omega)]
        · rw [if_neg (by omega)] at hr
          cases l with
          | nil => simp at h
          | cons b r =>
            rw [byte1 (l := b :: r) (i := 0) (b := b) rfl]
            have go : ¬ ((b :: r).head? = some 48 ∧ 1 < (b :: r).length) → ∃ x, inv x ∧ st x = zNu1 (bs (b :: r)) 0 0 0 := by
              intro hc
              rw [if_neg hc] at hr
              exact ⟨(0, 0), ⟨by decide, Nat.le_refl _, Nat.zero_le _, by show _ ≤ d + 0; omega, rfl, hr⟩, rfl⟩
            refine bc_beq (fun h3 => ?_) (fun h3 => ?_)
            · have hb : b = 48 := u8_eq (c := 48) h3
              refine bc_dec (fun h4 => ?_) (fun h4 => go (by omega))
              rw [hr, if_pos ⟨by rw [hb]; rfl, by omega⟩]
            · exact go (fun ⟨e, _⟩ => h3 (by simp only [List.head?_cons, Option.some.injEq] at e; rw [e]; rfl))
    refine bc_dec (fun h => ?_) (fun h => ?_)
    · cases l with
      | nil => simp at h
      | cons b r =>
        rw [byte1 (l := b :: r) (i := 0) (b := b) rfl]
        refine bc_beq (fun h45 => ?_) (fun h45 => pos ?_)
        · obtain rfl : b = 45 := u8_eq (c := 45) h45
          have hr := readNum_neg (d := d) (r := r)
          simp only [List.length_cons] at hl ⊢
          refine bc_beq (fun h1 => ?_) (fun h1 => ?_)
          · rw [hr, if_pos (by omega)]
          · rw [if_neg (by omega)] at hr
            have e1 : IntKind.wrap .i64 (((r.length + 1 : Nat) : Int) - 1) = (r.length : Int) := by rw [w64 (by omega) (by omega)]; omega
            simp only [e1]
            refine bc_dec (fun h2 => ?_) (fun h2 => ?_)
            · rw [hr, if_pos (by omega)]
            · rw [if_neg (by omega)] at hr
              cases r with
              | nil => simp at h1
              | cons c r =>
                rw [byte1 (l := 45 :: c :: r) (i := 1) (b := c) rfl]
                refine bc_beq (fun h3 => ?_) (fun h3 => ?_)
                · have hc : c = 48 := u8_eq (c := 48) h3
                  refine bc_yes (by simp only [List.length_cons]; omega) ?_
                  rw [hr, if_pos (by rw [hc]; rfl)]
                · rw [if_neg (fun e => h3 (by simp only [List.head?_cons, Option.some.injEq] at e; rw [e]; rfl))] at hr
                  refine ⟨(1, 1), ⟨by decide, Nat.le_refl _, by simp, by simp only [List.length_cons] at h2 ⊢; omega, rfl, hr⟩, rfl⟩
        · intro b' hb' e
          obtain rfl : b = b' := by simpa using hb'
          exact h45 (by omega)
    · exact pos (fun b hb => by
        have := (List.getElem?_eq_some_iff.1 hb).1
        omega)
  · obtain rfl := List.mem_singleton.1 hid
    refine ⟨Nat × Nat, st, inv, fun x => l.length - x.2, ⟨fun s b h => h, by kernel_rfl, ?_⟩⟩
    rintro ⟨a, i⟩ ⟨ha, hai, hil, hld, hall, hr⟩
    simp only at ha hai hil hld hall hr
    show rNu1 _ _ (bs l) a (numF 0 ((l.drop a).take (i - a))) i _ _ _
    rw [rNu1_text]
    simp only [bs_size]
    have hn := numF_ge _ 0 (by decide) hall
    have hlen : ((l.drop a).take (i - a)).length = i - a := by simp; omega
    rw [hlen] at hn
    refine bc_dec (fun h => ?_) (fun h => ?_)
    · have hi : i < l.length := by omega
      have fail : isDig l[i] = false → [dI 0, dB false] = [dI (readNum d l).1, dB (readNum d l).2] := by
        intro hb
        have hg : (l.drop a)[i - a]? = some l[i] := by rw [List.getElem?_drop, show a + (i - a) = i by omega, List.getElem?_eq_getElem hi]
        rw [hr]; unfold rdT; rw [not_all hg hb]; rfl
      have hp := pow_le (k := i - a) (by omega)
      simp only [bc_t (show (0 : Int) ≤ (i : Int) by omega), Int.toNat_natCast, byte1 (List.getElem?_eq_getElem hi), wi1 hi (by omega)]
      refine bc_dec (fun hb => fail (isDig_no (by omega))) (fun hb => ?_)
      refine bc_dec (fun hb2 => fail (isDig_no (by omega))) (fun hb2 => ?_)
      have hdig : isDig l[i] = true := by unfold isDig; rw [decide_eq_true (by omega), decide_eq_true (by omega)]; rfl
      refine ⟨(a, i + 1), ⟨ha, by show a ≤ i + 1; omega, hi, hld, by show ((l.drop a).take (i + 1 - a)).all isDig = true; rw [take_snoc hai hi, List.all_append, hall]; simp [hdig], hr⟩, by show l.length - (i + 1) < l.length - i; omega, ?_⟩
      show zNu1 (bs l) a (numF 0 ((l.drop a).take (i + 1 - a))) ((i + 1 : Nat) : Int) = _
      rw [take_snoc hai hi, numF_append, numF_cons, numF_nil, byte48 (by omega) (by omega), w64 (z := 10 * _) (by omega) (by omega), w64 (by omega) (by omega)]
    · have hi : i = l.length := by omega
      subst hi
      show nNu2 _ _ a _ _
      rw [nNu2_text]
      have ht : (l.drop a).take (l.length - a) = l.drop a := List.take_of_length_le (by simp)
      rw [ht] at hall hn ⊢
      have hp : (10 : Int) ^ (l.length - a) ≤ 1000000000000000000 := by
        have := pow10_le (k := l.length - a) (d := 18) (by omega)
        rw [p18] at this; exact this
      rw [hr]
      unfold rdT
      rw [if_pos hall]
      refine bc_beq (fun h1 => ?_) (fun h1 => ?_)
      · rw [if_pos (by omega), w64 (by omega) (by omega), Int.zero_sub]
      · rw [if_neg (by omega)]
theorem conWi (n lo hi : Int) : C5 29 [dI n, dI lo, dI hi] [dB (decide (lo ≤ n) && decide (n ≤ hi))] := by
  refine con_flat hokE mixed Tryz.func29 rfl (by show 0 ≤ 400; omega) rfl (by kernel_rfl) (fun caps => ?_)
  show gWi _ _ n lo hi _
  rw [gWi_text]
  refine bc_dec (fun h => bc_dec (fun h2 => ?_) (fun h2 => ?_)) (fun h => ?_)
  · rw [decide_eq_true h, decide_eq_true h2]; rfl
  · rw [decide_eq_true h, decide_eq_false h2]; rfl
  · rw [decide_eq_false h]; rfl
end Go.Proofs.G5w

/- Words that are read by a reader; pairs of numbers that may be below naught. -/
namespace Go.Str
variable {α : Type}
/-! ### readings by strconv.Atoi -/
/-- what Atoi gives for a short word -/
def rdV (d : Nat) (l : List UInt8) : Int := if d < l.length then 0 else (Lib.atoi l).getD 0
theorem rdV_ok {d : Nat} {l : List UInt8} (h : okNum d l = true) : rdV d l = numF 0 l := by
  unfold rdV
  rw [if_neg (by have := (okNum_inv h).2.1; omega), (atoi_ok h).1]; rfl
theorem atoi_num {d : Nat} {l : List UInt8} (hl : l.length ≤ d) {n : Int} (h : Lib.atoi l = some n) : (decide (0 ≤ n) && (Lib.itoa n == l)) = okNum d l := by
  cases ho : okNum d l with
  | true =>
    have := atoi_ok ho
    rw [h] at this
    obtain ⟨e, e2⟩ := this
    obtain rfl := Option.some.inj e
    rw [decide_eq_true (numF_pos ho).1, e2]; simp
  | false =>
    rw [Bool.and_eq_false_iff]
    by_cases hn : 0 ≤ n
    · right
      rw [beq_eq_false_iff_ne]
      intro e
      rw [itoa_ok hn hl e] at ho; cases ho
    · left; simpa using hn
theorem atoi_bad {d : Nat} {l : List UInt8} (h : Lib.atoi l = none) : okNum d l = false := by
  cases ho : okNum d l with
  | false => rfl
  | true => rw [(atoi_ok ho).1] at h; cases h
end Go.Str

/- Digits that are read by strconv.Atoi. -/
namespace Go.Proofs.G5w
open Go Go.Abs Go.Proofs Go.RowKit Go.Str Go.Sort
set_option maxRecDepth 100000
theorem vErr : Tryz.prog.globalNamed "strconv.ErrSyntax" = some 2 := by kernel_rfl
theorem hErr {w : World} (h : GoodW Tryz.prog w) : ∃ ev, w.cell? ⟨2, 0, none⟩ = some ev ∧ (ev = .nilIface ∨ ∃ te pe, ev = .iface te pe) := by
  obtain ⟨c, ty, fz, v, e, hc, hv⟩ := h _ (mem_vars (k := .iface) (by simp [wantedVars]) vErr)
  simp only at e
  exact ⟨v, by simp [World.cell?, e, hc], hv⟩
theorem digits_long (s : ByteArray) (w : World) (hs : 4 < s.size) : Calls Tryz.prog 23 #[.string s] w fun e w' => e = .returned (.tuple #[.int .i64 0, .bool false]) ∧ Below w.heap.size w w' := by
  go_enter Tryz.func23, Tryz.ntmps23
  go_wp2
  go_ret2
  exact ⟨rfl, Below.refl _ _⟩
theorem digits_none (s : ByteArray) (w : World) (hs : s.size ≤ 4) (h : Lib.atoi s.data.toList = none) (ev : Value) (hv : w.cell? ⟨2, 0, none⟩ = some ev) (hev : ev = .nilIface ∨ ∃ te pe, ev = .iface te pe) :
    Calls Tryz.prog 23 #[.string s] w fun e w' => e = .returned (.tuple #[.int .i64 0, .bool false]) ∧ Below w.heap.size w w' := by
  go_enter Tryz.func23, Tryz.ntmps23
  go_wp2_with (go_at_call 54; refine (Tryz.strconv_Atoi_err s (by omega) h ev _ ?_ hev).mono ?_)
  · exact hv
  rintro e W1 ⟨N, rfl, -, -, hb⟩
  go_wp2
  go_ret2
  exact ⟨rfl, hb⟩
theorem bytes_below (w : World) (t : TypeId) (s : ByteArray) : Below w.heap.size w (Lib.bytesWorld w t s) := Lib.bytesWorld_below _ _ _
theorem good_below {w w' : World} (h : GoodW Tryz.prog w) (hb : Below w.heap.size w w') : GoodW Tryz.prog w' := by
  intro q hq
  have h1 := h q hq
  have h2 := VarKind.ok_some h1
  have hlt : q.1 < w.heap.size := by
    rcases Nat.lt_or_ge q.1 w.heap.size with h | h
    · exact h
    · rw [Array.getElem?_eq_none h] at h2; cases h2
  rw [hb.block q.1 hlt]; exact h1
theorem digits_some (s : ByteArray) (w : World) (hs : s.size ≤ 4) (n : Int) (hn : -1000000000000000000 < n ∧ n < 1000000000000000000) (h : Lib.atoi s.data.toList = some n) (hg : GoodW Tryz.prog w) :
    Calls Tryz.prog 23 #[.string s] w fun e w' => e = .returned (.tuple #[.int .i64 n, .bool (decide (0 ≤ n) && (Lib.itoa n == s.data.toList))]) ∧ Below w.heap.size w w' := by
  go_enter Tryz.func23, Tryz.ntmps23
  go_wp2_with (go_at_call 54; refine (Tryz.strconv_Atoi s n (by omega) h _).mono ?_; rintro e w' ⟨rfl, t, rfl⟩)
  · have htab := good_pow10 (good_below hg (bytes_below w 5 t)) vPow
    go_wp2_with (go_at_call 21; refine (Tryz.strconv_Itoa n (by omega) (by omega) _ htab).mono ?_; rintro e w' ⟨rfl, k, os, rfl⟩)
    go_ret2
    refine ⟨?_, (bytes_below w 5 t).trans ((below_dg _ k os).mono (bytes_below w 5 t).size)⟩
    rw [decide_eq_true (by omega : 0 ≤ n), Lib.toList_data]; rfl
  · go_ret2
    refine ⟨?_, bytes_below _ _ _⟩
    rw [decide_eq_false (by omega : ¬ 0 ≤ n)]; rfl
theorem conRD (l : List UInt8) : C5 23 [dS l] [dI (rdV 4 l), dB (okNum 4 l)] := by
  intro w args hg hr
  rw [reads1 hr]
  have fin : ∀ {n : Int} {b : Bool}, n = rdV 4 l → b = okNum 4 l → Calls Tryz.prog 23 #[str l] w (fun e w' => e = .returned (.tuple #[.int .i64 n, .bool b]) ∧ Below w.heap.size w w') →
      Calls Tryz.prog 23 #[str l] w fun e w' => (∃ vs u, e = .returned (tupleOf vs) ∧ GivesL w w' [] [dI (rdV 4 l), dB (okNum 4 l)] vs u) ∧ Below w.heap.size w w' := by
    rintro n b rfl rfl h
    refine h.mono ?_
    rintro e w' ⟨rfl, hb⟩
    exact ⟨⟨[.int .i64 _, .bool _], [], rfl, .cons (.val _ _ rfl) (.cons (.val _ _ rfl) (.nil _))⟩, hb⟩
  by_cases hl : 4 < l.length
  · refine fin ?_ ?_ (digits_long (bs l) w (by rw [bs_size]; exact hl))
    · unfold rdV; rw [if_pos hl]
    · unfold okNum; rw [decide_eq_false (by omega : ¬ l.length ≤ 4)]; simp
  · have hs : (bs l).size ≤ 4 := by rw [bs_size]; omega
    cases ha : Lib.atoi l with
    | none =>
      obtain ⟨ev, hv, hev⟩ := hErr hg
      refine fin ?_ (atoi_bad ha).symm (digits_none (bs l) w hs (by rw [data_bs]; exact ha) ev hv hev)
      unfold rdV; rw [if_neg hl, ha]; rfl
    | some n =>
      have hn := Lib.atoi_bound ha (by omega)
      refine fin ?_ ?_ (digits_some (bs l) w hs n hn (by rw [data_bs]; exact ha) hg)
      · unfold rdV; rw [if_neg hl, ha]; rfl
      · rw [data_bs]; exact atoi_num (by omega) ha
end Go.Proofs.G5w

/- Names: a letter, then letters, digits and hyphens. -/
namespace Go.Str
open Go Go.Abs
def isLet (b : UInt8) : Bool := (decide (97 ≤ b.toNat) && decide (b.toNat ≤ 122)) || (decide (65 ≤ b.toNat) && decide (b.toNat ≤ 90))
def nameC (b : UInt8) : Bool := isLet b || isDig b || b.toNat == 45
def nameOK (l : List UInt8) : Bool := decide (1 ≤ l.length) && decide (l.length ≤ 12) && l.head?.any isLet && l.all nameC
theorem let_t {b : UInt8} (h : (97 ≤ b.toNat ∧ b.toNat ≤ 122) ∨ (65 ≤ b.toNat ∧ b.toNat ≤ 90)) : isLet b = true := by
  simp [isLet]; omega
theorem let_f {b : UInt8} (h : ¬ ((97 ≤ b.toNat ∧ b.toNat ≤ 122) ∨ (65 ≤ b.toNat ∧ b.toNat ≤ 90))) : isLet b = false := by
  simp [isLet]; omega
theorem dig_t {b : UInt8} (h : 48 ≤ b.toNat ∧ b.toNat ≤ 57) : isDig b = true := by simp [isDig, h]
theorem dig_f {b : UInt8} (h : ¬ (48 ≤ b.toNat ∧ b.toNat ≤ 57)) : isDig b = false := by simp [isDig]; omega
theorem name_t {b : UInt8} (h : ((97 ≤ b.toNat ∧ b.toNat ≤ 122) ∨ (65 ≤ b.toNat ∧ b.toNat ≤ 90)) ∨ (48 ≤ b.toNat ∧ b.toNat ≤ 57) ∨ b.toNat = 45) : nameC b = true := by
  simp [nameC, isLet, isDig]; omega
theorem name_f {b : UInt8} (h : ¬ (((97 ≤ b.toNat ∧ b.toNat ≤ 122) ∨ (65 ≤ b.toNat ∧ b.toNat ≤ 90)) ∨ (48 ≤ b.toNat ∧ b.toNat ≤ 57) ∨ b.toNat = 45)) : nameC b = false := by
  simp [nameC, isLet, isDig]; omega
/-- how far a walk over a name has come: what is left decides -/
def goesN (l : List UInt8) (i : Nat) : Prop := i ≤ l.length ∧ (1 ≤ l.length ∧ l.length ≤ 12) ∧ (i = 0 ∨ l.head?.any isLet = true) ∧ l.all nameC = (l.drop i).all nameC
theorem goesN_0 {l : List UInt8} (h : 1 ≤ l.length ∧ l.length ≤ 12) : goesN l 0 := ⟨Nat.zero_le _, h, .inl rfl, rfl⟩
theorem nameOK_len {l : List UInt8} (h : ¬ (1 ≤ l.length ∧ l.length ≤ 12)) : nameOK l = false := by
  unfold nameOK
  rcases Nat.lt_or_ge l.length 1 with h1 | h1
  · rw [decide_eq_false (by omega : ¬ 1 ≤ l.length)]; rfl
  · rw [decide_eq_false (by omega : ¬ l.length ≤ 12)]; simp
theorem head_of {l : List UInt8} (h : 0 < l.length) : l.head? = some l[0] := by
  cases l with
  | nil => cases h
  | cons a r => rfl
theorem nameOK_head {l : List UInt8} (h : 0 < l.length) (hb : isLet l[0] = false) : nameOK l = false := by
  unfold nameOK
  rw [head_of h]
  simp [hb]
theorem goesN_bad {l : List UInt8} {i : Nat} (h : goesN l i) (hi : i < l.length) (hb : nameC l[i] = false) : nameOK l = false := by
  obtain ⟨_, _, _, h4⟩ := h
  unfold nameOK
  rw [h4, List.drop_eq_getElem_cons hi, List.all_cons, hb]
  simp
theorem goesN_first {l : List UInt8} {i : Nat} (hi : i < l.length) (h0 : i = 0) (hb : isLet l[i] = false) : nameOK l = false := by
  subst h0; exact nameOK_head hi hb
theorem goesN_step {l : List UInt8} {i : Nat} (h : goesN l i) (hi : i < l.length) (hb : nameC l[i] = true) (h0 : i = 0 → isLet l[i] = true) : goesN l (i + 1) := by
  obtain ⟨h1, h2, h3, h4⟩ := h
  refine ⟨hi, h2, .inr ?_, ?_⟩
  · rcases h3 with h3 | h3
    · have := h0 h3
      subst h3
      rw [head_of hi]; simpa using this
    · exact h3
  · rw [h4, List.drop_eq_getElem_cons hi, List.all_cons, hb]; simp
theorem goesN_end {l : List UInt8} {i : Nat} (h : goesN l i) (hi : ¬ i < l.length) : nameOK l = true := by
  obtain ⟨h1, h2, h3, h4⟩ := h
  have e : i = l.length := by omega
  subst e
  rw [List.drop_length] at h4
  have h5 : l.head?.any isLet = true := by
    rcases h3 with h3 | h3
    · omega
    · exact h3
  unfold nameOK
  rw [h4, h5, decide_eq_true h2.1, decide_eq_true h2.2]; rfl
end Go.Str

/- Chapter 6: names, rolls and their errors, in data. -/
namespace Go.Proofs.G5w
open Go Go.Abs Go.Proofs Go.Str
set_option maxRecDepth 100000
theorem ite_so {c : Prop} [Decidable c] {α : Type} {x h : α} {r : Option α} (e : (if c then some x else r) = some h) : (c ∧ x = h) ∨ r = some h := by
  by_cases hc : c
  · rw [if_pos hc] at e; exact .inl ⟨hc, Option.some.inj e⟩
  · rw [if_neg hc] at e; exact .inr e
theorem preGOK : PreOK Tryz.prog (preG C5) := by
  intro g h he args ats H k hk
  unfold preG at he
  rcases ite_so he with ⟨e, rfl⟩ | he
  · exact saidH_ok (fun _ _ _ h => h) _ _ _ _ _ hk
  · cases he
theorem hokG : HandlerOK Tryz.prog (hG C5) := handlerX_ok mixed preGOK (by decide) 6
theorem sayOr {f : FuncId} {args : List D} {b : Bool} {A B : Prop} (h : C5 f args [dB b]) (h1 : b = true → A) (h2 : b = false → B) : (Says C5 f args [.val (.bool true)] ∧ A) ∨ (Says C5 f args [.val (.bool false)] ∧ B) := by
  cases b with
  | true => exact .inl ⟨⟨h⟩, h1 rfl⟩
  | false => exact .inr ⟨⟨h⟩, h2 rfl⟩
theorem sayOr2 {f : FuncId} {args : List D} {x : D} {b : Bool} {A B : Prop} (h : C5 f args [x, dB b]) (h1 : b = true → A) (h2 : b = false → B) : (Says C5 f args [x, .val (.bool true)] ∧ A) ∨ (Says C5 f args [x, .val (.bool false)] ∧ B) := by
  cases b with
  | true => exact .inl ⟨⟨h⟩, h1 rfl⟩
  | false => exact .inr ⟨⟨h⟩, h2 rfl⟩
theorem lit_bs (b : UInt8) : ({ data := #[b] } : ByteArray) = bs [b] := rfl
theorem conIL (b : UInt8) : C5 83 [.val (.int .u8 (b.toNat : Int))] [dB (isLet b)] := by
  refine con_flat hokG mixed Tryz.func83 rfl (by show 0 ≤ 400; omega) rfl (by kernel_rfl) (fun caps => ?_)
  show gIL _ _ (b.toNat : Int) _
  rw [gIL_text]
  repeat' refine bc_dec (fun _ => ?_) (fun _ => ?_)
  all_goals first
    | (show [D.val (Value.bool true)] = [dB (isLet b)]; rw [let_t (by omega)])
    | (show [D.val (Value.bool false)] = [dB (isLet b)]; rw [let_f (by omega)])
theorem conID (b : UInt8) : C5 84 [.val (.int .u8 (b.toNat : Int))] [dB (isDig b)] := by
  refine con_flat hokG mixed Tryz.func84 rfl (by show 0 ≤ 400; omega) rfl (by kernel_rfl) (fun caps => ?_)
  show gID _ _ (b.toNat : Int) _
  rw [gID_text]
  repeat' refine bc_dec (fun _ => ?_) (fun _ => ?_)
  all_goals first
    | (show [D.val (Value.bool true)] = [dB (isDig b)]; rw [dig_t (by omega)])
    | (show [D.val (Value.bool false)] = [dB (isDig b)]; rw [dig_f (by omega)])
/-- the error of a name -/
def nameE (l : List UInt8) : Int := if nameOK l = true then 0 else 4
theorem nameE_bad {l : List UInt8} (h : nameOK l = false) : nameE l = 4 := by unfold nameE; rw [h]; rfl
theorem nameE_ok {l : List UInt8} (h : nameOK l = true) : nameE l = 0 := by unfold nameE; rw [h]; rfl
theorem conCN (l : List UInt8) : C5 56 [dS l] [dI (nameE l)] := by
  let inv : Nat → Prop := fun i => goesN l i ∧ l.head?.any isLet = true
  let st : Nat → Slots × Blocks := fun i => zCN1 (bs l) l.length i
  refine con_of (L := fun _ s b => ∃ x, inv x ∧ st x = (s, b)) hokG mixed Tryz.func56 rfl (by show 0 ≤ 400; omega) rfl (ids := [0]) (by kernel_rfl) rfl (fun caps => ?_) (fun id hid => ?_)
  · show gCN _ _ (bs l) _
    rw [gCN_text]
    simp only [bs_size]
    refine bc_beq (fun h => ?_) (fun h => bc_dec (fun h2 => ?_) (fun h2 => ?_))
    · show [dI 4] = [dI (nameE l)]
      rw [nameE_bad (nameOK_len (by omega))]
    · show [dI 4] = [dI (nameE l)]
      rw [nameE_bad (nameOK_len (by omega))]
    · have hl : 0 < l.length := by omega
      simp only [byte1 (List.getElem?_eq_getElem hl)]
      refine sayOr (conIL _) (fun h3 => ⟨0, ⟨goesN_0 (by omega), ?_⟩, rfl⟩) (fun h3 => ?_)
      · rw [head_of hl]; simpa using h3
      · show [dI 4] = [dI (nameE l)]
        rw [nameE_bad (nameOK_head hl h3)]
  · obtain rfl := List.mem_singleton.1 hid
    refine ⟨Nat, st, inv, fun x => l.length - x, ⟨fun s b h => h, by kernel_rfl, ?_⟩⟩
    rintro i ⟨hg, hh⟩
    have hb := hg.1
    have h12 := hg.2.1
    show rCN1 _ _ (bs l) l.length i _ _ _
    rw [rCN1_text]
    refine bc_dec (fun h => ?_) (fun h => ?_)
    · have hi : i < l.length := by omega
      have h0 : i = 0 → isLet l[i] = true := by
        rintro rfl
        rw [head_of hi] at hh; simpa using hh
      simp only [bc_t (show (0 : Int) ≤ (i : Int) by omega), Int.toNat_natCast, byte1 (List.getElem?_eq_getElem hi), wi1 hi (by omega)]
      have good : nameC l[i] = true → ∃ x, inv x ∧ l.length - x < l.length - i ∧ st x = ([(0, Value.string (bs l)), (19, .int .i64 (l.length : Int)), (20, .int .i64 ((i + 1 : Nat) : Int))], []) := fun hc =>
        ⟨i + 1, ⟨goesN_step hg hi hc h0, hh⟩, by omega, rfl⟩
      refine sayOr (conIL _) (fun h1 => good (by unfold nameC; rw [h1]; rfl)) (fun h1 => ?_)
      refine sayOr (conID _) (fun h2 => good (by unfold nameC; rw [h2]; simp)) (fun h2 => ?_)
      refine bc_bne (fun h3 => ?_) (fun h3 => good (by unfold nameC; rw [show l[i].toNat = 45 by omega]; simp))
      show [dI 4] = [dI (nameE l)]
      rw [nameE_bad (goesN_bad hg hi (by unfold nameC; rw [h1, h2]; simp; omega))]
    · show (if 0 = 0 then _ else _)
      rw [if_pos rfl]
      show nCN2 _ _ _
      rw [nCN2_text]
      show [dI 0] = [dI (nameE l)]
      rw [nameE_ok (goesN_end hg (by omega))]
theorem conIN (l : List UInt8) : C5 28 [dS l] [dB (nameOK l)] := by
  let inv : Nat → Prop := fun i => goesN l i
  let st : Nat → Slots × Blocks := fun i => zIN1 (bs l) i
  refine con_of (L := fun _ s b => ∃ x, inv x ∧ st x = (s, b)) hokG mixed Tryz.func28 rfl (by show 0 ≤ 400; omega) rfl (ids := [0]) (by kernel_rfl) rfl (fun caps => ?_) (fun id hid => ?_)
  · show gIN _ _ (bs l) _
    rw [gIN_text]
    simp only [bs_size]
    refine bc_dec (fun h => ?_) (fun h => bc_dec (fun h2 => ?_) (fun h2 => ⟨0, goesN_0 (by omega), rfl⟩))
    · show [D.val (Value.bool false)] = [dB (nameOK l)]
      rw [nameOK_len (by omega)]
    · show [D.val (Value.bool false)] = [dB (nameOK l)]
      rw [nameOK_len (by omega)]
  · obtain rfl := List.mem_singleton.1 hid
    refine ⟨Nat, st, inv, fun x => l.length - x, ⟨fun s b h => h, by kernel_rfl, ?_⟩⟩
    intro i hg
    have hb := hg.1
    have h12 := hg.2.1
    show rIN1 _ _ (bs l) i _ _ _
    rw [rIN1_text]
    simp only [bs_size]
    refine bc_dec (fun h => ?_) (fun h => ?_)
    · have hi : i < l.length := by omega
      simp only [bc_t (show (0 : Int) ≤ (i : Int) by omega), Int.toNat_natCast, byte1 (List.getElem?_eq_getElem hi), wi1 hi (by omega)]
      have good : nameC l[i] = true → (i = 0 → isLet l[i] = true) → ∃ x, inv x ∧ l.length - x < l.length - i ∧ st x = ([(0, Value.string (bs l)), (3, .int .i64 ((i + 1 : Nat) : Int))], []) := fun hc h0 =>
        ⟨i + 1, goesN_step hg hi hc h0, by omega, rfl⟩
      repeat' first
        | refine bc_dec (fun _ => ?_) (fun _ => ?_)
        | refine bc_beq (fun _ => ?_) (fun _ => ?_)
        | refine bc_bne (fun _ => ?_) (fun _ => ?_)
      all_goals first
        | exact good (name_t (by omega)) (fun _ => let_t (by omega))
        | exact good (name_t (by omega)) (fun h0 => absurd h0 (by omega))
        | (show [D.val (Value.bool false)] = [dB (nameOK l)]; rw [goesN_bad hg hi (name_f (by omega))])
        | (show [D.val (Value.bool false)] = [dB (nameOK l)]; rw [goesN_first hi (by omega) (let_f (by omega))])
    · show nIN2 _ _ _
      rw [nIN2_text]
      show [D.val (Value.bool true)] = [dB (nameOK l)]
      rw [goesN_end hg (by omega)]
/-- the error of a roll -/
def drumE (l : List UInt8) (p o : Int) : Int := if nameOK l = true then (if 4 ≤ p ∧ p ≤ 64 then (if Int.tmod p 4 = 0 then (if 0 ≤ o ∧ o ≤ p - 1 then 0 else 2) else 3) else 2) else 4
theorem drumE_name {l : List UInt8} {p o : Int} (h : nameOK l = false) : drumE l p o = 4 := by unfold drumE; rw [h]; rfl
theorem drumE_rng {l : List UInt8} {p o : Int} (h : nameOK l = true) (hp : ¬ (4 ≤ p ∧ p ≤ 64)) : drumE l p o = 2 := by unfold drumE; rw [if_pos h, if_neg hp]
theorem drumE_form {l : List UInt8} {p o : Int} (h : nameOK l = true) (hp : 4 ≤ p ∧ p ≤ 64) (hm : ¬ Int.tmod p 4 = 0) : drumE l p o = 3 := by unfold drumE; rw [if_pos h, if_pos hp, if_neg hm]
theorem drumE_off {l : List UInt8} {p o : Int} (h : nameOK l = true) (hp : 4 ≤ p ∧ p ≤ 64) (hm : Int.tmod p 4 = 0) (ho : ¬ (0 ≤ o ∧ o ≤ p - 1)) : drumE l p o = 2 := by unfold drumE; rw [if_pos h, if_pos hp, if_pos hm, if_neg ho]
theorem drumE_ok {l : List UInt8} {p o : Int} (h : nameOK l = true) (hp : 4 ≤ p ∧ p ≤ 64) (hm : Int.tmod p 4 = 0) (ho : 0 ≤ o ∧ o ≤ p - 1) : drumE l p o = 0 := by unfold drumE; rw [if_pos h, if_pos hp, if_pos hm, if_pos ho]
abbrev dD (l : List UInt8) (p o : Int) : D := .agg [dS l, dI p, dI o]
theorem conKD (l : List UInt8) (p o : Int) : C5 24 [dD l p o] [dI (drumE l p o)] := by
  refine con_flat hokG mixed Tryz.func24 rfl (by show 0 ≤ 400; omega) rfl (by kernel_rfl) (fun caps => ?_)
  show gKD _ _ (bs l) p o _
  rw [gKD_text]
  simp only [eq_self, true_and, and_true]
  refine ⟨_, ⟨conCN l⟩, ?_⟩
  by_cases hp : 4 ≤ p ∧ p ≤ 64
  · simp only [w64 (z := p - 1) (by omega) (by omega)]
    cases hn : nameOK l with
    | true =>
      rw [nameE_ok hn]
      repeat' first
        | refine bc_dec (fun _ => ?_) (fun _ => ?_)
        | refine bc_beq (fun _ => ?_) (fun _ => ?_)
        | refine bc_bne (fun _ => ?_) (fun _ => ?_)
      all_goals first
        | (exfalso; omega)
        | (show [dI 3] = [dI (drumE l p o)]; rw [drumE_form hn hp (by assumption)])
        | (show [dI 2] = [dI (drumE l p o)]; rw [drumE_off hn hp (by assumption) (by omega)])
        | (show [dI 0] = [dI (drumE l p o)]; rw [drumE_ok hn hp (by assumption) (by omega)])
    | false =>
      rw [nameE_bad hn]
      repeat' first
        | refine bc_dec (fun _ => ?_) (fun _ => ?_)
        | refine bc_beq (fun _ => ?_) (fun _ => ?_)
        | refine bc_bne (fun _ => ?_) (fun _ => ?_)
      all_goals first
        | (exfalso; omega)
        | (show [dI 4] = [dI (drumE l p o)]; rw [drumE_name hn])
  · cases hn : nameOK l with
    | true =>
      rw [nameE_ok hn]
      repeat' first
        | refine bc_dec (fun _ => ?_) (fun _ => ?_)
        | refine bc_beq (fun _ => ?_) (fun _ => ?_)
        | refine bc_bne (fun _ => ?_) (fun _ => ?_)
      all_goals first
        | (exfalso; omega)
        | (show [dI 2] = [dI (drumE l p o)]; rw [drumE_rng hn hp])
    | false =>
      rw [nameE_bad hn]
      repeat' first
        | refine bc_dec (fun _ => ?_) (fun _ => ?_)
        | refine bc_beq (fun _ => ?_) (fun _ => ?_)
        | refine bc_bne (fun _ => ?_) (fun _ => ?_)
      all_goals first
        | (exfalso; omega)
        | (show [dI 4] = [dI (drumE l p o)]; rw [drumE_name hn])
theorem conRK (l : List UInt8) (p o : Int) : C5 9 [dD l p o] [dI (drumE l p o)] := by
  refine con_flat hokG mixed Tryz.func9 rfl (by show 0 ≤ 400; omega) rfl (by kernel_rfl) (fun caps => ?_)
  show gRK _ _ (bs l) p o _
  rw [gRK_text]
  refine sayOr (conIN l) (fun hn => ?_) (fun hn => ?_)
  · refine sayOr (conWi _ _ _) (fun hp => ?_) (fun hp => ?_)
    · simp only [Bool.and_eq_true, decide_eq_true_eq] at hp
      simp only [w64 (z := p - 1) (by omega) (by omega)]
      refine bc_bne (fun hm => ?_) (fun hm => sayOr (conWi _ _ _) (fun ho => ?_) (fun ho => ?_))
      · show [dI 3] = [dI (drumE l p o)]; rw [drumE_form hn hp hm]
      · simp only [Bool.and_eq_true, decide_eq_true_eq] at ho
        show [dI 0] = [dI (drumE l p o)]; rw [drumE_ok hn hp hm ho]
      · simp only [Bool.and_eq_false_iff, decide_eq_false_iff_not] at ho
        show [dI 2] = [dI (drumE l p o)]; rw [drumE_off hn hp hm (by omega)]
    · simp only [Bool.and_eq_false_iff, decide_eq_false_iff_not] at hp
      show [dI 2] = [dI (drumE l p o)]; rw [drumE_rng hn (by omega)]
  · show [dI 4] = [dI (drumE l p o)]; rw [drumE_name hn]
end Go.Proofs.G5w
