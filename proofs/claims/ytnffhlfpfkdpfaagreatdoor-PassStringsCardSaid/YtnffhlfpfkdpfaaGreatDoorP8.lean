/- Texts of the proof, put together: GxXM, GxXP4, GxXP5, GxXPA0, GxXPA1, GxXPA2, GxXPA3, GxXPA, GxX9, GxXQ, GxXQK. -/
import Derived.Test.YtnffhlfpfkdpfaaGreatDoorP6
import Derived.Test.YtnffhlfpfkdpfaaGreatDoorP7
import Derived.Test.YtnffhlfpfkdpfaaGreatDoorP5
/- What is left to show of each function, written out; the kernel reckons it. -/
namespace Go.Proofs.G5x
open Go Go.Abs Go.Proofs
set_option maxRecDepth 100000
set_option linter.unusedVariables false
def gLSss (C : Ct) (L : AtLoop) (x0 : Int) (x1 : Int) (x2 : Int) (x3 : Int) (x4 : Int) (x5 : Int) (n6 : Nat) (c6 : Nat) (l6 : List Value) (x7 : Int) (x8 : Int) (x9 : Int) (x10 : Int) (s11 : ByteArray) (n12 : Nat) (c12 : Nat) (l12 : List Value) (k : List D → Prop) : Prop := wpFn Tryz.prog (hX C) L 0 3 #[.agg #[.int .i64 x0, .int .i64 x1, .int .i64 x2, .int .i64 x3, .int .i64 x4, .int .i64 x5, .slice (some ⟨500, 0, none⟩) n6 c6, .int .i64 x7, .int .i64 x8, .int .i64 x9, .int .i64 x10], .agg #[.string s11, .slice (some ⟨501, 0, none⟩) n12 c12]] (heapOf [(500, .sym l6 false 5), (501, .sym l12 false 1)]) (dataK k)
theorem gLSss_text (C : Ct) (L : AtLoop) (x0 : Int) (x1 : Int) (x2 : Int) (x3 : Int) (x4 : Int) (x5 : Int) (n6 : Nat) (c6 : Nat) (l6 : List Go.Value) (x7 : Int) (x8 : Int) (x9 : Int) (x10 : Int) (s11 : ByteArray) (n12 : Nat) (c12 : Nat) (l12 : List Go.Value) (k : List D → Prop) : gLSss C L x0 x1 x2 x3 x4 x5 n6 c6 l6 x7 x8 x9 x10 s11 n12 c12 l12 k =
 (((Says C 5 [] kT) ∧
 (bcase (decide ((↑n6 : Int) ≤ 8))
 (bcase (decide ((↑n12 : Int) ≤ 8))
 (bcase (decide ((↑(ByteArray.size s11) : Int) ≤ 30))
 (((Qv (Value.agg [(vI x0), (vI x1), (vI x2), (vI x3), (vI x4), (vI x5), (Sl 500 (n6) (c6)), (vI x7), (vI x8), (vI x9), (vI x10)].toArray)) ∧
 ((Qv (Value.agg [(Value.string (s11)), (Sl 501 (n12) (c12))].toArray)) ∧
 True)) ∧
 (bcase (dL n12 1 l12)
 ((Says C 8 [(D.agg [(D.val (Value.string (s11))), (Dw n12 1 l12)])] [(D.agg [(D.val (Value.string (s11))), (Dw n12 1 l12)])]) ∧
 (((Qv (Value.agg [(vI x0), (vI x1), (vI x2), (vI x3), (vI x4), (vI x5), (Sl 500 (n6) (c6)), (vI x7), (vI x8), (vI x9), (vI x10)].toArray)) ∧
 True) ∧
 (bcase (dL n12 1 (Tk n12 1 l12))
 (∃ s1 : ByteArray,
 ((Says C 7 [(D.agg [(D.val (Value.string (s11))), (Dw n12 1 (Tk n12 1 l12))])] [(D.val (Value.string (s1)))]) ∧
 (((Qv (Value.agg [(vI x0), (vI x1), (vI x2), (vI x3), (vI x4), (vI x5), (Sl 500 (n6) (c6)), (vI x7), (vI x8), (vI x9), (vI x10)].toArray)) ∧
 True) ∧
 (bcase (dL n6 5 l6)
 ((Says C 10 [(D.agg [(dI x0), (dI x1), (dI x2), (dI x3), (dI x4), (dI x5), (Dw n6 5 l6), (dI x7), (dI x8), (dI x9), (dI x10)])] [(D.agg [(dI x0), (dI x1), (dI x2), (dI x3), (dI x4), (dI x5), (Dw n6 5 l6), (dI x7), (dI x8), (dI x9), (dI x10)])]) ∧
 (True ∧
 (bcase (dL n6 5 (Tk n6 5 l6))
 (∃ s2 : ByteArray,
 ((Says C 9 [(D.agg [(dI x0), (dI x1), (dI x2), (dI x3), (dI x4), (dI x5), (Dw n6 5 (Tk n6 5 l6)), (dI x7), (dI x8), (dI x9), (dI x10)])] [(D.val (Value.string (s2)))]) ∧
 (True ∧
 (True ∧
 (True ∧
 (bcase (dL n12 1 l12)
 (∃ s3 : ByteArray,
 ((Says C 11 [(D.agg [(D.val (Value.string (s11))), (Dw n12 1 l12)])] [(D.val (Value.string (s3)))]) ∧
 (bcase (!ByteArray.toList s1 == ByteArray.toList s3)
 (k kF)
 (bcase (dL n6 5 l6)
 (∃ s4 : ByteArray,
 ((Says C 12 [(D.agg [(dI x0), (dI x1), (dI x2), (dI x3), (dI x4), (dI x5), (Dw n6 5 l6), (dI x7), (dI x8), (dI x9), (dI x10)])] [(D.val (Value.string (s4)))]) ∧
 (bcase (!ByteArray.toList s2 == ByteArray.toList s4)
 (k kF)
 (bcase (dL n6 5 l6)
 (∃ n1 : Int,
 ((Says C 13 [(D.agg [(dI x0), (dI x1), (dI x2), (dI x3), (dI x4), (dI x5), (Dw n6 5 l6), (dI x7), (dI x8), (dI x9), (dI x10)])] [(dI n1)]) ∧
 (bcase (n1 != 0)
 (k kT)
 (∃ n2 : Int,
 (∃ n3 : Int,
 (∃ n4 : Int,
 (∃ n5 : Int,
 (∃ n7 : Int,
 (∃ n8 : Int,
 ((∃ n9 : Int,
 (∃ n10 : Int,
 (∃ n11 : Int,
 (∃ n13 : Int,
 (∃ n14 : Int,
 ((Says C 14 [(D.val (Value.string (s2)))] [(D.agg [(dI n2), (dI n3), (dI n4), (dI n5), (dI n7), (dI n8), D.nil, (dI n9), (dI n10), (dI n11), (dI n13)]), (dI n14)]) ∧
 (bcase (n14 != 0)
 (k kF)
 (bcase (dL n6 5 l6)
 (((Says C 15 [(D.agg [(dI n2), (dI n3), (dI n4), (dI n5), (dI n7), (dI n8), D.nil, (dI n9), (dI n10), (dI n11), (dI n13)]), (D.agg [(dI x0), (dI x1), (dI x2), (dI x3), (dI x4), (dI x5), (Dw n6 5 l6), (dI x7), (dI x8), (dI x9), (dI x10)])] kT) ∧
 (bcase (dL n6 5 l6)
 (bcase (dL n12 1 l12)
 (∃ n15 : Int,
 ((Says C 16 [(D.agg [(dI x0), (dI x1), (dI x2), (dI x3), (dI x4), (dI x5), (Dw n6 5 l6), (dI x7), (dI x8), (dI x9), (dI x10)]), (D.agg [(D.val (Value.string (s11))), (Dw n12 1 l12)])] [(dI n15)]) ∧
 (bcase (n15 != 0)
 (k kT)
 (∃ s5 : ByteArray,
 ((∃ n16 : Int,
 ((Says C 17 [(D.val (Value.string (s1)))] [(D.agg [(D.val (Value.string (s5))), D.nil]), (dI n16)]) ∧
 (bcase (n16 == 0)
 (bcase (dL n12 1 l12)
 (((Says C 18 [(D.agg [(D.val (Value.string (s5))), D.nil]), (D.agg [(D.val (Value.string (s11))), (Dw n12 1 l12)])] kT) ∧
 (k kT)) ∨
 ((Says C 18 [(D.agg [(D.val (Value.string (s5))), D.nil]), (D.agg [(D.val (Value.string (s11))), (Dw n12 1 l12)])] kF) ∧
 (k kF)))
 False)
 (k kF)))) ∨
 (∃ n16 : Nat,
 (∃ cs1 : List Go.Value,
 (∃ n17 : Int,
 ((Says C 17 [(D.val (Value.string (s1)))] [(D.agg [(D.val (Value.string (s5))), (D.sl (n16) 1 (cs1))]), (dI n17)]) ∧
 (bcase (n17 == 0)
 (bcase (dL n16 1 cs1)
 (bcase (dL n12 1 l12)
 (((Says C 18 [(D.agg [(D.val (Value.string (s5))), (Dw n16 1 cs1)]), (D.agg [(D.val (Value.string (s11))), (Dw n12 1 l12)])] kT) ∧
 (k kT)) ∨
 ((Says C 18 [(D.agg [(D.val (Value.string (s5))), (Dw n16 1 cs1)]), (D.agg [(D.val (Value.string (s11))), (Dw n12 1 l12)])] kF) ∧
 (k kF)))
 False)
 False)
 (k kF)))))))))))
 False)
 False)) ∨
 ((Says C 15 [(D.agg [(dI n2), (dI n3), (dI n4), (dI n5), (dI n7), (dI n8), D.nil, (dI n9), (dI n10), (dI n11), (dI n13)]), (D.agg [(dI x0), (dI x1), (dI x2), (dI x3), (dI x4), (dI x5), (Dw n6 5 l6), (dI x7), (dI x8), (dI x9), (dI x10)])] kF) ∧
 (k kF)))
 False)))))))) ∨
 (∃ n9 : Nat,
 (∃ cs1 : List Go.Value,
 (∃ n10 : Int,
 (∃ n11 : Int,
 (∃ n13 : Int,
 (∃ n14 : Int,
 (∃ n15 : Int,
 ((Says C 14 [(D.val (Value.string (s2)))] [(D.agg [(dI n2), (dI n3), (dI n4), (dI n5), (dI n7), (dI n8), (D.sl (n9) 5 (cs1)), (dI n10), (dI n11), (dI n13), (dI n14)]), (dI n15)]) ∧
 (bcase (n15 != 0)
 (k kF)
 (bcase (dL n9 5 cs1)
 (bcase (dL n6 5 l6)
 (((Says C 15 [(D.agg [(dI n2), (dI n3), (dI n4), (dI n5), (dI n7), (dI n8), (Dw n9 5 cs1), (dI n10), (dI n11), (dI n13), (dI n14)]), (D.agg [(dI x0), (dI x1), (dI x2), (dI x3), (dI x4), (dI x5), (Dw n6 5 l6), (dI x7), (dI x8), (dI x9), (dI x10)])] kT) ∧
 (bcase (dL n6 5 l6)
 (bcase (dL n12 1 l12)
 (∃ n16 : Int,
 ((Says C 16 [(D.agg [(dI x0), (dI x1), (dI x2), (dI x3), (dI x4), (dI x5), (Dw n6 5 l6), (dI x7), (dI x8), (dI x9), (dI x10)]), (D.agg [(D.val (Value.string (s11))), (Dw n12 1 l12)])] [(dI n16)]) ∧
 (bcase (n16 != 0)
 (k kT)
 (∃ s5 : ByteArray,
 ((∃ n17 : Int,
 ((Says C 17 [(D.val (Value.string (s1)))] [(D.agg [(D.val (Value.string (s5))), D.nil]), (dI n17)]) ∧
 (bcase (n17 == 0)
 (bcase (dL n12 1 l12)
 (((Says C 18 [(D.agg [(D.val (Value.string (s5))), D.nil]), (D.agg [(D.val (Value.string (s11))), (Dw n12 1 l12)])] kT) ∧
 (k kT)) ∨
 ((Says C 18 [(D.agg [(D.val (Value.string (s5))), D.nil]), (D.agg [(D.val (Value.string (s11))), (Dw n12 1 l12)])] kF) ∧
 (k kF)))
 False)
 (k kF)))) ∨
 (∃ n17 : Nat,
 (∃ cs2 : List Go.Value,
 (∃ n18 : Int,
 ((Says C 17 [(D.val (Value.string (s1)))] [(D.agg [(D.val (Value.string (s5))), (D.sl (n17) 1 (cs2))]), (dI n18)]) ∧
 (bcase (n18 == 0)
 (bcase (dL n17 1 cs2)
 (bcase (dL n12 1 l12)
 (((Says C 18 [(D.agg [(D.val (Value.string (s5))), (Dw n17 1 cs2)]), (D.agg [(D.val (Value.string (s11))), (Dw n12 1 l12)])] kT) ∧
 (k kT)) ∨
 ((Says C 18 [(D.agg [(D.val (Value.string (s5))), (Dw n17 1 cs2)]), (D.agg [(D.val (Value.string (s11))), (Dw n12 1 l12)])] kF) ∧
 (k kF)))
 False)
 False)
 (k kF)))))))))))
 False)
 False)) ∨
 ((Says C 15 [(D.agg [(dI n2), (dI n3), (dI n4), (dI n5), (dI n7), (dI n8), (Dw n9 5 cs1), (dI n10), (dI n11), (dI n13), (dI n14)]), (D.agg [(dI x0), (dI x1), (dI x2), (dI x3), (dI x4), (dI x5), (Dw n6 5 l6), (dI x7), (dI x8), (dI x9), (dI x10)])] kF) ∧
 (k kF)))
 False)
 False))))))))))))))))))))
 False))))
 False))))
 False))))))
 False)))
 False))))
 False)))
 False))
 (k kT))
 (k kT))
 (k kT))) ∨
 ((Says C 5 [] kF) ∧
 (k kF))) := by kernel_rfl
def gLSsn (C : Ct) (L : AtLoop) (x0 : Int) (x1 : Int) (x2 : Int) (x3 : Int) (x4 : Int) (x5 : Int) (n6 : Nat) (c6 : Nat) (l6 : List Value) (x7 : Int) (x8 : Int) (x9 : Int) (x10 : Int) (s11 : ByteArray) (k : List D → Prop) : Prop := wpFn Tryz.prog (hX C) L 0 3 #[.agg #[.int .i64 x0, .int .i64 x1, .int .i64 x2, .int .i64 x3, .int .i64 x4, .int .i64 x5, .slice (some ⟨500, 0, none⟩) n6 c6, .int .i64 x7, .int .i64 x8, .int .i64 x9, .int .i64 x10], .agg #[.string s11, .slice none 0 0]] (heapOf [(500, .sym l6 false 5)]) (dataK k)
theorem gLSsn_text (C : Ct) (L : AtLoop) (x0 : Int) (x1 : Int) (x2 : Int) (x3 : Int) (x4 : Int) (x5 : Int) (n6 : Nat) (c6 : Nat) (l6 : List Go.Value) (x7 : Int) (x8 : Int) (x9 : Int) (x10 : Int) (s11 : ByteArray) (k : List D → Prop) : gLSsn C L x0 x1 x2 x3 x4 x5 n6 c6 l6 x7 x8 x9 x10 s11 k =
 (((Says C 5 [] kT) ∧
 (bcase (decide ((↑n6 : Int) ≤ 8))
 (bcase (decide ((↑(ByteArray.size s11) : Int) ≤ 30))
 (((Qv (Value.agg [(vI x0), (vI x1), (vI x2), (vI x3), (vI x4), (vI x5), (Sl 500 (n6) (c6)), (vI x7), (vI x8), (vI x9), (vI x10)].toArray)) ∧
 ((Qv (Value.agg [(Value.string (s11)), (Value.slice none 0 0)].toArray)) ∧
 True)) ∧
 ((Says C 8 [(D.agg [(D.val (Value.string (s11))), D.nil])] [(D.agg [(D.val (Value.string (s11))), (D.sl 0 1 [])])]) ∧
 (((Qv (Value.agg [(vI x0), (vI x1), (vI x2), (vI x3), (vI x4), (vI x5), (Sl 500 (n6) (c6)), (vI x7), (vI x8), (vI x9), (vI x10)].toArray)) ∧
 True) ∧
 (∃ s1 : ByteArray,
 ((Says C 7 [(D.agg [(D.val (Value.string (s11))), (D.sl 0 1 [])])] [(D.val (Value.string (s1)))]) ∧
 (((Qv (Value.agg [(vI x0), (vI x1), (vI x2), (vI x3), (vI x4), (vI x5), (Sl 500 (n6) (c6)), (vI x7), (vI x8), (vI x9), (vI x10)].toArray)) ∧
 True) ∧
 (bcase (dL n6 5 l6)
 ((Says C 10 [(D.agg [(dI x0), (dI x1), (dI x2), (dI x3), (dI x4), (dI x5), (Dw n6 5 l6), (dI x7), (dI x8), (dI x9), (dI x10)])] [(D.agg [(dI x0), (dI x1), (dI x2), (dI x3), (dI x4), (dI x5), (Dw n6 5 l6), (dI x7), (dI x8), (dI x9), (dI x10)])]) ∧
 (True ∧
 (bcase (dL n6 5 (Tk n6 5 l6))
 (∃ s2 : ByteArray,
 ((Says C 9 [(D.agg [(dI x0), (dI x1), (dI x2), (dI x3), (dI x4), (dI x5), (Dw n6 5 (Tk n6 5 l6)), (dI x7), (dI x8), (dI x9), (dI x10)])] [(D.val (Value.string (s2)))]) ∧
 (True ∧
 (True ∧
 (True ∧
 (∃ s3 : ByteArray,
 ((Says C 11 [(D.agg [(D.val (Value.string (s11))), D.nil])] [(D.val (Value.string (s3)))]) ∧
 (bcase (!ByteArray.toList s1 == ByteArray.toList s3)
 (k kF)
 (bcase (dL n6 5 l6)
 (∃ s4 : ByteArray,
 ((Says C 12 [(D.agg [(dI x0), (dI x1), (dI x2), (dI x3), (dI x4), (dI x5), (Dw n6 5 l6), (dI x7), (dI x8), (dI x9), (dI x10)])] [(D.val (Value.string (s4)))]) ∧
 (bcase (!ByteArray.toList s2 == ByteArray.toList s4)
 (k kF)
 (bcase (dL n6 5 l6)
 (∃ n1 : Int,
 ((Says C 13 [(D.agg [(dI x0), (dI x1), (dI x2), (dI x3), (dI x4), (dI x5), (Dw n6 5 l6), (dI x7), (dI x8), (dI x9), (dI x10)])] [(dI n1)]) ∧
 (bcase (n1 != 0)
 (k kT)
 (∃ n2 : Int,
 (∃ n3 : Int,
 (∃ n4 : Int,
 (∃ n5 : Int,
 (∃ n7 : Int,
 (∃ n8 : Int,
 ((∃ n9 : Int,
 (∃ n10 : Int,
 (∃ n11 : Int,
 (∃ n12 : Int,
 (∃ n13 : Int,
 ((Says C 14 [(D.val (Value.string (s2)))] [(D.agg [(dI n2), (dI n3), (dI n4), (dI n5), (dI n7), (dI n8), D.nil, (dI n9), (dI n10), (dI n11), (dI n12)]), (dI n13)]) ∧
 (bcase (n13 != 0)
 (k kF)
 (bcase (dL n6 5 l6)
 (((Says C 15 [(D.agg [(dI n2), (dI n3), (dI n4), (dI n5), (dI n7), (dI n8), D.nil, (dI n9), (dI n10), (dI n11), (dI n12)]), (D.agg [(dI x0), (dI x1), (dI x2), (dI x3), (dI x4), (dI x5), (Dw n6 5 l6), (dI x7), (dI x8), (dI x9), (dI x10)])] kT) ∧
 (bcase (dL n6 5 l6)
 (∃ n14 : Int,
 ((Says C 16 [(D.agg [(dI x0), (dI x1), (dI x2), (dI x3), (dI x4), (dI x5), (Dw n6 5 l6), (dI x7), (dI x8), (dI x9), (dI x10)]), (D.agg [(D.val (Value.string (s11))), D.nil])] [(dI n14)]) ∧
 (bcase (n14 != 0)
 (k kT)
 (∃ s5 : ByteArray,
 ((∃ n15 : Int,
 ((Says C 17 [(D.val (Value.string (s1)))] [(D.agg [(D.val (Value.string (s5))), D.nil]), (dI n15)]) ∧
 (bcase (n15 == 0)
 (((Says C 18 [(D.agg [(D.val (Value.string (s5))), D.nil]), (D.agg [(D.val (Value.string (s11))), D.nil])] kT) ∧
 (k kT)) ∨
 ((Says C 18 [(D.agg [(D.val (Value.string (s5))), D.nil]), (D.agg [(D.val (Value.string (s11))), D.nil])] kF) ∧
 (k kF)))
 (k kF)))) ∨
 (∃ n15 : Nat,
 (∃ cs1 : List Go.Value,
 (∃ n16 : Int,
 ((Says C 17 [(D.val (Value.string (s1)))] [(D.agg [(D.val (Value.string (s5))), (D.sl (n15) 1 (cs1))]), (dI n16)]) ∧
 (bcase (n16 == 0)
 (bcase (dL n15 1 cs1)
 (((Says C 18 [(D.agg [(D.val (Value.string (s5))), (Dw n15 1 cs1)]), (D.agg [(D.val (Value.string (s11))), D.nil])] kT) ∧
 (k kT)) ∨
 ((Says C 18 [(D.agg [(D.val (Value.string (s5))), (Dw n15 1 cs1)]), (D.agg [(D.val (Value.string (s11))), D.nil])] kF) ∧
 (k kF)))
 False)
 (k kF)))))))))))
 False)) ∨
 ((Says C 15 [(D.agg [(dI n2), (dI n3), (dI n4), (dI n5), (dI n7), (dI n8), D.nil, (dI n9), (dI n10), (dI n11), (dI n12)]), (D.agg [(dI x0), (dI x1), (dI x2), (dI x3), (dI x4), (dI x5), (Dw n6 5 l6), (dI x7), (dI x8), (dI x9), (dI x10)])] kF) ∧
 (k kF)))
 False)))))))) ∨
 (∃ n9 : Nat,
 (∃ cs1 : List Go.Value,
 (∃ n10 : Int,
 (∃ n11 : Int,
 (∃ n12 : Int,
 (∃ n13 : Int,
 (∃ n14 : Int,
 ((Says C 14 [(D.val (Value.string (s2)))] [(D.agg [(dI n2), (dI n3), (dI n4), (dI n5), (dI n7), (dI n8), (D.sl (n9) 5 (cs1)), (dI n10), (dI n11), (dI n12), (dI n13)]), (dI n14)]) ∧
 (bcase (n14 != 0)
 (k kF)
 (bcase (dL n9 5 cs1)
 (bcase (dL n6 5 l6)
 (((Says C 15 [(D.agg [(dI n2), (dI n3), (dI n4), (dI n5), (dI n7), (dI n8), (Dw n9 5 cs1), (dI n10), (dI n11), (dI n12), (dI n13)]), (D.agg [(dI x0), (dI x1), (dI x2), (dI x3), (dI x4), (dI x5), (Dw n6 5 l6), (dI x7), (dI x8), (dI x9), (dI x10)])] kT) ∧
 (bcase (dL n6 5 l6)
 (∃ n15 : Int,
 ((Says C 16 [(D.agg [(dI x0), (dI x1), (dI x2), (dI x3), (dI x4), (dI x5), (Dw n6 5 l6), (dI x7), (dI x8), (dI x9), (dI x10)]), (D.agg [(D.val (Value.string (s11))), D.nil])] [(dI n15)]) ∧
 (bcase (n15 != 0)
 (k kT)
 (∃ s5 : ByteArray,
 ((∃ n16 : Int,
 ((Says C 17 [(D.val (Value.string (s1)))] [(D.agg [(D.val (Value.string (s5))), D.nil]), (dI n16)]) ∧
 (bcase (n16 == 0)
 (((Says C 18 [(D.agg [(D.val (Value.string (s5))), D.nil]), (D.agg [(D.val (Value.string (s11))), D.nil])] kT) ∧
 (k kT)) ∨
 ((Says C 18 [(D.agg [(D.val (Value.string (s5))), D.nil]), (D.agg [(D.val (Value.string (s11))), D.nil])] kF) ∧
 (k kF)))
 (k kF)))) ∨
 (∃ n16 : Nat,
 (∃ cs2 : List Go.Value,
 (∃ n17 : Int,
 ((Says C 17 [(D.val (Value.string (s1)))] [(D.agg [(D.val (Value.string (s5))), (D.sl (n16) 1 (cs2))]), (dI n17)]) ∧
 (bcase (n17 == 0)
 (bcase (dL n16 1 cs2)
 (((Says C 18 [(D.agg [(D.val (Value.string (s5))), (Dw n16 1 cs2)]), (D.agg [(D.val (Value.string (s11))), D.nil])] kT) ∧
 (k kT)) ∨
 ((Says C 18 [(D.agg [(D.val (Value.string (s5))), (Dw n16 1 cs2)]), (D.agg [(D.val (Value.string (s11))), D.nil])] kF) ∧
 (k kF)))
 False)
 (k kF)))))))))))
 False)) ∨
 ((Says C 15 [(D.agg [(dI n2), (dI n3), (dI n4), (dI n5), (dI n7), (dI n8), (Dw n9 5 cs1), (dI n10), (dI n11), (dI n12), (dI n13)]), (D.agg [(dI x0), (dI x1), (dI x2), (dI x3), (dI x4), (dI x5), (Dw n6 5 l6), (dI x7), (dI x8), (dI x9), (dI x10)])] kF) ∧
 (k kF)))
 False)
 False))))))))))))))))))))
 False))))
 False)))))))))
 False)))
 False)))))))
 (k kT))
 (k kT))) ∨
 ((Says C 5 [] kF) ∧
 (k kF))) := by kernel_rfl
def gLSns (C : Ct) (L : AtLoop) (x0 : Int) (x1 : Int) (x2 : Int) (x3 : Int) (x4 : Int) (x5 : Int) (x7 : Int) (x8 : Int) (x9 : Int) (x10 : Int) (s11 : ByteArray) (n12 : Nat) (c12 : Nat) (l12 : List Value) (k : List D → Prop) : Prop := wpFn Tryz.prog (hX C) L 0 3 #[.agg #[.int .i64 x0, .int .i64 x1, .int .i64 x2, .int .i64 x3, .int .i64 x4, .int .i64 x5, .slice none 0 0, .int .i64 x7, .int .i64 x8, .int .i64 x9, .int .i64 x10], .agg #[.string s11, .slice (some ⟨500, 0, none⟩) n12 c12]] (heapOf [(500, .sym l12 false 1)]) (dataK k)
theorem gLSns_text (C : Ct) (L : AtLoop) (x0 : Int) (x1 : Int) (x2 : Int) (x3 : Int) (x4 : Int) (x5 : Int) (x7 : Int) (x8 : Int) (x9 : Int) (x10 : Int) (s11 : ByteArray) (n12 : Nat) (c12 : Nat) (l12 : List Go.Value) (k : List D → Prop) : gLSns C L x0 x1 x2 x3 x4 x5 x7 x8 x9 x10 s11 n12 c12 l12 k =
 (((Says C 5 [] kT) ∧
 (bcase (decide ((↑n12 : Int) ≤ 8))
 (bcase (decide ((↑(ByteArray.size s11) : Int) ≤ 30))
 (((Qv (Value.agg [(vI x0), (vI x1), (vI x2), (vI x3), (vI x4), (vI x5), (Value.slice none 0 0), (vI x7), (vI x8), (vI x9), (vI x10)].toArray)) ∧
 ((Qv (Value.agg [(Value.string (s11)), (Sl 500 (n12) (c12))].toArray)) ∧
 True)) ∧
 (bcase (dL n12 1 l12)
 ((Says C 8 [(D.agg [(D.val (Value.string (s11))), (Dw n12 1 l12)])] [(D.agg [(D.val (Value.string (s11))), (Dw n12 1 l12)])]) ∧
 (((Qv (Value.agg [(vI x0), (vI x1), (vI x2), (vI x3), (vI x4), (vI x5), (Value.slice none 0 0), (vI x7), (vI x8), (vI x9), (vI x10)].toArray)) ∧
 True) ∧
 (bcase (dL n12 1 (Tk n12 1 l12))
 (∃ s1 : ByteArray,
 ((Says C 7 [(D.agg [(D.val (Value.string (s11))), (Dw n12 1 (Tk n12 1 l12))])] [(D.val (Value.string (s1)))]) ∧
 (((Qv (Value.agg [(vI x0), (vI x1), (vI x2), (vI x3), (vI x4), (vI x5), (Value.slice none 0 0), (vI x7), (vI x8), (vI x9), (vI x10)].toArray)) ∧
 True) ∧
 ((Says C 10 [(D.agg [(dI x0), (dI x1), (dI x2), (dI x3), (dI x4), (dI x5), D.nil, (dI x7), (dI x8), (dI x9), (dI x10)])] [(D.agg [(dI x0), (dI x1), (dI x2), (dI x3), (dI x4), (dI x5), (D.sl 0 5 []), (dI x7), (dI x8), (dI x9), (dI x10)])]) ∧
 (True ∧
 (∃ s2 : ByteArray,
 ((Says C 9 [(D.agg [(dI x0), (dI x1), (dI x2), (dI x3), (dI x4), (dI x5), (D.sl 0 5 []), (dI x7), (dI x8), (dI x9), (dI x10)])] [(D.val (Value.string (s2)))]) ∧
 (True ∧
 (True ∧
 (True ∧
 (bcase (dL n12 1 l12)
 (∃ s3 : ByteArray,
 ((Says C 11 [(D.agg [(D.val (Value.string (s11))), (Dw n12 1 l12)])] [(D.val (Value.string (s3)))]) ∧
 (bcase (!ByteArray.toList s1 == ByteArray.toList s3)
 (k kF)
 (∃ s4 : ByteArray,
 ((Says C 12 [(D.agg [(dI x0), (dI x1), (dI x2), (dI x3), (dI x4), (dI x5), D.nil, (dI x7), (dI x8), (dI x9), (dI x10)])] [(D.val (Value.string (s4)))]) ∧
 (bcase (!ByteArray.toList s2 == ByteArray.toList s4)
 (k kF)
 (∃ n1 : Int,
 ((Says C 13 [(D.agg [(dI x0), (dI x1), (dI x2), (dI x3), (dI x4), (dI x5), D.nil, (dI x7), (dI x8), (dI x9), (dI x10)])] [(dI n1)]) ∧
 (bcase (n1 != 0)
 (k kT)
 (∃ n2 : Int,
 (∃ n3 : Int,
 (∃ n4 : Int,
 (∃ n5 : Int,
 (∃ n6 : Int,
 (∃ n7 : Int,
 ((∃ n8 : Int,
 (∃ n9 : Int,
 (∃ n10 : Int,
 (∃ n11 : Int,
 (∃ n13 : Int,
 ((Says C 14 [(D.val (Value.string (s2)))] [(D.agg [(dI n2), (dI n3), (dI n4), (dI n5), (dI n6), (dI n7), D.nil, (dI n8), (dI n9), (dI n10), (dI n11)]), (dI n13)]) ∧
 (bcase (n13 != 0)
 (k kF)
 (((Says C 15 [(D.agg [(dI n2), (dI n3), (dI n4), (dI n5), (dI n6), (dI n7), D.nil, (dI n8), (dI n9), (dI n10), (dI n11)]), (D.agg [(dI x0), (dI x1), (dI x2), (dI x3), (dI x4), (dI x5), D.nil, (dI x7), (dI x8), (dI x9), (dI x10)])] kT) ∧
 (bcase (dL n12 1 l12)
 (∃ n14 : Int,
 ((Says C 16 [(D.agg [(dI x0), (dI x1), (dI x2), (dI x3), (dI x4), (dI x5), D.nil, (dI x7), (dI x8), (dI x9), (dI x10)]), (D.agg [(D.val (Value.string (s11))), (Dw n12 1 l12)])] [(dI n14)]) ∧
 (bcase (n14 != 0)
 (k kT)
 (∃ s5 : ByteArray,
 ((∃ n15 : Int,
 ((Says C 17 [(D.val (Value.string (s1)))] [(D.agg [(D.val (Value.string (s5))), D.nil]), (dI n15)]) ∧
 (bcase (n15 == 0)
 (bcase (dL n12 1 l12)
 (((Says C 18 [(D.agg [(D.val (Value.string (s5))), D.nil]), (D.agg [(D.val (Value.string (s11))), (Dw n12 1 l12)])] kT) ∧
 (k kT)) ∨
 ((Says C 18 [(D.agg [(D.val (Value.string (s5))), D.nil]), (D.agg [(D.val (Value.string (s11))), (Dw n12 1 l12)])] kF) ∧
 (k kF)))
 False)
 (k kF)))) ∨
 (∃ n15 : Nat,
 (∃ cs1 : List Go.Value,
 (∃ n16 : Int,
 ((Says C 17 [(D.val (Value.string (s1)))] [(D.agg [(D.val (Value.string (s5))), (D.sl (n15) 1 (cs1))]), (dI n16)]) ∧
 (bcase (n16 == 0)
 (bcase (dL n15 1 cs1)
 (bcase (dL n12 1 l12)
 (((Says C 18 [(D.agg [(D.val (Value.string (s5))), (Dw n15 1 cs1)]), (D.agg [(D.val (Value.string (s11))), (Dw n12 1 l12)])] kT) ∧
 (k kT)) ∨
 ((Says C 18 [(D.agg [(D.val (Value.string (s5))), (Dw n15 1 cs1)]), (D.agg [(D.val (Value.string (s11))), (Dw n12 1 l12)])] kF) ∧
 (k kF)))
 False)
 False)
 (k kF)))))))))))
 False)) ∨
 ((Says C 15 [(D.agg [(dI n2), (dI n3), (dI n4), (dI n5), (dI n6), (dI n7), D.nil, (dI n8), (dI n9), (dI n10), (dI n11)]), (D.agg [(dI x0), (dI x1), (dI x2), (dI x3), (dI x4), (dI x5), D.nil, (dI x7), (dI x8), (dI x9), (dI x10)])] kF) ∧
 (k kF)))))))))) ∨
 (∃ n8 : Nat,
 (∃ cs1 : List Go.Value,
 (∃ n9 : Int,
 (∃ n10 : Int,
 (∃ n11 : Int,
 (∃ n13 : Int,
 (∃ n14 : Int,
 ((Says C 14 [(D.val (Value.string (s2)))] [(D.agg [(dI n2), (dI n3), (dI n4), (dI n5), (dI n6), (dI n7), (D.sl (n8) 5 (cs1)), (dI n9), (dI n10), (dI n11), (dI n13)]), (dI n14)]) ∧
 (bcase (n14 != 0)
 (k kF)
 (bcase (dL n8 5 cs1)
 (((Says C 15 [(D.agg [(dI n2), (dI n3), (dI n4), (dI n5), (dI n6), (dI n7), (Dw n8 5 cs1), (dI n9), (dI n10), (dI n11), (dI n13)]), (D.agg [(dI x0), (dI x1), (dI x2), (dI x3), (dI x4), (dI x5), D.nil, (dI x7), (dI x8), (dI x9), (dI x10)])] kT) ∧
 (bcase (dL n12 1 l12)
 (∃ n15 : Int,
 ((Says C 16 [(D.agg [(dI x0), (dI x1), (dI x2), (dI x3), (dI x4), (dI x5), D.nil, (dI x7), (dI x8), (dI x9), (dI x10)]), (D.agg [(D.val (Value.string (s11))), (Dw n12 1 l12)])] [(dI n15)]) ∧
 (bcase (n15 != 0)
 (k kT)
 (∃ s5 : ByteArray,
 ((∃ n16 : Int,
 ((Says C 17 [(D.val (Value.string (s1)))] [(D.agg [(D.val (Value.string (s5))), D.nil]), (dI n16)]) ∧
 (bcase (n16 == 0)
 (bcase (dL n12 1 l12)
 (((Says C 18 [(D.agg [(D.val (Value.string (s5))), D.nil]), (D.agg [(D.val (Value.string (s11))), (Dw n12 1 l12)])] kT) ∧
 (k kT)) ∨
 ((Says C 18 [(D.agg [(D.val (Value.string (s5))), D.nil]), (D.agg [(D.val (Value.string (s11))), (Dw n12 1 l12)])] kF) ∧
 (k kF)))
 False)
 (k kF)))) ∨
 (∃ n16 : Nat,
 (∃ cs2 : List Go.Value,
 (∃ n17 : Int,
 ((Says C 17 [(D.val (Value.string (s1)))] [(D.agg [(D.val (Value.string (s5))), (D.sl (n16) 1 (cs2))]), (dI n17)]) ∧
 (bcase (n17 == 0)
 (bcase (dL n16 1 cs2)
 (bcase (dL n12 1 l12)
 (((Says C 18 [(D.agg [(D.val (Value.string (s5))), (Dw n16 1 cs2)]), (D.agg [(D.val (Value.string (s11))), (Dw n12 1 l12)])] kT) ∧
 (k kT)) ∨
 ((Says C 18 [(D.agg [(D.val (Value.string (s5))), (Dw n16 1 cs2)]), (D.agg [(D.val (Value.string (s11))), (Dw n12 1 l12)])] kF) ∧
 (k kF)))
 False)
 False)
 (k kF)))))))))))
 False)) ∨
 ((Says C 15 [(D.agg [(dI n2), (dI n3), (dI n4), (dI n5), (dI n6), (dI n7), (Dw n8 5 cs1), (dI n9), (dI n10), (dI n11), (dI n13)]), (D.agg [(dI x0), (dI x1), (dI x2), (dI x3), (dI x4), (dI x5), D.nil, (dI x7), (dI x8), (dI x9), (dI x10)])] kF) ∧
 (k kF)))
 False))))))))))))))))))))))))))
 False)))))))))))
 False)))
 False))
 (k kT))
 (k kT))) ∨
 ((Says C 5 [] kF) ∧
 (k kF))) := by kernel_rfl
def gLSnn (C : Ct) (L : AtLoop) (x0 : Int) (x1 : Int) (x2 : Int) (x3 : Int) (x4 : Int) (x5 : Int) (x7 : Int) (x8 : Int) (x9 : Int) (x10 : Int) (s11 : ByteArray) (k : List D → Prop) : Prop := wpFn Tryz.prog (hX C) L 0 3 #[.agg #[.int .i64 x0, .int .i64 x1, .int .i64 x2, .int .i64 x3, .int .i64 x4, .int .i64 x5, .slice none 0 0, .int .i64 x7, .int .i64 x8, .int .i64 x9, .int .i64 x10], .agg #[.string s11, .slice none 0 0]] (heapOf []) (dataK k)
theorem gLSnn_text (C : Ct) (L : AtLoop) (x0 : Int) (x1 : Int) (x2 : Int) (x3 : Int) (x4 : Int) (x5 : Int) (x7 : Int) (x8 : Int) (x9 : Int) (x10 : Int) (s11 : ByteArray) (k : List D → Prop) : gLSnn C L x0 x1 x2 x3 x4 x5 x7 x8 x9 x10 s11 k =
 (((Says C 5 [] kT) ∧
 (bcase (decide ((↑(ByteArray.size s11) : Int) ≤ 30))
 (((Qv (Value.agg [(vI x0), (vI x1), (vI x2), (vI x3), (vI x4), (vI x5), (Value.slice none 0 0), (vI x7), (vI x8), (vI x9), (vI x10)].toArray)) ∧
 ((Qv (Value.agg [(Value.string (s11)), (Value.slice none 0 0)].toArray)) ∧
 True)) ∧
 ((Says C 8 [(D.agg [(D.val (Value.string (s11))), D.nil])] [(D.agg [(D.val (Value.string (s11))), (D.sl 0 1 [])])]) ∧
 (((Qv (Value.agg [(vI x0), (vI x1), (vI x2), (vI x3), (vI x4), (vI x5), (Value.slice none 0 0), (vI x7), (vI x8), (vI x9), (vI x10)].toArray)) ∧
 True) ∧
 (∃ s1 : ByteArray,
 ((Says C 7 [(D.agg [(D.val (Value.string (s11))), (D.sl 0 1 [])])] [(D.val (Value.string (s1)))]) ∧
 (((Qv (Value.agg [(vI x0), (vI x1), (vI x2), (vI x3), (vI x4), (vI x5), (Value.slice none 0 0), (vI x7), (vI x8), (vI x9), (vI x10)].toArray)) ∧
 True) ∧
 ((Says C 10 [(D.agg [(dI x0), (dI x1), (dI x2), (dI x3), (dI x4), (dI x5), D.nil, (dI x7), (dI x8), (dI x9), (dI x10)])] [(D.agg [(dI x0), (dI x1), (dI x2), (dI x3), (dI x4), (dI x5), (D.sl 0 5 []), (dI x7), (dI x8), (dI x9), (dI x10)])]) ∧
 (True ∧
 (∃ s2 : ByteArray,
 ((Says C 9 [(D.agg [(dI x0), (dI x1), (dI x2), (dI x3), (dI x4), (dI x5), (D.sl 0 5 []), (dI x7), (dI x8), (dI x9), (dI x10)])] [(D.val (Value.string (s2)))]) ∧
 (True ∧
 (True ∧
 (True ∧
 (∃ s3 : ByteArray,
 ((Says C 11 [(D.agg [(D.val (Value.string (s11))), D.nil])] [(D.val (Value.string (s3)))]) ∧
 (bcase (!ByteArray.toList s1 == ByteArray.toList s3)
 (k kF)
 (∃ s4 : ByteArray,
 ((Says C 12 [(D.agg [(dI x0), (dI x1), (dI x2), (dI x3), (dI x4), (dI x5), D.nil, (dI x7), (dI x8), (dI x9), (dI x10)])] [(D.val (Value.string (s4)))]) ∧
 (bcase (!ByteArray.toList s2 == ByteArray.toList s4)
 (k kF)
 (∃ n1 : Int,
 ((Says C 13 [(D.agg [(dI x0), (dI x1), (dI x2), (dI x3), (dI x4), (dI x5), D.nil, (dI x7), (dI x8), (dI x9), (dI x10)])] [(dI n1)]) ∧
 (bcase (n1 != 0)
 (k kT)
 (∃ n2 : Int,
 (∃ n3 : Int,
 (∃ n4 : Int,
 (∃ n5 : Int,
 (∃ n6 : Int,
 (∃ n7 : Int,
 ((∃ n8 : Int,
 (∃ n9 : Int,
 (∃ n10 : Int,
 (∃ n11 : Int,
 (∃ n12 : Int,
 ((Says C 14 [(D.val (Value.string (s2)))] [(D.agg [(dI n2), (dI n3), (dI n4), (dI n5), (dI n6), (dI n7), D.nil, (dI n8), (dI n9), (dI n10), (dI n11)]), (dI n12)]) ∧
 (bcase (n12 != 0)
 (k kF)
 (((Says C 15 [(D.agg [(dI n2), (dI n3), (dI n4), (dI n5), (dI n6), (dI n7), D.nil, (dI n8), (dI n9), (dI n10), (dI n11)]), (D.agg [(dI x0), (dI x1), (dI x2), (dI x3), (dI x4), (dI x5), D.nil, (dI x7), (dI x8), (dI x9), (dI x10)])] kT) ∧
 (∃ n13 : Int,
 ((Says C 16 [(D.agg [(dI x0), (dI x1), (dI x2), (dI x3), (dI x4), (dI x5), D.nil, (dI x7), (dI x8), (dI x9), (dI x10)]), (D.agg [(D.val (Value.string (s11))), D.nil])] [(dI n13)]) ∧
 (bcase (n13 != 0)
 (k kT)
 (∃ s5 : ByteArray,
 ((∃ n14 : Int,
 ((Says C 17 [(D.val (Value.string (s1)))] [(D.agg [(D.val (Value.string (s5))), D.nil]), (dI n14)]) ∧
 (bcase (n14 == 0)
 (((Says C 18 [(D.agg [(D.val (Value.string (s5))), D.nil]), (D.agg [(D.val (Value.string (s11))), D.nil])] kT) ∧
 (k kT)) ∨
 ((Says C 18 [(D.agg [(D.val (Value.string (s5))), D.nil]), (D.agg [(D.val (Value.string (s11))), D.nil])] kF) ∧
 (k kF)))
 (k kF)))) ∨
 (∃ n14 : Nat,
 (∃ cs1 : List Go.Value,
 (∃ n15 : Int,
 ((Says C 17 [(D.val (Value.string (s1)))] [(D.agg [(D.val (Value.string (s5))), (D.sl (n14) 1 (cs1))]), (dI n15)]) ∧
 (bcase (n15 == 0)
 (bcase (dL n14 1 cs1)
 (((Says C 18 [(D.agg [(D.val (Value.string (s5))), (Dw n14 1 cs1)]), (D.agg [(D.val (Value.string (s11))), D.nil])] kT) ∧
 (k kT)) ∨
 ((Says C 18 [(D.agg [(D.val (Value.string (s5))), (Dw n14 1 cs1)]), (D.agg [(D.val (Value.string (s11))), D.nil])] kF) ∧
 (k kF)))
 False)
 (k kF)))))))))))) ∨
 ((Says C 15 [(D.agg [(dI n2), (dI n3), (dI n4), (dI n5), (dI n6), (dI n7), D.nil, (dI n8), (dI n9), (dI n10), (dI n11)]), (D.agg [(dI x0), (dI x1), (dI x2), (dI x3), (dI x4), (dI x5), D.nil, (dI x7), (dI x8), (dI x9), (dI x10)])] kF) ∧
 (k kF)))))))))) ∨
 (∃ n8 : Nat,
 (∃ cs1 : List Go.Value,
 (∃ n9 : Int,
 (∃ n10 : Int,
 (∃ n11 : Int,
 (∃ n12 : Int,
 (∃ n13 : Int,
 ((Says C 14 [(D.val (Value.string (s2)))] [(D.agg [(dI n2), (dI n3), (dI n4), (dI n5), (dI n6), (dI n7), (D.sl (n8) 5 (cs1)), (dI n9), (dI n10), (dI n11), (dI n12)]), (dI n13)]) ∧
 (bcase (n13 != 0)
 (k kF)
 (bcase (dL n8 5 cs1)
 (((Says C 15 [(D.agg [(dI n2), (dI n3), (dI n4), (dI n5), (dI n6), (dI n7), (Dw n8 5 cs1), (dI n9), (dI n10), (dI n11), (dI n12)]), (D.agg [(dI x0), (dI x1), (dI x2), (dI x3), (dI x4), (dI x5), D.nil, (dI x7), (dI x8), (dI x9), (dI x10)])] kT) ∧
 (∃ n14 : Int,
 ((Says C 16 [(D.agg [(dI x0), (dI x1), (dI x2), (dI x3), (dI x4), (dI x5), D.nil, (dI x7), (dI x8), (dI x9), (dI x10)]), (D.agg [(D.val (Value.string (s11))), D.nil])] [(dI n14)]) ∧
 (bcase (n14 != 0)
 (k kT)
 (∃ s5 : ByteArray,
 ((∃ n15 : Int,
 ((Says C 17 [(D.val (Value.string (s1)))] [(D.agg [(D.val (Value.string (s5))), D.nil]), (dI n15)]) ∧
 (bcase (n15 == 0)
 (((Says C 18 [(D.agg [(D.val (Value.string (s5))), D.nil]), (D.agg [(D.val (Value.string (s11))), D.nil])] kT) ∧
 (k kT)) ∨
 ((Says C 18 [(D.agg [(D.val (Value.string (s5))), D.nil]), (D.agg [(D.val (Value.string (s11))), D.nil])] kF) ∧
 (k kF)))
 (k kF)))) ∨
 (∃ n15 : Nat,
 (∃ cs2 : List Go.Value,
 (∃ n16 : Int,
 ((Says C 17 [(D.val (Value.string (s1)))] [(D.agg [(D.val (Value.string (s5))), (D.sl (n15) 1 (cs2))]), (dI n16)]) ∧
 (bcase (n16 == 0)
 (bcase (dL n15 1 cs2)
 (((Says C 18 [(D.agg [(D.val (Value.string (s5))), (Dw n15 1 cs2)]), (D.agg [(D.val (Value.string (s11))), D.nil])] kT) ∧
 (k kT)) ∨
 ((Says C 18 [(D.agg [(D.val (Value.string (s5))), (Dw n15 1 cs2)]), (D.agg [(D.val (Value.string (s11))), D.nil])] kF) ∧
 (k kF)))
 False)
 (k kF)))))))))))) ∨
 ((Says C 15 [(D.agg [(dI n2), (dI n3), (dI n4), (dI n5), (dI n6), (dI n7), (Dw n8 5 cs1), (dI n9), (dI n10), (dI n11), (dI n12)]), (D.agg [(dI x0), (dI x1), (dI x2), (dI x3), (dI x4), (dI x5), D.nil, (dI x7), (dI x8), (dI x9), (dI x10)])] kF) ∧
 (k kF)))
 False)))))))))))))))))))))))))))))))))))))))
 (k kT))) ∨
 ((Says C 5 [] kF) ∧
 (k kF))) := by kernel_rfl
end Go.Proofs.G5x

/- Chapter 3: what the reference gives back, in data. -/
namespace Go.Proofs.G5x
open Go Go.Abs Go.Proofs Go.Str
set_option maxRecDepth 100000
abbrev scN (nm : List UInt8) : D := .agg [dS nm, .nil]
theorem conRSn (r : Ru) (nm : List UInt8) (h0 : 0 < r.ss.length) (hlen : r.ss.length < 1000000000) : C5 43 [r.d, scN nm] [dI (schE r nm []).1, dI (schE r nm []).2] := by
  refine con_of (L := fun _ s b => False) hokP mixed Tryz.func43 rfl (by show 1 ≤ 400; omega) rfl (ids := [0]) (by kernel_rfl) rfl (fun caps => ?_) (fun id hid => ?_)
  · show gRSn _ _ r.w r.st r.fi r.hlo r.hhi r.co r.ss.length (caps 500) (vs5 r.ss) r.slo r.shi r.flo r.fhi (bs nm) _
    rw [gRSn_text]
    refine sayOr (conIN nm) (fun hn => bc_bne (fun h2 => ?_) (fun h2 => absurd h2 (by omega))) (fun hn => ?_)
    · show [dI 0, dI 10] = _
      rw [schE, if_pos hn, if_neg (by simp; omega)]
    · show [dI 0, dI 4] = _
      rw [schE, if_neg (by rw [hn]; simp)]
  · obtain rfl := List.mem_singleton.1 hid
    exact ⟨Unit, fun _ => ([], []), fun _ => False, fun _ => 0, ⟨fun s b h => h.elim, by kernel_rfl, fun _ h => h.elim⟩⟩
/-- the thickness before a stand -/
def bfr (b : Int) (th : List Int) : Nat → Int
  | 0 => b
  | i + 1 => th.getD i 0
/-- thicknesses descend -/
def Desc : Int → List Int → Prop
  | _, [] => True
  | b, h :: l => (1 ≤ h ∧ h ≤ 1000) ∧ h ≤ b ∧ Desc h l
theorem desc_at : ∀ {l : List Int} {b : Int} (i : Nat) (hi : i < l.length), Desc b l → 1 ≤ b ∧ b ≤ 1000 → (1 ≤ l[i] ∧ l[i] ≤ 1000) ∧ l[i] ≤ bfr b l i ∧ 1 ≤ bfr b l i ∧ bfr b l i ≤ 1000
  | h :: l, b, 0, _, d, hb => ⟨d.1, d.2.1, hb⟩
  | h :: l, b, i + 1, hi, d, hb => by
    have hi' : i < l.length := by simpa using hi
    have := desc_at i hi' d.2.2 d.1
    have e : bfr b (h :: l) (i + 1) = bfr h l i := by cases i <;> simp [bfr]
    rw [e]; exact this
structure VS (r : Ru) (th : List Int) : Prop where
  rng : rngB r
  ord : ordB r
  n0 : 0 < r.ss.length
  n6 : r.ss.length ≤ 6
  len : th.length = r.ss.length
  desc : Desc r.st th
theorem VS.at {r : Ru} {th : List Int} (v : VS r th) {i : Nat} (hi : i < th.length) : (1 ≤ th[i] ∧ th[i] ≤ 1000) ∧ th[i] ≤ bfr r.st th i ∧ 1 ≤ bfr r.st th i ∧ bfr r.st th i ≤ 1000 := desc_at i hi v.desc v.rng.2.1.1
end Go.Proofs.G5x

/- Chapter 3: loads and margins of a draught, in data. -/
namespace Go.Proofs.G5x
open Go Go.Abs Go.Proofs Go.Str
set_option maxRecDepth 100000
/-- a draught of valid rules -/
structure DrOK (r : Ru) (k : Nat) (b h : Int) : Prop where
  rng : rngB r
  sts : ∀ s ∈ r.ss, stB s
  k : k < r.ss.length
  n : r.ss.length ≤ 6
  h1 : 1 ≤ h
  hb : h ≤ b
  b1 : b ≤ 1000
abbrev drD (k : Nat) (b h : Int) : D := .agg [dI k, dI b, dI h]
theorem mulB {a b : Int} (A B : Int) (ha : 0 ≤ a ∧ a ≤ A) (hb : 0 ≤ b ∧ b ≤ B) : 0 ≤ a * b ∧ a * b ≤ A * B :=
  ⟨Int.mul_nonneg ha.1 hb.1, Int.mul_le_mul ha.2 hb.2 hb.1 (by omega)⟩
theorem mulS {a b : Int} (A B : Int) (ha : -A ≤ a ∧ a ≤ A) (hb : 0 ≤ b ∧ b ≤ B) : -(A * B) ≤ a * b ∧ a * b ≤ A * B := by
  have hA : 0 ≤ A := by omega
  by_cases h : 0 ≤ a
  · have := mulB A B ⟨h, ha.2⟩ hb; have h2 : 0 ≤ A * B := Int.mul_nonneg hA (by omega); omega
  · have := mulB (a := -a) (b := b) A B ⟨by omega, by omega⟩ hb
    have h2 : 0 ≤ A * B := Int.mul_nonneg hA (by omega)
    rw [Int.neg_mul] at this; omega
def frc (w b h s f : Int) : Int := if b = h then 0 else w * (s * (b - h) + f * (b + h))
theorem frc_bd {w b h s f : Int} (hw : 1 ≤ w ∧ w ≤ 2500) (h1 : 1 ≤ h) (hb : h ≤ b) (b1 : b ≤ 1000) (hs : 0 ≤ s ∧ s ≤ 100) (hf : 0 ≤ f ∧ f ≤ 100) : (0 ≤ s * (b - h) ∧ s * (b - h) ≤ 100000) ∧ (0 ≤ f * (b + h) ∧ f * (b + h) ≤ 200000) ∧ (0 ≤ w * (s * (b - h) + f * (b + h)) ∧ w * (s * (b - h) + f * (b + h)) ≤ 750000000) ∧ 0 ≤ frc w b h s f ∧ frc w b h s f ≤ 750000000 := by
  have e1 := mulB (a := s) (b := b - h) 100 1000 hs (by omega)
  have e2 := mulB (a := f) (b := b + h) 100 2000 hf (by omega)
  have e3 := mulB (a := w) (b := s * (b - h) + f * (b + h)) 2500 300000 (by omega) (by omega)
  refine ⟨by omega, by omega, by omega, ?_⟩
  unfold frc; split <;> omega
theorem confB (r : Ru) (k : Nat) (b h s f : Int) (v : DrOK r k b h) (hs : 0 ≤ s ∧ s ≤ 100) (hf : 0 ≤ f ∧ f ≤ 100) : C5 127 [r.d, drD k b h, dI s, dI f] [dI (frc r.w b h s f)] := by
  refine con_flat hokP mixed Tryz.func127 rfl (by show 1 ≤ 400; omega) rfl (by kernel_rfl) (fun caps => ?_)
  show gfB _ _ r.w r.st r.fi r.hlo r.hhi r.co r.ss.length (caps 500) (vs5 r.ss) r.slo r.shi r.flo r.fhi (k : Int) b h s f _
  rw [gfB_text]
  have hw := v.rng.1
  have h1 := v.h1
  have h2 := v.hb
  have h3 := v.b1
  have e := frc_bd hw h1 h2 h3 hs hf
  refine bc_beq (fun g => ?_) (fun g => ?_)
  · show [dI 0] = _; rw [frc, if_pos g]
  · rw [w64 (z := b - h) (by omega) (by omega), w64 (z := s * (b - h)) (by omega) (by omega), w64 (z := b + h) (by omega) (by omega), w64 (z := f * (b + h)) (by omega) (by omega), w64 (z := s * (b - h) + f * (b + h)) (by omega) (by omega), w64 (by omega) (by omega)]
    simp only [Qv, true_and]
    rw [frc, if_neg g]
theorem DrOK.sl {r : Ru} {k : Nat} {b h : Int} (v : DrOK r k b h) : (0 ≤ r.slo ∧ r.slo ≤ 100) ∧ (0 ≤ r.shi ∧ r.shi ≤ 100) ∧ (0 ≤ r.flo ∧ r.flo ≤ 100) ∧ (0 ≤ r.fhi ∧ r.fhi ≤ 100) := by
  have := v.rng
  unfold rngB at this
  omega
abbrev fl (r : Ru) (b h : Int) : Int := frc r.w b h r.slo r.flo
abbrev fh (r : Ru) (b h : Int) : Int := frc r.w b h r.shi r.fhi
theorem DrOK.fl {r : Ru} {k : Nat} {b h : Int} (v : DrOK r k b h) : 0 ≤ fl r b h ∧ fl r b h ≤ 750000000 := (frc_bd v.rng.1 v.h1 v.hb v.b1 v.sl.1 v.sl.2.2.1).2.2.2
theorem DrOK.fh {r : Ru} {k : Nat} {b h : Int} (v : DrOK r k b h) : 0 ≤ fh r b h ∧ fh r b h ≤ 750000000 := (frc_bd v.rng.1 v.h1 v.hb v.b1 v.sl.2.1 v.sl.2.2.2).2.2.2
theorem confo (r : Ru) (k : Nat) (b h : Int) (v : DrOK r k b h) : C5 109 [r.d, drD k b h] [.agg [dI (fl r b h), dI (fh r b h)]] := by
  refine con_flat hokP mixed Tryz.func109 rfl (by show 1 ≤ 400; omega) rfl (by kernel_rfl) (fun caps => ?_)
  show gfo _ _ r.w r.st r.fi r.hlo r.hhi r.co r.ss.length (caps 500) (vs5 r.ss) r.slo r.shi r.flo r.fhi (k : Int) b h _
  rw [gfo_text]
  simp only [bc_t (v5le r.ss), v5_whole, Qv, true_and]
  exact ⟨_, ⟨confB r k b h r.slo r.flo v v.sl.1 v.sl.2.2.1⟩, _, ⟨confB r k b h r.shi r.fhi v v.sl.2.1 v.sl.2.2.2⟩, rfl⟩
theorem conto (r : Ru) (k : Nat) (b h : Int) (v : DrOK r k b h) : C5 91 [r.d, drD k b h] [.agg [dI (fl r b h * (b - h)), dI (fh r b h * (b - h))]] := by
  refine con_flat hokP mixed Tryz.func91 rfl (by show 1 ≤ 400; omega) rfl (by kernel_rfl) (fun caps => ?_)
  show gto _ _ r.w r.st r.fi r.hlo r.hhi r.co r.ss.length (caps 500) (vs5 r.ss) r.slo r.shi r.flo r.fhi (k : Int) b h _
  rw [gto_text, bc_t (v5le r.ss), v5_whole]
  have h1 := v.h1
  have h2 := v.hb
  have h3 := v.b1
  have e1 := mulB 750000000 1000 v.fl (show 0 ≤ b - h ∧ b - h ≤ 1000 by omega)
  have e2 := mulB 750000000 1000 v.fh (show 0 ≤ b - h ∧ b - h ≤ 1000 by omega)
  refine ⟨_, _, ⟨confo r k b h v⟩, ?_⟩
  rw [w64 (z := b - h) (by omega) (by omega), w64 (by omega) (by omega), w64 (by omega) (by omega)]
  simp only [Qv, true_and]
theorem conmT (l x y : Int) (hl : 0 ≤ l ∧ l ≤ 1000000000000) (hx : 0 ≤ x ∧ x ≤ 750000000000) (hy : 0 ≤ y ∧ y ≤ 750000000000) : C5 108 [dI l, .agg [dI x, dI y]] [.agg [dI (100 * (l - y)), dI (100 * (l - x))]] := by
  refine con_flat hokP mixed Tryz.func108 rfl (by show 0 ≤ 400; omega) rfl (by kernel_rfl) (fun caps => ?_)
  show gmT _ _ l x y _
  rw [gmT_text, w64 (z := l - y) (by omega) (by omega), w64 (z := l - x) (by omega) (by omega), w64 (by omega) (by omega), w64 (by omega) (by omega)]
def stA (r : Ru) (k : Nat) : Fv := r.ss.getD k ⟨0, 0, 0, 0, 0⟩
theorem stA_at {r : Ru} {k : Nat} (hk : k < r.ss.length) : stA r k = r.ss[k] := by simp [stA, List.getD, List.getElem?_eq_getElem hk]
def bit (r : Ru) (k : Nat) (b h f : Int) : Int := if b = h then 0 else f * (stA r k).a - 100 * (b - h)
theorem conbi (r : Ru) (k : Nat) (b h : Int) (v : DrOK r k b h) : C5 110 [r.d, drD k b h] [.agg [dI (bit r k b h r.flo), dI (bit r k b h r.fhi)]] := by
  refine con_flat hokP mixed Tryz.func110 rfl (by show 1 ≤ 400; omega) rfl (by kernel_rfl) (fun caps => ?_)
  show gbi _ _ r.w r.st r.fi r.hlo r.hhi r.co r.ss.length (caps 500) (vs5 r.ss) r.slo r.shi r.flo r.fhi (k : Int) b h _
  rw [gbi_text]
  simp only [Qv, eq_self, true_and, and_true]
  refine bc_beq (fun g => ?_) (fun g => ?_)
  · show [D.agg [dI 0, dI 0]] = _; rw [bit, bit, if_pos g, if_pos g]
  · have hk := v.k
    have h1 := v.h1
    have h2 := v.hb
    have h3 := v.b1
    have a1 := vs5_one r.ss k hk 0 (.int .i64 (r.ss[k]).a) rfl
    have hs := (v.sts _ (List.getElem_mem hk)).1
    simp only [Nat.add_zero] at a1
    simp only [bc_t (show (0 : Int) ≤ (k : Int) by omega), bc_t (show (k : Int) < (r.ss.length : Int) by omega), Int.toNat_natCast, at1 a1, eq_self, true_and, and_true, Int.one_mul]
    have e1 := mulB 100 1000 v.sl.2.2.1 (show 0 ≤ r.ss[k].a ∧ r.ss[k].a ≤ 1000 by omega)
    have e2 := mulB 100 1000 v.sl.2.2.2 (show 0 ≤ r.ss[k].a ∧ r.ss[k].a ≤ 1000 by omega)
    have b1 := v.sl.2.2
    rw [w64 (z := b - h) (by omega) (by omega), w64 (z := 100 * (b - h)) (by omega) (by omega), w64 (z := r.flo) (by omega) (by omega), w64 (z := r.fhi) (by omega) (by omega), w64 (z := r.flo * r.ss[k].a) (by omega) (by omega), w64 (z := r.fhi * r.ss[k].a) (by omega) (by omega), w64 (by omega) (by omega), w64 (by omega) (by omega)]
    rw [bit, bit, if_neg g, if_neg g, stA_at hk]
/-- the losses of some stands -/
def sumD : List Fv → Int
  | [] => 0
  | s :: r => s.d + sumD r
def sumE : List Fv → Int
  | [] => 0
  | s :: r => s.e + sumE r
theorem sumD_app (s : Fv) : ∀ l : List Fv, sumD (l ++ [s]) = sumD l + s.d
  | [] => by simp [sumD]
  | p :: r => by simp only [List.cons_append, sumD, sumD_app s r]; omega
theorem sumE_app (s : Fv) : ∀ l : List Fv, sumE (l ++ [s]) = sumE l + s.e
  | [] => by simp [sumE]
  | p :: r => by simp only [List.cons_append, sumE, sumE_app s r]; omega
theorem sumD_snoc {l : List Fv} {i : Nat} (h : i < l.length) : sumD (l.take (i + 1)) = sumD (l.take i) + l[i].d := by
  rw [List.take_succ_eq_append_getElem h, sumD_app]
theorem sumE_snoc {l : List Fv} {i : Nat} (h : i < l.length) : sumE (l.take (i + 1)) = sumE (l.take i) + l[i].e := by
  rw [List.take_succ_eq_append_getElem h, sumE_app]
theorem sum_bd {l : List Fv} (hs : ∀ s ∈ l, stB s) : ∀ i : Nat, i ≤ l.length → (0 ≤ sumD (l.take i) ∧ sumD (l.take i) ≤ 1000 * (i : Int)) ∧ 0 ≤ sumE (l.take i) ∧ sumE (l.take i) ≤ 1000 * (i : Int)
  | 0, _ => by simp [sumD, sumE]
  | i + 1, hi => by
    have := sum_bd hs i (by omega)
    have h2 := (hs _ (List.getElem_mem (show i < l.length by omega))).2.2
    rw [sumD_snoc (by omega), sumE_snoc (by omega)]
    omega
def hL (r : Ru) (k : Nat) (h : Int) : Int := 100 * (r.hlo - sumE (r.ss.take (k + 1))) + (r.st - h) * r.slo
def hH (r : Ru) (k : Nat) (h : Int) : Int := 100 * (r.hhi - sumD (r.ss.take (k + 1))) + (r.st - h) * r.shi
theorem DrOK.ht {r : Ru} {k : Nat} {b h : Int} (v : DrOK r k b h) : (-1000000000 ≤ hL r k h ∧ hL r k h ≤ 1000000000) ∧ -1000000000 ≤ hH r k h ∧ hH r k h ≤ 1000000000 := by
  have h1 := v.h1
  have h2 := v.hb
  have h3 := v.b1
  have hk := v.k
  have hn := v.n
  have hs := sum_bd v.sts (k + 1) (by omega)
  have hr := v.rng
  unfold rngB at hr
  have e1 := mulS (a := r.st - h) (b := r.slo) 1000 100 (by omega) (by omega)
  have e2 := mulS (a := r.st - h) (b := r.shi) 1000 100 (by omega) (by omega)
  unfold hL hH
  omega
theorem conhe (r : Ru) (k : Nat) (b h : Int) (v : DrOK r k b h) : C5 71 [r.d, drD k b h] [.agg [dI (hL r k h), dI (hH r k h)]] := by
  have hk := v.k
  have hn := v.n
  let inv : Nat × Nat × Nat → Prop := fun x => x.1 ≤ k + 1
  let st : Nat × Nat × Nat → Slots × Blocks := fun x => zhe1 (k + 1) x.2.1 ((k + 1 : Nat) : Int) x.1 r.w r.st r.fi r.hlo r.hhi r.co r.ss.length x.2.2 r.slo r.shi r.flo r.fhi (k : Int) b h 0 0 (sumD (r.ss.take x.1)) (sumE (r.ss.take x.1)) (vs5 r.ss)
  refine con_ofC (L := fun _ s b => ∃ x, inv x ∧ st x = (s, b)) hokP mixed Tryz.func71 rfl (by show 1 ≤ 400; omega) rfl (ids := [0]) (by kernel_rfl) rfl (fun caps hcap => ?_) (fun id hid => ?_)
  · show ghe _ _ r.w r.st r.fi r.hlo r.hhi r.co r.ss.length (caps 500) (vs5 r.ss) r.slo r.shi r.flo r.fhi (k : Int) b h _
    rw [ghe_text]
    have hc : r.ss.length ≤ caps 500 := by simp [capsL, layVals, layCells] at hcap; exact hcap
    rw [w64 (z := (k : Int) + 1) (by omega) (by omega), bc_t (show (0 : Int) ≤ (k : Int) + 1 by omega), bc_t (show (k : Int) + 1 ≤ (caps 500 : Int) by omega), show ((k : Int) + 1).toNat - 0 = k + 1 by omega]
    exact ⟨(0, caps 500 - 0, caps 500), Nat.zero_le _, rfl⟩
  · obtain rfl := List.mem_singleton.1 hid
    refine ⟨Nat × Nat × Nat, st, inv, fun x => k + 1 - x.1, ⟨fun s b h => h, by kernel_rfl, ?_⟩⟩
    rintro ⟨i, c1, c2⟩ hi
    have hi : i ≤ k + 1 := hi
    show rhe1 _ _ (k + 1) c1 ((k + 1 : Nat) : Int) i r.w r.st r.fi r.hlo r.hhi r.co r.ss.length c2 r.slo r.shi r.flo r.fhi (k : Int) b h 0 0 (sumD (r.ss.take i)) (sumE (r.ss.take i)) (vs5 r.ss) _ _ _
    rw [rhe1_text]
    refine bc_dec (fun g => ?_) (fun g => ?_)
    · have hi2 : i < r.ss.length := by omega
      simp only [bc_t (show (0 : Int) ≤ (i : Int) by omega), bc_t g, Int.toNat_natCast, at5 (vs5_all r.ss i hi2)]
      have hs := sum_bd v.sts (i + 1) (by omega)
      rw [sumD_snoc hi2, sumE_snoc hi2] at hs
      refine ⟨(i + 1, c1, c2), by show i + 1 ≤ k + 1; omega, by show k + 1 - (i + 1) < k + 1 - i; omega, ?_⟩
      show zhe1 _ _ _ _ _ _ _ _ _ _ _ _ _ _ _ _ _ _ _ _ _ _ _ _ = _
      rw [sumD_snoc hi2, sumE_snoc hi2, w64 (z := (i : Int) + 1) (by omega) (by omega), w64 (z := sumD _ + _) (by omega) (by omega), w64 (z := sumE _ + _) (by omega) (by omega)]; rfl
    · show (if 0 = 0 then _ else _)
      rw [if_pos rfl]
      obtain rfl : i = k + 1 := by omega
      show nhe2 _ _ r.w r.st r.fi r.hlo r.hhi r.co r.ss.length c2 r.slo r.shi r.flo r.fhi (k : Int) b h 0 0 (sumD (r.ss.take (k + 1))) (sumE (r.ss.take (k + 1))) (vs5 r.ss) _
      rw [nhe2_text]
      have h1 := v.h1
      have h2 := v.hb
      have h3 := v.b1
      have hs := sum_bd v.sts (k + 1) (by omega)
      have hr := v.rng
      unfold rngB at hr
      have e1 := mulS (a := r.st - h) (b := r.slo) 1000 100 (by omega) (by omega)
      have e2 := mulS (a := r.st - h) (b := r.shi) 1000 100 (by omega) (by omega)
      simp only [Int.one_mul]
      rw [w64 (z := r.hlo - _) (by omega) (by omega), w64 (z := r.hhi - _) (by omega) (by omega), w64 (z := 100 * (r.hlo - _)) (by omega) (by omega), w64 (z := 100 * (r.hhi - _)) (by omega) (by omega), w64 (z := r.st - h) (by omega) (by omega), w64 (z := r.st - h) (by omega) (by omega), w64 (z := (r.st - h) * r.slo) (by omega) (by omega), w64 (z := (r.st - h) * r.shi) (by omega) (by omega), w64 (by omega) (by omega), w64 (by omega) (by omega)]
      rfl
/-- the margins of a draught, by their limits -/
def mar (r : Ru) (k : Nat) (b h : Int) : List (Int × Int) := [(100 * ((stA r k).b - fh r b h), 100 * ((stA r k).b - fl r b h)), (100 * ((stA r k).c - fh r b h * (b - h)), 100 * ((stA r k).c - fl r b h * (b - h))), (bit r k b h r.flo, bit r k b h r.fhi), (hL r k h - 100 * r.co, hH r k h - 100 * r.co)]
def marD (l : List (Int × Int)) : D := .agg (l.flatMap fun p => [dI p.1, dI p.2])
theorem conma (r : Ru) (k : Nat) (b h : Int) (v : DrOK r k b h) : C5 89 [r.d, drD k b h] [marD (mar r k b h)] := by
  refine con_flat hokP mixed Tryz.func89 rfl (by show 1 ≤ 400; omega) rfl (by kernel_rfl) (fun caps => ?_)
  show gma _ _ r.w r.st r.fi r.hlo r.hhi r.co r.ss.length (caps 500) (vs5 r.ss) r.slo r.shi r.flo r.fhi (k : Int) b h _
  rw [gma_text]
  have hk := v.k
  have h1 := v.h1
  have h2 := v.hb
  have h3 := v.b1
  have hs := v.sts _ (List.getElem_mem hk)
  unfold stB at hs
  have hco := v.rng.2.2.1.2.2
  have e1 := mulB 750000000 1000 v.fl (show 0 ≤ b - h ∧ b - h ≤ 1000 by omega)
  have e2 := mulB 750000000 1000 v.fh (show 0 ≤ b - h ∧ b - h ≤ 1000 by omega)
  have hfl := v.fl
  have hfh := v.fh
  have hht := v.ht
  simp only [bc_t (show (0 : Int) ≤ (k : Int) by omega), bc_t (show (k : Int) < (r.ss.length : Int) by omega), Int.toNat_natCast, at5 (vs5_all r.ss k hk), Qv, eq_self, true_and, and_true, bc_t (v5le r.ss), v5_whole]
  refine ⟨_, _, ⟨conhe r k b h v⟩, _, _, ⟨confo r k b h v⟩, _, _, ⟨conmT _ _ _ (by omega) (by omega) (by omega)⟩, _, _, ⟨conto r k b h v⟩, _, _, ⟨conmT _ _ _ (by omega) (by omega) (by omega)⟩, _, _, ⟨conbi r k b h v⟩, ?_⟩
  rw [w64 (z := 100 * r.co) (by omega) (by omega), w64 (by omega) (by omega), w64 (by omega) (by omega)]
  simp only [marD, mar, stA_at hk, List.flatMap_cons, List.flatMap_nil, List.cons_append, List.nil_append]
end Go.Proofs.G5x

/- awake of chapter 3, for every tape: by what is known of some functions. -/
namespace Go.Proofs.G5x
open Go Go.Abs Go.Proofs Go.Str
set_option maxRecDepth 100000
def unFv : List Value → Option (List Fv)
  | [] => some []
  | .int .i64 a :: .int .i64 b :: .int .i64 c :: .int .i64 d :: .int .i64 e :: r => (unFv r).map (⟨a, b, c, d, e⟩ :: ·)
  | _ => none
theorem unFv_ok : ∀ {l : List Value} {ss : List Fv}, unFv l = some ss → l = vs5 ss := by
  intro l
  induction l using unFv.induct with
  | case1 => intro ss h; rw [unFv] at h; obtain rfl := Option.some.inj h; rfl
  | case2 a b c d e r ih =>
    intro ss h
    rw [unFv] at h
    obtain ⟨t, ht, rfl⟩ := Option.map_eq_some_iff.1 h
    rw [ih ht]; rfl
  | case3 l h1 h2 => intro ss h; rw [unFv] at h <;> first | (cases h; done) | assumption
def parR : D → Option Ru
  | .agg [.val (.int .i64 w), .val (.int .i64 st), .val (.int .i64 fi), .val (.int .i64 hlo), .val (.int .i64 hhi), .val (.int .i64 co), .sl n 5 l, .val (.int .i64 slo), .val (.int .i64 shi), .val (.int .i64 flo), .val (.int .i64 fhi)] =>
    match unFv l with
    | some ss => if ss.length = n then some ⟨w, st, fi, hlo, hhi, co, ss, slo, shi, flo, fhi⟩ else none
    | none => none
  | _ => none
theorem parR_ok {d : D} {r : Ru} (h : parR d = some r) : d = r.d := by
  unfold parR at h
  split at h
  · split at h
    · rename_i e
      split at h
      · obtain rfl := Option.some.inj h
        rename_i hn; subst hn
        rw [unFv_ok e]
      · cases h
    · cases h
  · cases h
def drB (r : Ru) (k : Int) (b h : Int) : Bool := decide (rngB r) && r.ss.all (fun s => decide (stB s)) && decide (0 ≤ k) && decide (k.toNat < r.ss.length) && decide (r.ss.length ≤ 6) && decide (1 ≤ h) && decide (h ≤ b) && decide (b ≤ 1000)
theorem drB_ok {r : Ru} {k b h : Int} (e : drB r k b h = true) : DrOK r k.toNat b h ∧ k = (k.toNat : Int) := by
  simp only [drB, Bool.and_eq_true, decide_eq_true_eq, List.all_eq_true] at e
  obtain ⟨⟨⟨⟨⟨⟨⟨h1, h2⟩, h3⟩, h4⟩, h5⟩, h6⟩, h7⟩, h8⟩ := e
  exact ⟨⟨h1, h2, h4, h5, h6, h7, h8⟩, by omega⟩
def marT (d : D) (k b h : Int) : Option (List D) :=
  match parR d with
  | some r => if drB r k b h = true then some [marD (mar r k.toNat b h)] else none
  | none => none
def torT (d : D) (k b h : Int) : Option (List D) :=
  match parR d with
  | some r => if drB r k b h = true then some [.agg [dI (fl r b h * (b - h)), dI (fh r b h * (b - h))]] else none
  | none => none
def keyD : List D → Int
  | [_, .agg [.val (.int _ k), .val (.int _ b), .val (.int _ h)], _] => k * 1000000 + b * 1000 + h
  | _ => -1
def lookK : List (List D × List D) → Int → List D → Option (List D)
  | [], _, _ => none
  | p :: r, q, ds => if keyD p.1 = q then (if dsEq p.1 ds then some p.2 else lookK r q ds) else lookK r q ds
theorem lookK_ok : ∀ {t : List (List D × List D)} {q : Int} {ds rs : List D}, lookK t q ds = some rs → (ds, rs) ∈ t
  | [], _, _, _, h => by cases h
  | p :: r, q, ds, rs, h => by
    unfold lookK at h
    split at h
    · split at h
      · rename_i e
        obtain rfl := Option.some.inj h
        rw [← dsEq_ok e]; exact List.mem_cons_self
      · exact List.mem_cons_of_mem _ (lookK_ok h)
    · exact List.mem_cons_of_mem _ (lookK_ok h)
def tabP : Tab := fun f =>
  if f = 89 then some fun ds => match ds with
    | [d, .agg [.val (.int .i64 k), .val (.int .i64 b), .val (.int .i64 h)]] => marT d k b h
    | _ => none
  else if f = 91 then some fun ds => match ds with
    | [d, .agg [.val (.int .i64 k), .val (.int .i64 b), .val (.int .i64 h)]] => torT d k b h
    | _ => none
  else if f = 42 then some fun ds => match ds with
    | [d] => (match parR d with | some r => if r.ss.length ≤ 6 then some [dI (chk r).1, dI (chk r).2] else none | none => none)
    | _ => none
  else if f = 67 then some fun ds => match ds with
    | [.val (.int .i64 n), .val (.int .i64 d)] => if -4611686018427387904 ≤ n ∧ n ≤ 4611686018427387904 ∧ 0 < d ∧ d ≤ 4611686018427387904 then some [.agg [dI (low n d).1, dI (low n d).2]] else none
    | _ => none
  else none
theorem tabP_ok : TabOK Tryz.prog tabP := by
  intro f t ht ds rs h
  unfold tabP at ht
  split at ht
  · rename_i e; subst e; obtain rfl := Option.some.inj ht
    simp only at h
    split at h
    · rename_i d k b hh
      unfold marT at h
      split at h
      · rename_i r hr
        split at h
        · rename_i hd
          obtain rfl := Option.some.inj h
          obtain ⟨hv, hk⟩ := drB_ok hd
          rw [parR_ok hr]
          have := conma r k.toNat b hh hv
          unfold drD at this
          rw [← hk] at this
          exact this
        · cases h
      · cases h
    · cases h
  · split at ht
    · rename_i e; subst e; obtain rfl := Option.some.inj ht
      simp only at h
      split at h
      · rename_i d k b hh
        unfold torT at h
        split at h
        · rename_i r hr
          split at h
          · rename_i hd
            obtain rfl := Option.some.inj h
            obtain ⟨hv, hk⟩ := drB_ok hd
            rw [parR_ok hr]
            have := conto r k.toNat b hh hv
            unfold drD at this
            rw [← hk] at this
            exact this
          · cases h
        · cases h
      · cases h
    · split at ht
      · rename_i e; subst e; obtain rfl := Option.some.inj ht
        simp only at h
        split at h
        · split at h
          · rename_i r hr
            split at h
            · obtain rfl := Option.some.inj h
              rw [parR_ok hr]
              exact conKR r (by omega)
            · cases h
          · cases h
        · cases h
      · split at ht
        · rename_i e; subst e; obtain rfl := Option.some.inj ht
          simp only at h
          split at h
          · split at h
            · rename_i hb
              obtain rfl := Option.some.inj h
              exact conlT _ _ ⟨hb.1, hb.2.1⟩ hb.2.2
            · cases h
          · cases h
        · cases ht
theorem look_all {tab : Tab} (ht : TabOK Tryz.prog tab) {f : FuncId} {lk : List (List D × List D)} (h : ∀ caps, (lk.all fun p => runOK Tryz.prog tab 1000 f p.1 p.2 caps) = true) (hc : (lk.all fun p => decide (countV p.1 ≤ 400)) = true) {ds rs : List D} (hm : (ds, rs) ∈ lk) : C5 f ds rs :=
  con_run ht mixed (by simpa using List.all_eq_true.1 hc _ hm) (fun caps => List.all_eq_true.1 (h caps) _ hm)
abbrev rulD : D := .agg [dI 10, dI 100, dI 60, dI 10000, dI 10000, dI 9000, .sl 2 5 [vI 300, vI 20000, vI 400000, vI 0, vI 100, vI 300, vI 20000, vI 400000, vI 0, vI 100], dI 2, dI 3, dI 7, dI 8]
abbrev oneD : D := .agg [dI 10, dI 100, dI 60, dI 10000, dI 10000, dI 9000, .sl 1 5 [vI 300, vI 20000, vI 400000, vI 0, vI 100], dI 2, dI 3, dI 7, dI 8]
abbrev bestD : D := .agg [.val (.string ⟨#[98, 101, 115, 116]⟩), .sl 2 1 [vI 80, vI 60]]
end Go.Proofs.G5x

/- awake of chapter 3: which draughts keep which limits. -/
namespace Go.Proofs.G5x
open Go Go.Abs Go.Proofs Go.Str
set_option maxRecDepth 100000
def lk1 : List (List D × List D) := [([rulD, drD 0 100 100, .sl 4 1 [vI 0, vI 1, vI 2, vI 3]], [dB true]),
  ([rulD, drD 0 100 90, .sl 4 1 [vI 0, vI 1, vI 2, vI 3]], [dB true]),
  ([rulD, drD 0 100 80, .sl 4 1 [vI 0, vI 1, vI 2, vI 3]], [dB true]),
  ([rulD, drD 0 100 70, .sl 4 1 [vI 0, vI 1, vI 2, vI 3]], [dB false]),
  ([rulD, drD 0 100 60, .sl 4 1 [vI 0, vI 1, vI 2, vI 3]], [dB false]),
  ([rulD, drD 0 90 90, .sl 4 1 [vI 0, vI 1, vI 2, vI 3]], [dB true]),
  ([rulD, drD 0 90 80, .sl 4 1 [vI 0, vI 1, vI 2, vI 3]], [dB true]),
  ([rulD, drD 0 90 70, .sl 4 1 [vI 0, vI 1, vI 2, vI 3]], [dB true]),
  ([rulD, drD 0 90 60, .sl 4 1 [vI 0, vI 1, vI 2, vI 3]], [dB false]),
  ([rulD, drD 0 80 80, .sl 4 1 [vI 0, vI 1, vI 2, vI 3]], [dB true]),
  ([rulD, drD 0 80 70, .sl 4 1 [vI 0, vI 1, vI 2, vI 3]], [dB true]),
  ([rulD, drD 0 80 60, .sl 4 1 [vI 0, vI 1, vI 2, vI 3]], [dB true]),
  ([rulD, drD 0 70 70, .sl 4 1 [vI 0, vI 1, vI 2, vI 3]], [dB true]),
  ([rulD, drD 0 70 60, .sl 4 1 [vI 0, vI 1, vI 2, vI 3]], [dB true]),
  ([rulD, drD 0 60 60, .sl 4 1 [vI 0, vI 1, vI 2, vI 3]], [dB true]),
  ([rulD, drD 1 100 100, .sl 4 1 [vI 0, vI 1, vI 2, vI 3]], [dB true]),
  ([rulD, drD 1 100 90, .sl 4 1 [vI 0, vI 1, vI 2, vI 3]], [dB true]),
  ([rulD, drD 1 100 80, .sl 4 1 [vI 0, vI 1, vI 2, vI 3]], [dB true]),
  ([rulD, drD 1 100 70, .sl 4 1 [vI 0, vI 1, vI 2, vI 3]], [dB false]),
  ([rulD, drD 1 100 60, .sl 4 1 [vI 0, vI 1, vI 2, vI 3]], [dB false]),
  ([rulD, drD 1 90 90, .sl 4 1 [vI 0, vI 1, vI 2, vI 3]], [dB true]),
  ([rulD, drD 1 90 80, .sl 4 1 [vI 0, vI 1, vI 2, vI 3]], [dB true]),
  ([rulD, drD 1 90 70, .sl 4 1 [vI 0, vI 1, vI 2, vI 3]], [dB true]),
  ([rulD, drD 1 90 60, .sl 4 1 [vI 0, vI 1, vI 2, vI 3]], [dB false]),
  ([rulD, drD 1 80 80, .sl 4 1 [vI 0, vI 1, vI 2, vI 3]], [dB true]),
  ([rulD, drD 1 80 70, .sl 4 1 [vI 0, vI 1, vI 2, vI 3]], [dB true]),
  ([rulD, drD 1 80 60, .sl 4 1 [vI 0, vI 1, vI 2, vI 3]], [dB true]),
  ([rulD, drD 1 70 70, .sl 4 1 [vI 0, vI 1, vI 2, vI 3]], [dB true]),
  ([rulD, drD 1 70 60, .sl 4 1 [vI 0, vI 1, vI 2, vI 3]], [dB true]),
  ([rulD, drD 1 60 60, .sl 4 1 [vI 0, vI 1, vI 2, vI 3]], [dB true])]
theorem run1 : ∀ caps, (lk1.all fun p => runOK Tryz.prog tabP 1000 114 p.1 p.2 caps) = true := by intro caps; kernel_rfl
end Go.Proofs.G5x

/- awake of chapter 3: which draughts keep which limits. -/
namespace Go.Proofs.G5x
open Go Go.Abs Go.Proofs Go.Str
set_option maxRecDepth 100000
def lk2 : List (List D × List D) := [([oneD, drD 0 100 100, .sl 4 1 [vI 0, vI 1, vI 2, vI 3]], [dB true]),
  ([oneD, drD 0 100 90, .sl 4 1 [vI 0, vI 1, vI 2, vI 3]], [dB true]),
  ([oneD, drD 0 100 80, .sl 4 1 [vI 0, vI 1, vI 2, vI 3]], [dB true]),
  ([oneD, drD 0 100 70, .sl 4 1 [vI 0, vI 1, vI 2, vI 3]], [dB false]),
  ([oneD, drD 0 100 60, .sl 4 1 [vI 0, vI 1, vI 2, vI 3]], [dB false]),
  ([oneD, drD 0 90 90, .sl 4 1 [vI 0, vI 1, vI 2, vI 3]], [dB true]),
  ([oneD, drD 0 90 80, .sl 4 1 [vI 0, vI 1, vI 2, vI 3]], [dB true]),
  ([oneD, drD 0 90 70, .sl 4 1 [vI 0, vI 1, vI 2, vI 3]], [dB true]),
  ([oneD, drD 0 90 60, .sl 4 1 [vI 0, vI 1, vI 2, vI 3]], [dB false]),
  ([oneD, drD 0 80 80, .sl 4 1 [vI 0, vI 1, vI 2, vI 3]], [dB true]),
  ([oneD, drD 0 80 70, .sl 4 1 [vI 0, vI 1, vI 2, vI 3]], [dB true]),
  ([oneD, drD 0 80 60, .sl 4 1 [vI 0, vI 1, vI 2, vI 3]], [dB true]),
  ([oneD, drD 0 70 70, .sl 4 1 [vI 0, vI 1, vI 2, vI 3]], [dB true]),
  ([oneD, drD 0 70 60, .sl 4 1 [vI 0, vI 1, vI 2, vI 3]], [dB true]),
  ([oneD, drD 0 60 60, .sl 4 1 [vI 0, vI 1, vI 2, vI 3]], [dB true]),
  ([oneD, drD 0 100 100, .nil], [dB true]),
  ([oneD, drD 0 100 90, .nil], [dB true]),
  ([oneD, drD 0 100 80, .nil], [dB true]),
  ([oneD, drD 0 100 70, .nil], [dB true]),
  ([oneD, drD 0 100 60, .nil], [dB true]),
  ([oneD, drD 0 90 90, .nil], [dB true]),
  ([oneD, drD 0 90 80, .nil], [dB true]),
  ([oneD, drD 0 90 70, .nil], [dB true]),
  ([oneD, drD 0 90 60, .nil], [dB true]),
  ([oneD, drD 0 80 80, .nil], [dB true]),
  ([oneD, drD 0 80 70, .nil], [dB true]),
  ([oneD, drD 0 80 60, .nil], [dB true]),
  ([oneD, drD 0 70 70, .nil], [dB true]),
  ([oneD, drD 0 70 60, .nil], [dB true]),
  ([oneD, drD 0 60 60, .nil], [dB true]),
  ([oneD, drD 0 100 100, .sl 1 1 [vI 0]], [dB true]),
  ([oneD, drD 0 100 90, .sl 1 1 [vI 0]], [dB true]),
  ([oneD, drD 0 100 80, .sl 1 1 [vI 0]], [dB true]),
  ([oneD, drD 0 100 70, .sl 1 1 [vI 0]], [dB true]),
  ([oneD, drD 0 100 60, .sl 1 1 [vI 0]], [dB true]),
  ([oneD, drD 0 90 90, .sl 1 1 [vI 0]], [dB true]),
  ([oneD, drD 0 90 80, .sl 1 1 [vI 0]], [dB true]),
  ([oneD, drD 0 90 70, .sl 1 1 [vI 0]], [dB true]),
  ([oneD, drD 0 90 60, .sl 1 1 [vI 0]], [dB true]),
  ([oneD, drD 0 80 80, .sl 1 1 [vI 0]], [dB true]),
  ([oneD, drD 0 80 70, .sl 1 1 [vI 0]], [dB true]),
  ([oneD, drD 0 80 60, .sl 1 1 [vI 0]], [dB true]),
  ([oneD, drD 0 70 70, .sl 1 1 [vI 0]], [dB true]),
  ([oneD, drD 0 70 60, .sl 1 1 [vI 0]], [dB true]),
  ([oneD, drD 0 60 60, .sl 1 1 [vI 0]], [dB true]),
  ([oneD, drD 0 100 100, .sl 1 1 [vI 1]], [dB true]),
  ([oneD, drD 0 100 90, .sl 1 1 [vI 1]], [dB true]),
  ([oneD, drD 0 100 80, .sl 1 1 [vI 1]], [dB true]),
  ([oneD, drD 0 100 70, .sl 1 1 [vI 1]], [dB false]),
  ([oneD, drD 0 100 60, .sl 1 1 [vI 1]], [dB false]),
  ([oneD, drD 0 90 90, .sl 1 1 [vI 1]], [dB true]),
  ([oneD, drD 0 90 80, .sl 1 1 [vI 1]], [dB true]),
  ([oneD, drD 0 90 70, .sl 1 1 [vI 1]], [dB true]),
  ([oneD, drD 0 90 60, .sl 1 1 [vI 1]], [dB true]),
  ([oneD, drD 0 80 80, .sl 1 1 [vI 1]], [dB true]),
  ([oneD, drD 0 80 70, .sl 1 1 [vI 1]], [dB true]),
  ([oneD, drD 0 80 60, .sl 1 1 [vI 1]], [dB true]),
  ([oneD, drD 0 70 70, .sl 1 1 [vI 1]], [dB true]),
  ([oneD, drD 0 70 60, .sl 1 1 [vI 1]], [dB true]),
  ([oneD, drD 0 60 60, .sl 1 1 [vI 1]], [dB true])]
theorem run2 : ∀ caps, (lk2.all fun p => runOK Tryz.prog tabP 1000 114 p.1 p.2 caps) = true := by intro caps; kernel_rfl
end Go.Proofs.G5x

/- awake of chapter 3: what is known of some calls. -/
namespace Go.Proofs.G5x
open Go Go.Abs Go.Proofs Go.Str
set_option maxRecDepth 100000
def lkH : List (List D × List D) := [([rulD, bestD], [dI 2, dI 0])]
def lkR : List (List D × List D) := [([rulD, bestD, .agg [dI 2, dI 8, dI 10000, .sl 2 1 [vI 50, vI 50]]], [.sl 2 2 [vI 49752, vI 5, vI 49504, vI 5], .val (.bool true), dI 0])]
def lkT : List (List D × List D) := [([rulD, bestD, dI 300], [.sl 2 2 [vI 375, vI 1, vI 500, vI 1], dI 0])]
def lkQ : List (List D × List D) := [([rulD, dI 10], [.sl 5 1 [vI 100, vI 90, vI 80, vI 70, vI 60]]), ([oneD, dI 10], [.sl 5 1 [vI 100, vI 90, vI 80, vI 70, vI 60]])]
theorem runH : ∀ caps, (lkH.all fun p => runOK Tryz.prog tabP 1000 21 p.1 p.2 caps) = true := by intro caps; kernel_rfl
theorem runR : ∀ caps, (lkR.all fun p => runOK Tryz.prog tabP 1000 27 p.1 p.2 caps) = true := by intro caps; kernel_rfl
theorem runT : ∀ caps, (lkT.all fun p => runOK Tryz.prog tabP 1000 26 p.1 p.2 caps) = true := by intro caps; kernel_rfl
theorem runQ : ∀ caps, (lkQ.all fun p => runOK Tryz.prog tabP 1000 94 p.1 p.2 caps) = true := by intro caps; kernel_rfl
end Go.Proofs.G5x

/- awake of chapter 3, for every tape: by tables. -/
namespace Go.Proofs.G5x
open Go Go.Abs Go.Proofs Go.Str
set_option maxRecDepth 100000
theorem runP : ∀ caps, ((lk1 ++ lk2).all fun p => runOK Tryz.prog tabP 1000 114 p.1 p.2 caps) = true := fun caps => by rw [List.all_append, run1, run2]; rfl
def tabA : Tab := fun f => if f == 114 then some (fun ds => lookK (lk1 ++ lk2) (keyD ds) ds) else if f == 21 then some (tabLook lkH) else if f == 27 then some (tabLook lkR) else if f == 26 then some (tabLook lkT) else if f == 94 then some (tabLook lkQ) else tabP f
theorem tabA_ok : TabOK Tryz.prog tabA := by
  intro f t ht ds rs h
  unfold tabA at ht
  split at ht
  · rename_i e; obtain rfl := Option.some.inj ht; rw [beq_iff_eq] at e; subst e; exact look_all tabP_ok runP (by kernel_rfl) (lookK_ok h)
  · split at ht
    · rename_i e; obtain rfl := Option.some.inj ht; rw [beq_iff_eq] at e; subst e; exact look_all tabP_ok runH (by kernel_rfl) (tabLook_ok h)
    · split at ht
      · rename_i e; obtain rfl := Option.some.inj ht; rw [beq_iff_eq] at e; subst e; exact look_all tabP_ok runR (by kernel_rfl) (tabLook_ok h)
      · split at ht
        · rename_i e; obtain rfl := Option.some.inj ht; rw [beq_iff_eq] at e; subst e; exact look_all tabP_ok runT (by kernel_rfl) (tabLook_ok h)
        · split at ht
          · rename_i e; obtain rfl := Option.some.inj ht; rw [beq_iff_eq] at e; subst e; exact look_all tabP_ok runQ (by kernel_rfl) (tabLook_ok h)
          · exact tabP_ok f t ht ds rs h
theorem runA : ∀ caps, runOK Tryz.prog tabA 1000 5 [] [.val (.bool true)] caps = true := by intro caps; kernel_rfl
theorem conA : C5 5 [] [.val (.bool true)] := con_run tabA_ok mixed (by show 0 ≤ 400; omega) runA
end Go.Proofs.G5x

/- PassStrings in data. -/
namespace Go.Proofs.G5x
open Go Go.Abs Go.Proofs Go.Str
set_option maxRecDepth 100000
theorem v5_e {l : List Fv} (h : l.length = 0) : vs5 l = [] := by rw [List.eq_nil_of_length_eq_zero h]; rfl
theorem v1_e {l : List Int} (h : l.length = 0) : vi l = [] := by rw [List.eq_nil_of_length_eq_zero h]; rfl
theorem concR (r : Ru) (h8 : r.ss.length ≤ 8) : C5 10 [r.d] [r.d] := by
  refine con_flat hokX mixed Tryz.func10 rfl (by show 1 ≤ 400; omega) rfl (by kernel_rfl) (fun caps => ?_)
  show gcR _ _ r.w r.st r.fi r.hlo r.hhi r.co r.ss.length (caps 500) (vs5 r.ss) r.slo r.shi r.flo r.fhi _
  rw [gcR_text]
  simp only [dL, Tk, v5_whole, bc_t (v5le r.ss), Qv, eq_self, true_and]
  refine bc_beq (fun h => ?_) (fun h => ?_)
  · show [D.agg _] = [D.agg _]
    simp only [v5_e h, h]
  · rw [bc_t (by omega), bc_t (by omega), bc_t (by omega)]
    simp
theorem concRn (r : Ru) (h : r.ss = []) : C5 10 [r.dn] [r.d] := by
  refine con_flat hokX mixed Tryz.func10 rfl (by show 0 ≤ 400; omega) rfl (by kernel_rfl) (fun caps => ?_)
  show gcRn _ _ r.w r.st r.fi r.hlo r.hhi r.co r.slo r.shi r.flo r.fhi _
  rw [gcRn_text]
  simp only [eq_self, true_and]
  simp only [Ru.d, h]
  rfl
theorem concS (nm : List UInt8) (th : List Int) (h8 : th.length ≤ 8) : C5 8 [scD nm th] [scD nm th] := by
  refine con_flat hokX mixed Tryz.func8 rfl (by show 1 ≤ 400; omega) rfl (by kernel_rfl) (fun caps => ?_)
  show gcS _ _ (bs nm) th.length (caps 500) (vi th) _
  rw [gcS_text]
  simp only [dL, Tk, v1_whole, bc_t (v1le th), Qv, eq_self, true_and]
  refine bc_beq (fun h => ?_) (fun h => ?_)
  · show [D.agg _] = [D.agg _]
    simp only [v1_e h, h]
  · rw [bc_t (by omega), bc_t (by omega), bc_t (by omega)]
    simp
theorem concSn (nm : List UInt8) : C5 8 [scN nm] [scD nm []] := by
  refine con_flat hokX mixed Tryz.func8 rfl (by show 0 ≤ 400; omega) rfl (by kernel_rfl) (fun caps => ?_)
  show gcSn _ _ (bs nm) _
  rw [gcSn_text]
  simp only [Qv, eq_self, true_and]
  rfl
theorem conSE (r : Ru) (nm : List UInt8) (th : List Int) (hlen : r.ss.length < 1000000000) (hth : th.length < 1000000000) : C5 16 [r.d, scD nm th] [dI (schE r nm th).2] := by
  refine con_flat hokP mixed Tryz.func16 rfl (by show 2 ≤ 400; omega) rfl (by kernel_rfl) (fun caps => ?_)
  show gSE _ _ r.w r.st r.fi r.hlo r.hhi r.co r.ss.length (caps 500) (vs5 r.ss) r.slo r.shi r.flo r.fhi (bs nm) th.length (caps 501) (vi th) _
  rw [gSE_text, bc_t (v5le r.ss), bc_t (v1le th), v5_whole, v1_whole]
  exact ⟨_, _, ⟨conRS r nm th hlen hth⟩, rfl⟩
theorem conSEn (r : Ru) (nm : List UInt8) (h0 : 0 < r.ss.length) (hlen : r.ss.length < 1000000000) : C5 16 [r.d, scN nm] [dI (schE r nm []).2] := by
  refine con_flat hokP mixed Tryz.func16 rfl (by show 1 ≤ 400; omega) rfl (by kernel_rfl) (fun caps => ?_)
  show gSEn _ _ r.w r.st r.fi r.hlo r.hhi r.co r.ss.length (caps 500) (vs5 r.ss) r.slo r.shi r.flo r.fhi (bs nm) _
  rw [gSEn_text, bc_t (v5le r.ss), v5_whole]
  exact ⟨_, _, ⟨conRSn r nm h0 hlen⟩, rfl⟩
theorem bc_qt' {a : Int} {x y : Prop} : bcase (a == a) x y = x := by rw [show (a == a) = true by simp]; rfl
theorem fR_le {r : Ru} (h8 : r.ss.length ≤ 8) (hr : R64R r) : (fR r).length ≤ 2100 := by
  have h0 := jn_itoa hr.head
  have := j3_le (k := 220) (xs := jn ((rNs r).map Lib.itoa) :: r.ss.map pSt) (fun x hx => by
    rcases List.mem_cons.1 hx with rfl | hx
    · simp only [rNs, List.length_cons, List.length_nil] at h0 ⊢; omega
    · obtain ⟨s, hs, rfl⟩ := List.mem_map.1 hx
      have := jn_itoa (hr.all s hs); show (jn _).length ≤ _; simp only [sNs, List.length_cons, List.length_nil] at this ⊢; omega)
  simp only [List.length_cons, List.length_map] at this
  show (j3 _).length ≤ _
  have e : (j3 (jn ((rNs r).map Lib.itoa) :: r.ss.map fun s => jn ((sNs s).map Lib.itoa))).length = (j3 (jn ((rNs r).map Lib.itoa) :: r.ss.map pSt)).length := rfl
  omega
theorem fS_le {nm : List UInt8} {th : List Int} (h8 : th.length ≤ 8) (hn : nm.length ≤ 30) (hr : ∀ n ∈ th, R64 n) : (fS nm th).length ≤ 300 := by
  have := join_le (c := 32) (k := 30) (xs := nm :: th.map Lib.itoa) (fun x hx => by
    rcases List.mem_cons.1 hx with rfl | hx
    · exact hn
    · obtain ⟨n, hn', rfl⟩ := List.mem_map.1 hx; have := itoa_le (hr n hn'); omega)
  simp only [List.length_cons, List.length_map] at this
  show (Lib.join (nm :: th.map Lib.itoa) [32]).length ≤ _; omega
theorem thE_in {n : Nat} {fi : Int} : ∀ {l : List Int} {i b : Int}, (thE n fi i b l).2 = 0 → ∀ x ∈ l, 1 ≤ x ∧ x ≤ 1000
  | [], _, _, _, x, hx => by simp at hx
  | y :: r, i, b, h, x, hx => by
    rw [thE] at h
    split at h
    · exact absurd h (by show ¬ (2 : Int) = 0; decide)
    · rename_i h1
      split at h
      · exact absurd h (by show ¬ (9 : Int) = 0; decide)
      · rcases List.mem_cons.1 hx with rfl | hx
        · exact Classical.not_not.1 h1
        · exact thE_in h x hx
theorem name_32 {nm : List UInt8} (h : nameOK nm = true) : (32 : UInt8) ∉ nm ∧ nm.length ≠ 0 := by
  simp only [nameOK, Bool.and_eq_true, decide_eq_true_eq, List.all_eq_true] at h
  refine ⟨fun hm => ?_, by omega⟩
  have := h.2 32 hm
  exact absurd this (by decide)
theorem resS_fS {nm : List UInt8} {th : List Int} (hn : nameOK nm = true) (h1 : 1 ≤ th.length) (h6 : th.length ≤ 6) (hr : ∀ x ∈ th, 1 ≤ x ∧ x ≤ 1000) :
    cutA 32 [] (fS nm th) = nm :: th.map Lib.itoa ∧ resS nm (th.map Lib.itoa) = [scD nm th, dI 0] := by
  obtain ⟨k1, k2⟩ := nums_itoa (l := th) (fun x hx => by have := hr x hx; omega)
  obtain ⟨n1, n2⟩ := name_32 hn
  constructor
  · refine cutA_join (by simp) fun w hw => ?_
    rcases List.mem_cons.1 hw with rfl | hw
    · exact n1
    · exact (okNum_59 (okW_mem k1 hw)).1
  · rw [psE_0 (by rw [k1]; simp; exact fun e => n2 (by rw [e]; rfl)) (by rw [hn]; decide) (by rw [List.length_map]; omega) (by rw [k2]; exact hr), k2]
    unfold slT; rw [if_neg (by omega)]
theorem lawSss (r : Ru) (nm : List UInt8) (th : List Int) (hR : R64R r) (hT : ∀ n ∈ th, R64 n) : C5 3 [r.d, scD nm th] [dB true] := by
  refine con_flat hokX mixed Tryz.func3 rfl (by show 2 ≤ 400; omega) rfl (by kernel_rfl) (fun caps => ?_)
  show gLSss _ _ r.w r.st r.fi r.hlo r.hhi r.co r.ss.length (caps 500) (vs5 r.ss) r.slo r.shi r.flo r.fhi (bs nm) th.length (caps 501) (vi th) _
  rw [gLSss_text]
  refine .inl ⟨⟨conA⟩, ?_⟩
  simp only [bs_size]
  refine bc_dec (fun h6 => bc_dec (fun h12 => bc_dec (fun h30 => ?_) (fun _ => by first | trivial | rfl)) (fun _ => by first | trivial | rfl)) (fun _ => by first | trivial | rfl)
  have h8 : r.ss.length ≤ 8 := by omega
  have ht8 : th.length ≤ 8 := by omega
  have hn30 : nm.length ≤ 30 := by omega
  simp only [Dw, Tk, v5_whole, vi_whole, bc_t (v5le r.ss), bc_t (v1le th), Qv, eq_self, true_and, and_true]
  refine ⟨⟨concS nm th ht8⟩, _, ⟨conFS nm th ht8 hn30 hT⟩, ⟨concR r h8⟩, _, ⟨conFR r h8 hR⟩, _, ⟨conrFS nm th ht8 hn30 hT⟩, ?_⟩
  simp only [beq_self_eq_true, Bool.not_true, bcF']
  refine ⟨_, ⟨conrFR r h8 hR⟩, ?_⟩
  simp only [beq_self_eq_true, Bool.not_true, bcF']
  refine ⟨_, ⟨conRE r (by omega)⟩, bc_bne (fun _ => by first | trivial | rfl) (fun hE => ?_)⟩
  obtain ⟨hN, hs1, hs6⟩ := num_chk hE
  have cPR := conPR (fR r) (by have := fR_le h8 hR; omega)
  rw [syn_fR hN, show resR (some r) = [r.d, dI 0] by show (if (chk r).2 = 0 then _ else _) = _; rw [if_pos hE]] at cPR
  refine ⟨_, _, _, _, _, _, .inr ⟨_, _, _, _, _, _, _, ⟨cPR⟩, ?_⟩⟩
  simp only [bc_nf, Dw, Tk, v5_whole, bc_t (v5le r.ss)]
  refine .inl ⟨⟨conSR r (by omega)⟩, ?_⟩
  refine ⟨_, ⟨conSE r nm th (by omega) (by omega)⟩, bc_bne (fun _ => by first | trivial | rfl) (fun hS => ?_)⟩
  have hS' := hS
  unfold schE at hS'
  split at hS'
  · rename_i hnm
    split at hS'
    · rename_i hl
      obtain ⟨hw, hres⟩ := resS_fS hnm (by omega) (by omega) (thE_in hS')
      have cPS := conPS (fS nm th) nm (th.map Lib.itoa) (by have := fS_le ht8 hn30 hT; omega) hw
      rw [hres] at cPS
      refine ⟨_, .inr ⟨_, _, _, ⟨cPS⟩, ?_⟩⟩
      simp only [bc_qt', Dw, Tk, vi_whole, bc_t (v1le th)]
      exact .inl ⟨conSS nm th (by omega)⟩
    · exact absurd hS' (by decide)
  · exact absurd hS' (by decide)
end Go.Proofs.G5x

/- PassStrings in data: the shapes with an empty list. -/
namespace Go.Proofs.G5x
open Go Go.Abs Go.Proofs Go.Str
set_option maxRecDepth 100000
theorem schE_nil {r : Ru} (nm : List UInt8) (h : r.ss.length ≠ 0) : (schE r nm []).2 ≠ 0 := by
  unfold schE
  split
  · rw [if_neg (by rw [List.length_nil]; omega)]; decide
  · decide
theorem dRn_e {r : Ru} (h : r.ss = []) : D.agg [dI r.w, dI r.st, dI r.fi, dI r.hlo, dI r.hhi, dI r.co, D.sl 0 5 [], dI r.slo, dI r.shi, dI r.flo, dI r.fhi] = r.d := by
  unfold Ru.d; rw [h]; rfl
theorem lawSsn (r : Ru) (nm : List UInt8) (hR : R64R r) : C5 3 [r.d, scN nm] [dB true] := by
  refine con_flat hokX mixed Tryz.func3 rfl (by show 1 ≤ 400; omega) rfl (by kernel_rfl) (fun caps => ?_)
  show gLSsn _ _ r.w r.st r.fi r.hlo r.hhi r.co r.ss.length (caps 500) (vs5 r.ss) r.slo r.shi r.flo r.fhi (bs nm) _
  rw [gLSsn_text]
  refine .inl ⟨⟨conA⟩, ?_⟩
  simp only [bs_size]
  refine bc_dec (fun h6 => bc_dec (fun h30 => ?_) (fun _ => by first | trivial | rfl)) (fun _ => by first | trivial | rfl)
  have h8 : r.ss.length ≤ 8 := by omega
  have hn30 : nm.length ≤ 30 := by omega
  have cFS := conFS nm [] (by simp) hn30 (by simp)
  simp only [Dw, Tk, v5_whole, bc_t (v5le r.ss), Qv, eq_self, true_and, and_true]
  refine ⟨⟨concSn nm⟩, _, ⟨cFS⟩, ⟨concR r h8⟩, _, ⟨conFR r h8 hR⟩, _, ⟨conrFSn nm⟩, ?_⟩
  simp only [beq_self_eq_true, Bool.not_true, bcF']
  refine ⟨_, ⟨conrFR r h8 hR⟩, ?_⟩
  simp only [beq_self_eq_true, Bool.not_true, bcF']
  refine ⟨_, ⟨conRE r (by omega)⟩, bc_bne (fun _ => by first | trivial | rfl) (fun hE => ?_)⟩
  obtain ⟨hN, hs1, hs6⟩ := num_chk hE
  have cPR := conPR (fR r) (by have := fR_le h8 hR; omega)
  rw [syn_fR hN, show resR (some r) = [r.d, dI 0] by show (if (chk r).2 = 0 then _ else _) = _; rw [if_pos hE]] at cPR
  refine ⟨_, _, _, _, _, _, .inr ⟨_, _, _, _, _, _, _, ⟨cPR⟩, ?_⟩⟩
  simp only [bc_nf, Dw, Tk, v5_whole, bc_t (v5le r.ss)]
  refine .inl ⟨⟨conSR r (by omega)⟩, ?_⟩
  exact ⟨_, ⟨conSEn r nm (by omega) (by omega)⟩, bc_bne (fun _ => by first | trivial | rfl) (fun hS => absurd hS (schE_nil nm (by omega)))⟩
theorem lawSns (r : Ru) (hn : r.ss = []) (nm : List UInt8) (th : List Int) (hR : R64R r) (hT : ∀ n ∈ th, R64 n) : C5 3 [r.dn, scD nm th] [dB true] := by
  refine con_flat hokX mixed Tryz.func3 rfl (by show 1 ≤ 400; omega) rfl (by kernel_rfl) (fun caps => ?_)
  show gLSns _ _ r.w r.st r.fi r.hlo r.hhi r.co r.slo r.shi r.flo r.fhi (bs nm) th.length (caps 500) (vi th) _
  rw [gLSns_text]
  refine .inl ⟨⟨conA⟩, ?_⟩
  simp only [bs_size]
  refine bc_dec (fun h12 => bc_dec (fun h30 => ?_) (fun _ => by first | trivial | rfl)) (fun _ => by first | trivial | rfl)
  have h8 : r.ss.length ≤ 8 := by rw [hn]; simp
  have ht8 : th.length ≤ 8 := by omega
  have hn30 : nm.length ≤ 30 := by omega
  have c1 := concRn r hn
  have c2 := conFR r h8 hR
  rw [← dRn_e hn] at c1 c2
  simp only [Dw, Tk, vi_whole, bc_t (v1le th), Qv, eq_self, true_and, and_true]
  refine ⟨⟨concS nm th ht8⟩, _, ⟨conFS nm th ht8 hn30 hT⟩, ⟨c1⟩, _, ⟨c2⟩, _, ⟨conrFS nm th ht8 hn30 hT⟩, ?_⟩
  simp only [beq_self_eq_true, Bool.not_true, bcF']
  refine ⟨_, ⟨conrFRn r h8 hR hn⟩, ?_⟩
  simp only [beq_self_eq_true, Bool.not_true, bcF']
  exact ⟨_, ⟨conREn r hn⟩, bc_bne (fun _ => by first | trivial | rfl) (fun hE => absurd hE (chk_nil hn).2)⟩
theorem lawSnn (r : Ru) (hn : r.ss = []) (nm : List UInt8) (hR : R64R r) : C5 3 [r.dn, scN nm] [dB true] := by
  refine con_flat hokX mixed Tryz.func3 rfl (by show 0 ≤ 400; omega) rfl (by kernel_rfl) (fun caps => ?_)
  show gLSnn _ _ r.w r.st r.fi r.hlo r.hhi r.co r.slo r.shi r.flo r.fhi (bs nm) _
  rw [gLSnn_text]
  refine .inl ⟨⟨conA⟩, ?_⟩
  simp only [bs_size]
  refine bc_dec (fun h30 => ?_) (fun _ => by first | trivial | rfl)
  have h8 : r.ss.length ≤ 8 := by rw [hn]; simp
  have hn30 : nm.length ≤ 30 := by omega
  have c1 := concRn r hn
  have c2 := conFR r h8 hR
  rw [← dRn_e hn] at c1 c2
  have cFS := conFS nm [] (by simp) hn30 (by simp)
  simp only [Qv, eq_self, true_and, and_true]
  refine ⟨⟨concSn nm⟩, _, ⟨cFS⟩, ⟨c1⟩, _, ⟨c2⟩, _, ⟨conrFSn nm⟩, ?_⟩
  simp only [beq_self_eq_true, Bool.not_true, bcF']
  refine ⟨_, ⟨conrFRn r h8 hR hn⟩, ?_⟩
  simp only [beq_self_eq_true, Bool.not_true, bcF']
  exact ⟨_, ⟨conREn r hn⟩, bc_bne (fun _ => by first | trivial | rfl) (fun hE => absurd hE (chk_nil hn).2)⟩
end Go.Proofs.G5x

/- PassStrings: whatever the input, it returns true, and the input reads as it did. Condition: the listed library tables hold what the text of the program lays (the card ties that to the text). -/
namespace Go.Proofs.YtnffhlfpfkdpfaaGreatDoor.K
open Go Go.Abs Go.RowKit Go.ChangeShapes Go.WideShapes Go.ChangeAt Go.Proofs Go.Flat Go.Proofs.G5x
set_option maxRecDepth 100000
namespace PassStrings
abbrev shs : List Sh := [.agg [3, 3, 3, 3, 3, 3, 24, 3, 3, 3, 3], .agg [9, 27]]
theorem shapes : Tryz.f3.params.toList.mapM (argSh Tryz.prog) = some shs := by kernel_rfl
theorem all (ds : List D) (h : ShDs Tryz.prog shs ds) : Con Tryz.prog 3 ds [.val (.bool true)] := by
  cases h with | cons k1 t => cases t with | cons k2 t =>
  cases t
  obtain ⟨d1, rfl, k1⟩ := k1
  obtain ⟨d2, rfl, k2⟩ := k2
  cases k1 with | cons p1 t => cases t with | cons p2 t => cases t with | cons p3 t => cases t with | cons p4 t => cases t with | cons p5 t => cases t with | cons p6 t => cases t with | cons p7 t => cases t with | cons p8 t => cases t with | cons p9 t => cases t with | cons p10 t => cases t with | cons p11 t =>
  cases t
  cases k2 with | cons r1 t => cases t with | cons r2 t =>
  cases t
  obtain ⟨x1, rfl, h1⟩ := leaf_int Tryz.underlying3 p1
  obtain ⟨x2, rfl, h2⟩ := leaf_int Tryz.underlying3 p2
  obtain ⟨x3, rfl, h3⟩ := leaf_int Tryz.underlying3 p3
  obtain ⟨x4, rfl, h4⟩ := leaf_int Tryz.underlying3 p4
  obtain ⟨x5, rfl, h5⟩ := leaf_int Tryz.underlying3 p5
  obtain ⟨x6, rfl, h6⟩ := leaf_int Tryz.underlying3 p6
  obtain ⟨x8, rfl, h8⟩ := leaf_int Tryz.underlying3 p8
  obtain ⟨x9, rfl, h9⟩ := leaf_int Tryz.underlying3 p9
  obtain ⟨x10, rfl, h10⟩ := leaf_int Tryz.underlying3 p10
  obtain ⟨x11, rfl, h11⟩ := leaf_int Tryz.underlying3 p11
  obtain ⟨nm, rfl⟩ := leaf_str Tryz.underlying9 r1
  have hH : ∀ T : List Fv, ∀ n ∈ rNs ⟨x1, x2, x3, x4, x5, x6, T, x8, x9, x10, x11⟩, R64 n := fun T n hn => by
    simp only [rNs, List.mem_cons, List.not_mem_nil, or_false] at hn
    rcases hn with rfl | rfl | rfl | rfl | rfl | rfl | rfl | rfl | rfl | rfl <;> assumption
  have hT0 : R64R ⟨x1, x2, x3, x4, x5, x6, [], x8, x9, x10, x11⟩ := ⟨hH [], fun s hs => absurd hs (List.not_mem_nil)⟩
  have hT1 : ∀ T : List Fv, (∀ s ∈ T, (-9223372036854775808 ≤ s.a ∧ s.a ≤ 9223372036854775807) ∧ (-9223372036854775808 ≤ s.b ∧ s.b ≤ 9223372036854775807) ∧ (-9223372036854775808 ≤ s.c ∧ s.c ≤ 9223372036854775807) ∧ (-9223372036854775808 ≤ s.d ∧ s.d ≤ 9223372036854775807) ∧ (-9223372036854775808 ≤ s.e ∧ s.e ≤ 9223372036854775807)) → R64R ⟨x1, x2, x3, x4, x5, x6, T, x8, x9, x10, x11⟩ := fun T hT => ⟨hH T, fun s hs n hn => by
    obtain ⟨ha, hb, hc, hd, he⟩ := hT s hs
    simp only [sNs, List.mem_cons, List.not_mem_nil, or_false] at hn
    rcases hn with rfl | rfl | rfl | rfl | rfl <;> assumption⟩
  rcases leaf_fvsR Tryz.underlying24 (by kernel_rfl) p7 with rfl | ⟨T, rfl, hT⟩
  · rcases leaf_intsR Tryz.underlying27 (by kernel_rfl) r2 with rfl | ⟨R, rfl, hR⟩
    · exact lawSnn ⟨x1, x2, x3, x4, x5, x6, [], x8, x9, x10, x11⟩ rfl nm hT0
    · exact lawSns ⟨x1, x2, x3, x4, x5, x6, [], x8, x9, x10, x11⟩ rfl nm R hT0 hR
  · rcases leaf_intsR Tryz.underlying27 (by kernel_rfl) r2 with rfl | ⟨R, rfl, hR⟩
    · exact lawSsn ⟨x1, x2, x3, x4, x5, x6, T, x8, x9, x10, x11⟩ nm (hT1 T hT)
    · exact lawSss ⟨x1, x2, x3, x4, x5, x6, T, x8, x9, x10, x11⟩ nm R (hT1 T hT) hR
def wArgs : Array Value := #[.agg #[.int .i64 0, .int .i64 0, .int .i64 0, .int .i64 0, .int .i64 0, .int .i64 0, .slice none 0 0, .int .i64 0, .int .i64 0, .int .i64 0, .int .i64 0], .agg #[.string ⟨#[]⟩, .slice none 0 0]]
theorem laid_met (os : Os) : laidMet Tryz.prog Rows.passStringsRow.laid ((laidWorld os).forCall (fun _ _ => 0) ⟨#[], wArgs, []⟩).memory :=
  laidMet_of_run' 8 (by kernel_rfl) (by kernel_rfl)
theorem reads (os : Os) {H : Type} (enc : TypeId × Value → H) : ∃ places, DataW.whole enc Tryz.prog ((laidWorld os).forCall (fun _ _ => 0) ⟨#[], wArgs, []⟩).memory Tryz.f3.params.toList Rows.passStringsSpec.vars false wArgs.toList 8 =
    some ([.agg [.lit (.int .i64 0), .lit (.int .i64 0), .lit (.int .i64 0), .agg [.lit (.int .i64 0), .lit (.int .i64 0)], .lit (.int .i64 0), .nil, .agg [.lit (.int .i64 0), .lit (.int .i64 0)], .agg [.lit (.int .i64 0), .lit (.int .i64 0)]], .agg [.lit (.string []), .nil]], [], places) :=
  ⟨[], by kernel_rfl⟩
theorem lifted (os : Os) (started : os.Started) (H : Type) (enc : TypeId × Value → H) (F : Stop.Interp) :
    ReturnsInHanded {} Tryz.checked os 3 .any ((OpenSpec.ofChange Rows.passStringsSpec).preRow enc Tryz.prog Tryz.f3 Rows.passStringsRow.domain false Rows.passStringsRow.laid) (((OpenSpec.ofChange Rows.passStringsSpec).at F).post enc Tryz.prog Tryz.f3 false true false false) := by
  obtain ⟨places, hx⟩ := reads os enc
  refine returnsInHanded_of_row (C := Tryz.checked) (s := OpenSpec.ofChange Rows.passStringsSpec) own started (by kernel_rfl) Tryz.func3
    (witness_row_at (enc := enc) (C := Tryz.checked) false (laidWorld os) wArgs rfl (by kernel_rfl) (by kernel_rfl) (by kernel_rfl)
      (OpenSpec.preRow_of_cond 8 hx (by kernel_rfl) (fun k hk => by cases hk) (by kernel_rfl) (laid_met os))) ?_
  intro W base args ds gs before hval hW h1 h2 h3 h4 h5 h6
  have hgood : GoodW Tryz.prog W := good_of (show laidMet _ _ W from h4) h5
  exact law_shapes (tb := 4) (s := Rows.passStringsSpec) shapes all laidP mapsP slicesP (tsP (by kernel_rfl)) rfl Tryz.underlying4 rfl (fun ds h => by
    match ds, h with
    | [_, _], _ => exact ⟨rfl, rfl, rfl⟩) hval hW hgood
theorem said : Rows.PassStringsSaid :=
  OpenClaim.holds_of_cond 3 Tryz.f3 rfl rfl rfl rfl rfl rfl rfl ⟨rfl, rfl, rfl, rfl, rfl⟩ rfl rfl rfl rfl rfl (by kernel_rfl) Tryz.func3 (by kernel_rfl)
    (of_decide_eq_true (by kernel_rfl)) (by unfold Func.isWrapper; first | (rw [if_pos (by decide +kernel)]; kernel_rfl) | (rw [if_neg (by decide +kernel)]; exact ⟨rfl, rfl⟩))
    (fun os started H enc _ F => by rw [OpenClaim.pre_eq_preRow]; exact lifted os started H enc F)
theorem plain (f : FuncId) (fn : Func) (hf : Tryz.pinned.checked.prog.funcNamed "cobble/cobblelaw03.PassStrings" = some f) (hfn : Tryz.pinned.checked.prog.funcs[f]? = some fn) :
    false = Tryz.pinned.checked.prog.looks [] ∧ ∀ (j : Nat) t, fn.params[j]? = some t → Tryz.pinned.checked.prog.wantsStandIn t = false := by
  obtain rfl : f = 3 := Option.some.inj ((show Tryz.prog.funcNamed "cobble/cobblelaw03.PassStrings" = some 3 by kernel_rfl).symm.trans hf) |>.symm
  obtain rfl : fn = Tryz.f3 := (Option.some.inj (Tryz.func3.symm.trans hfn)).symm
  exact ⟨by kernel_rfl, noStand (by kernel_rfl)⟩
theorem card : Rows.PassStringsCardSaid :=
  Claim7.holds_tied_plain_at .later [] _ _ _ _ said (fun _ h => by cases h) (by kernel_rfl) (fun _ h => by cases h) passStrings_row_tie rfl ⟨rfl, rfl⟩ (by kernel_rfl) rfl plain (by kernel_rfl)
#print axioms card
end PassStrings
end Go.Proofs.YtnffhlfpfkdpfaaGreatDoor.K
