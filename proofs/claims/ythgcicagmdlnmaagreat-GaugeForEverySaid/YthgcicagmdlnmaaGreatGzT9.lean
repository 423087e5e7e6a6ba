/- What is left to show of each function, written out; the kernel reckons it. -/
import Derived.Test.YthgcicagmdlnmaaGreatGzT8
namespace Go.Proofs.G5z
open Go Go.Abs Go.Proofs
set_option maxRecDepth 100000
set_option linter.unusedVariables false
def gXS (C : Ct) (L : AtLoop) (a b c d g e : Int) (k : List D → Prop) : Prop := wpFn Tryz.prog (hS C) L 0 14 #[vA a b c d, vB g e] (heapOf []) (dataK k)
theorem gXS_text (C : Ct) (L : AtLoop) (a : Int) (b : Int) (c : Int) (d : Int) (g : Int) (e : Int) (k : List D → Prop) : gXS C L a b c d g e k =
 ((((Go.Value.agg [(vI g), (vI e)].toArray) = (Go.Value.agg [(vI g), (vI e)].toArray)) ∧
 (((Go.Value.agg [(vI a), (vI b), (vI c), (vI d)].toArray) = (Go.Value.agg [(vI a), (vI b), (vI c), (vI d)].toArray)) ∧
 True)) ∧
 (∃ n1 : Int,
 ((Says C 20 [(D.agg [(D.val (vI a)), (D.val (vI b)), (D.val (vI c)), (D.val (vI d))])] [(D.val (vI n1))]) ∧
 ((((Go.Value.agg [(vI g), (vI e)].toArray) = (Go.Value.agg [(vI g), (vI e)].toArray)) ∧
 True) ∧
 (∃ n2 : Int,
 ((Says C 81 [(D.agg [(D.val (vI g)), (D.val (vI e))])] [(D.val (vI n2))]) ∧
 (((((Go.Value.slice (Option.some (Go.Addr.mk 1003 0 Option.none)) 2 2) = (Go.Value.slice (Option.some (Go.Addr.mk 1003 0 Option.none)) 2 2)) ∧
 ((Option.some (AObj.cells [(vI n1), (vI n2)] 33 false 1)) = (Option.some (AObj.cells [(vI n1), (vI n2)] 33 false 1)))) ∧
 True) ∧
 (∃ n3 : Int,
 ((Says C 78 [(D.sl 2 1 [(vI n1), (vI n2)])] [(D.val (vI n3))]) ∧
 (True ∧
 (True ∧
 (bcase (n3 != 0)
 (k [(D.agg [(D.val (vI (0 : Int))), (D.val (vI (0 : Int))), (D.val (vI (0 : Int))), (D.val (vI (0 : Int)))]), (D.val (vI n3))])
 (∃ n4 : Int,
 (∃ n5 : Int,
 ((Says C 82 [(D.val (vI a)), (D.val (vI c)), (D.agg [(D.val (vI g)), (D.val (vI e))])] [(D.agg [(D.val (vI n4)), (D.val (vI n5))])]) ∧
 (∃ n6 : Int,
 (∃ n7 : Int,
 ((Says C 82 [(D.val (vI a)), (D.val (vI c)), (D.agg [(D.val (vI g)), (D.val (vI e))])] [(D.agg [(D.val (vI n6)), (D.val (vI n7))])]) ∧
 (((Says C 147 [(D.agg [(D.val (vI n6)), (D.val (vI n7))]), (D.agg [(D.val (vI n4)), (D.val (vI n5))])] [(D.val (.bool true))]) ∧
 (((Says C 147 [(D.agg [(D.val (vI n4)), (D.val (vI n5))]), (D.agg [(D.val (vI n6)), (D.val (vI n7))])] [(D.val (.bool true))]) ∧
 (∃ n8 : Int,
 (∃ n9 : Int,
 ((Says C 82 [(D.val (vI a)), (D.val (vI d)), (D.agg [(D.val (vI g)), (D.val (vI e))])] [(D.agg [(D.val (vI n8)), (D.val (vI n9))])]) ∧
 (((Says C 147 [(D.agg [(D.val (vI n8)), (D.val (vI n9))]), (D.agg [(D.val (vI n6)), (D.val (vI n7))])] [(D.val (.bool true))]) ∧
 (((Says C 147 [(D.agg [(D.val (vI n6)), (D.val (vI n7))]), (D.agg [(D.val (vI n8)), (D.val (vI n9))])] [(D.val (.bool true))]) ∧
 (∃ n10 : Int,
 (∃ n11 : Int,
 ((Says C 82 [(D.val (vI b)), (D.val (vI c)), (D.agg [(D.val (vI g)), (D.val (vI e))])] [(D.agg [(D.val (vI n10)), (D.val (vI n11))])]) ∧
 (((Says C 147 [(D.agg [(D.val (vI n10)), (D.val (vI n11))]), (D.agg [(D.val (vI n8)), (D.val (vI n9))])] [(D.val (.bool true))]) ∧
 (((Says C 147 [(D.agg [(D.val (vI n8)), (D.val (vI n9))]), (D.agg [(D.val (vI n10)), (D.val (vI n11))])] [(D.val (.bool true))]) ∧
 (∃ n12 : Int,
 (∃ n13 : Int,
 ((Says C 82 [(D.val (vI b)), (D.val (vI d)), (D.agg [(D.val (vI g)), (D.val (vI e))])] [(D.agg [(D.val (vI n12)), (D.val (vI n13))])]) ∧
 (((Says C 147 [(D.agg [(D.val (vI n12)), (D.val (vI n13))]), (D.agg [(D.val (vI n10)), (D.val (vI n11))])] [(D.val (.bool true))]) ∧
 (((Says C 147 [(D.agg [(D.val (vI n10)), (D.val (vI n11))]), (D.agg [(D.val (vI n12)), (D.val (vI n13))])] [(D.val (.bool true))]) ∧
 (k [(D.agg [(D.val (vI n12)), (D.val (vI n13)), (D.val (vI n12)), (D.val (vI n13))]), (D.val (vI (0 : Int)))])) ∨
 ((Says C 147 [(D.agg [(D.val (vI n10)), (D.val (vI n11))]), (D.agg [(D.val (vI n12)), (D.val (vI n13))])] [(D.val (.bool false))]) ∧
 (k [(D.agg [(D.val (vI n12)), (D.val (vI n13)), (D.val (vI n10)), (D.val (vI n11))]), (D.val (vI (0 : Int)))])))) ∨
 ((Says C 147 [(D.agg [(D.val (vI n12)), (D.val (vI n13))]), (D.agg [(D.val (vI n10)), (D.val (vI n11))])] [(D.val (.bool false))]) ∧
 (((Says C 147 [(D.agg [(D.val (vI n10)), (D.val (vI n11))]), (D.agg [(D.val (vI n12)), (D.val (vI n13))])] [(D.val (.bool true))]) ∧
 (k [(D.agg [(D.val (vI n10)), (D.val (vI n11)), (D.val (vI n12)), (D.val (vI n13))]), (D.val (vI (0 : Int)))])) ∨
 ((Says C 147 [(D.agg [(D.val (vI n10)), (D.val (vI n11))]), (D.agg [(D.val (vI n12)), (D.val (vI n13))])] [(D.val (.bool false))]) ∧
 (k [(D.agg [(D.val (vI n10)), (D.val (vI n11)), (D.val (vI n10)), (D.val (vI n11))]), (D.val (vI (0 : Int)))]))))))))) ∨
 ((Says C 147 [(D.agg [(D.val (vI n8)), (D.val (vI n9))]), (D.agg [(D.val (vI n10)), (D.val (vI n11))])] [(D.val (.bool false))]) ∧
 (∃ n12 : Int,
 (∃ n13 : Int,
 ((Says C 82 [(D.val (vI b)), (D.val (vI d)), (D.agg [(D.val (vI g)), (D.val (vI e))])] [(D.agg [(D.val (vI n12)), (D.val (vI n13))])]) ∧
 (((Says C 147 [(D.agg [(D.val (vI n12)), (D.val (vI n13))]), (D.agg [(D.val (vI n10)), (D.val (vI n11))])] [(D.val (.bool true))]) ∧
 (((Says C 147 [(D.agg [(D.val (vI n8)), (D.val (vI n9))]), (D.agg [(D.val (vI n12)), (D.val (vI n13))])] [(D.val (.bool true))]) ∧
 (k [(D.agg [(D.val (vI n12)), (D.val (vI n13)), (D.val (vI n12)), (D.val (vI n13))]), (D.val (vI (0 : Int)))])) ∨
 ((Says C 147 [(D.agg [(D.val (vI n8)), (D.val (vI n9))]), (D.agg [(D.val (vI n12)), (D.val (vI n13))])] [(D.val (.bool false))]) ∧
 (k [(D.agg [(D.val (vI n12)), (D.val (vI n13)), (D.val (vI n8)), (D.val (vI n9))]), (D.val (vI (0 : Int)))])))) ∨
 ((Says C 147 [(D.agg [(D.val (vI n12)), (D.val (vI n13))]), (D.agg [(D.val (vI n10)), (D.val (vI n11))])] [(D.val (.bool false))]) ∧
 (((Says C 147 [(D.agg [(D.val (vI n8)), (D.val (vI n9))]), (D.agg [(D.val (vI n12)), (D.val (vI n13))])] [(D.val (.bool true))]) ∧
 (k [(D.agg [(D.val (vI n10)), (D.val (vI n11)), (D.val (vI n12)), (D.val (vI n13))]), (D.val (vI (0 : Int)))])) ∨
 ((Says C 147 [(D.agg [(D.val (vI n8)), (D.val (vI n9))]), (D.agg [(D.val (vI n12)), (D.val (vI n13))])] [(D.val (.bool false))]) ∧
 (k [(D.agg [(D.val (vI n10)), (D.val (vI n11)), (D.val (vI n8)), (D.val (vI n9))]), (D.val (vI (0 : Int)))]))))))))))) ∨
 ((Says C 147 [(D.agg [(D.val (vI n10)), (D.val (vI n11))]), (D.agg [(D.val (vI n8)), (D.val (vI n9))])] [(D.val (.bool false))]) ∧
 (((Says C 147 [(D.agg [(D.val (vI n8)), (D.val (vI n9))]), (D.agg [(D.val (vI n10)), (D.val (vI n11))])] [(D.val (.bool true))]) ∧
 (∃ n12 : Int,
 (∃ n13 : Int,
 ((Says C 82 [(D.val (vI b)), (D.val (vI d)), (D.agg [(D.val (vI g)), (D.val (vI e))])] [(D.agg [(D.val (vI n12)), (D.val (vI n13))])]) ∧
 (((Says C 147 [(D.agg [(D.val (vI n12)), (D.val (vI n13))]), (D.agg [(D.val (vI n8)), (D.val (vI n9))])] [(D.val (.bool true))]) ∧
 (((Says C 147 [(D.agg [(D.val (vI n10)), (D.val (vI n11))]), (D.agg [(D.val (vI n12)), (D.val (vI n13))])] [(D.val (.bool true))]) ∧
 (k [(D.agg [(D.val (vI n12)), (D.val (vI n13)), (D.val (vI n12)), (D.val (vI n13))]), (D.val (vI (0 : Int)))])) ∨
 ((Says C 147 [(D.agg [(D.val (vI n10)), (D.val (vI n11))]), (D.agg [(D.val (vI n12)), (D.val (vI n13))])] [(D.val (.bool false))]) ∧
 (k [(D.agg [(D.val (vI n12)), (D.val (vI n13)), (D.val (vI n10)), (D.val (vI n11))]), (D.val (vI (0 : Int)))])))) ∨
 ((Says C 147 [(D.agg [(D.val (vI n12)), (D.val (vI n13))]), (D.agg [(D.val (vI n8)), (D.val (vI n9))])] [(D.val (.bool false))]) ∧
 (((Says C 147 [(D.agg [(D.val (vI n10)), (D.val (vI n11))]), (D.agg [(D.val (vI n12)), (D.val (vI n13))])] [(D.val (.bool true))]) ∧
 (k [(D.agg [(D.val (vI n8)), (D.val (vI n9)), (D.val (vI n12)), (D.val (vI n13))]), (D.val (vI (0 : Int)))])) ∨
 ((Says C 147 [(D.agg [(D.val (vI n10)), (D.val (vI n11))]), (D.agg [(D.val (vI n12)), (D.val (vI n13))])] [(D.val (.bool false))]) ∧
 (k [(D.agg [(D.val (vI n8)), (D.val (vI n9)), (D.val (vI n10)), (D.val (vI n11))]), (D.val (vI (0 : Int)))]))))))))) ∨
 ((Says C 147 [(D.agg [(D.val (vI n8)), (D.val (vI n9))]), (D.agg [(D.val (vI n10)), (D.val (vI n11))])] [(D.val (.bool false))]) ∧
 (∃ n12 : Int,
 (∃ n13 : Int,
 ((Says C 82 [(D.val (vI b)), (D.val (vI d)), (D.agg [(D.val (vI g)), (D.val (vI e))])] [(D.agg [(D.val (vI n12)), (D.val (vI n13))])]) ∧
 (((Says C 147 [(D.agg [(D.val (vI n12)), (D.val (vI n13))]), (D.agg [(D.val (vI n8)), (D.val (vI n9))])] [(D.val (.bool true))]) ∧
 (((Says C 147 [(D.agg [(D.val (vI n8)), (D.val (vI n9))]), (D.agg [(D.val (vI n12)), (D.val (vI n13))])] [(D.val (.bool true))]) ∧
 (k [(D.agg [(D.val (vI n12)), (D.val (vI n13)), (D.val (vI n12)), (D.val (vI n13))]), (D.val (vI (0 : Int)))])) ∨
 ((Says C 147 [(D.agg [(D.val (vI n8)), (D.val (vI n9))]), (D.agg [(D.val (vI n12)), (D.val (vI n13))])] [(D.val (.bool false))]) ∧
 (k [(D.agg [(D.val (vI n12)), (D.val (vI n13)), (D.val (vI n8)), (D.val (vI n9))]), (D.val (vI (0 : Int)))])))) ∨
 ((Says C 147 [(D.agg [(D.val (vI n12)), (D.val (vI n13))]), (D.agg [(D.val (vI n8)), (D.val (vI n9))])] [(D.val (.bool false))]) ∧
 (((Says C 147 [(D.agg [(D.val (vI n8)), (D.val (vI n9))]), (D.agg [(D.val (vI n12)), (D.val (vI n13))])] [(D.val (.bool true))]) ∧
 (k [(D.agg [(D.val (vI n8)), (D.val (vI n9)), (D.val (vI n12)), (D.val (vI n13))]), (D.val (vI (0 : Int)))])) ∨
 ((Says C 147 [(D.agg [(D.val (vI n8)), (D.val (vI n9))]), (D.agg [(D.val (vI n12)), (D.val (vI n13))])] [(D.val (.bool false))]) ∧
 (k [(D.agg [(D.val (vI n8)), (D.val (vI n9)), (D.val (vI n8)), (D.val (vI n9))]), (D.val (vI (0 : Int)))])))))))))))))))) ∨
 ((Says C 147 [(D.agg [(D.val (vI n6)), (D.val (vI n7))]), (D.agg [(D.val (vI n8)), (D.val (vI n9))])] [(D.val (.bool false))]) ∧
 (∃ n10 : Int,
 (∃ n11 : Int,
 ((Says C 82 [(D.val (vI b)), (D.val (vI c)), (D.agg [(D.val (vI g)), (D.val (vI e))])] [(D.agg [(D.val (vI n10)), (D.val (vI n11))])]) ∧
 (((Says C 147 [(D.agg [(D.val (vI n10)), (D.val (vI n11))]), (D.agg [(D.val (vI n8)), (D.val (vI n9))])] [(D.val (.bool true))]) ∧
 (((Says C 147 [(D.agg [(D.val (vI n6)), (D.val (vI n7))]), (D.agg [(D.val (vI n10)), (D.val (vI n11))])] [(D.val (.bool true))]) ∧
 (∃ n12 : Int,
 (∃ n13 : Int,
 ((Says C 82 [(D.val (vI b)), (D.val (vI d)), (D.agg [(D.val (vI g)), (D.val (vI e))])] [(D.agg [(D.val (vI n12)), (D.val (vI n13))])]) ∧
 (((Says C 147 [(D.agg [(D.val (vI n12)), (D.val (vI n13))]), (D.agg [(D.val (vI n10)), (D.val (vI n11))])] [(D.val (.bool true))]) ∧
 (((Says C 147 [(D.agg [(D.val (vI n10)), (D.val (vI n11))]), (D.agg [(D.val (vI n12)), (D.val (vI n13))])] [(D.val (.bool true))]) ∧
 (k [(D.agg [(D.val (vI n12)), (D.val (vI n13)), (D.val (vI n12)), (D.val (vI n13))]), (D.val (vI (0 : Int)))])) ∨
 ((Says C 147 [(D.agg [(D.val (vI n10)), (D.val (vI n11))]), (D.agg [(D.val (vI n12)), (D.val (vI n13))])] [(D.val (.bool false))]) ∧
 (k [(D.agg [(D.val (vI n12)), (D.val (vI n13)), (D.val (vI n10)), (D.val (vI n11))]), (D.val (vI (0 : Int)))])))) ∨
 ((Says C 147 [(D.agg [(D.val (vI n12)), (D.val (vI n13))]), (D.agg [(D.val (vI n10)), (D.val (vI n11))])] [(D.val (.bool false))]) ∧
 (((Says C 147 [(D.agg [(D.val (vI n10)), (D.val (vI n11))]), (D.agg [(D.val (vI n12)), (D.val (vI n13))])] [(D.val (.bool true))]) ∧
 (k [(D.agg [(D.val (vI n10)), (D.val (vI n11)), (D.val (vI n12)), (D.val (vI n13))]), (D.val (vI (0 : Int)))])) ∨
 ((Says C 147 [(D.agg [(D.val (vI n10)), (D.val (vI n11))]), (D.agg [(D.val (vI n12)), (D.val (vI n13))])] [(D.val (.bool false))]) ∧
 (k [(D.agg [(D.val (vI n10)), (D.val (vI n11)), (D.val (vI n10)), (D.val (vI n11))]), (D.val (vI (0 : Int)))]))))))))) ∨
 ((Says C 147 [(D.agg [(D.val (vI n6)), (D.val (vI n7))]), (D.agg [(D.val (vI n10)), (D.val (vI n11))])] [(D.val (.bool false))]) ∧
 (∃ n12 : Int,
 (∃ n13 : Int,
 ((Says C 82 [(D.val (vI b)), (D.val (vI d)), (D.agg [(D.val (vI g)), (D.val (vI e))])] [(D.agg [(D.val (vI n12)), (D.val (vI n13))])]) ∧
 (((Says C 147 [(D.agg [(D.val (vI n12)), (D.val (vI n13))]), (D.agg [(D.val (vI n10)), (D.val (vI n11))])] [(D.val (.bool true))]) ∧
 (((Says C 147 [(D.agg [(D.val (vI n6)), (D.val (vI n7))]), (D.agg [(D.val (vI n12)), (D.val (vI n13))])] [(D.val (.bool true))]) ∧
 (k [(D.agg [(D.val (vI n12)), (D.val (vI n13)), (D.val (vI n12)), (D.val (vI n13))]), (D.val (vI (0 : Int)))])) ∨
 ((Says C 147 [(D.agg [(D.val (vI n6)), (D.val (vI n7))]), (D.agg [(D.val (vI n12)), (D.val (vI n13))])] [(D.val (.bool false))]) ∧
 (k [(D.agg [(D.val (vI n12)), (D.val (vI n13)), (D.val (vI n6)), (D.val (vI n7))]), (D.val (vI (0 : Int)))])))) ∨
 ((Says C 147 [(D.agg [(D.val (vI n12)), (D.val (vI n13))]), (D.agg [(D.val (vI n10)), (D.val (vI n11))])] [(D.val (.bool false))]) ∧
 (((Says C 147 [(D.agg [(D.val (vI n6)), (D.val (vI n7))]), (D.agg [(D.val (vI n12)), (D.val (vI n13))])] [(D.val (.bool true))]) ∧
 (k [(D.agg [(D.val (vI n10)), (D.val (vI n11)), (D.val (vI n12)), (D.val (vI n13))]), (D.val (vI (0 : Int)))])) ∨
 ((Says C 147 [(D.agg [(D.val (vI n6)), (D.val (vI n7))]), (D.agg [(D.val (vI n12)), (D.val (vI n13))])] [(D.val (.bool false))]) ∧
 (k [(D.agg [(D.val (vI n10)), (D.val (vI n11)), (D.val (vI n6)), (D.val (vI n7))]), (D.val (vI (0 : Int)))]))))))))))) ∨
 ((Says C 147 [(D.agg [(D.val (vI n10)), (D.val (vI n11))]), (D.agg [(D.val (vI n8)), (D.val (vI n9))])] [(D.val (.bool false))]) ∧
 (((Says C 147 [(D.agg [(D.val (vI n6)), (D.val (vI n7))]), (D.agg [(D.val (vI n10)), (D.val (vI n11))])] [(D.val (.bool true))]) ∧
 (∃ n12 : Int,
 (∃ n13 : Int,
 ((Says C 82 [(D.val (vI b)), (D.val (vI d)), (D.agg [(D.val (vI g)), (D.val (vI e))])] [(D.agg [(D.val (vI n12)), (D.val (vI n13))])]) ∧
 (((Says C 147 [(D.agg [(D.val (vI n12)), (D.val (vI n13))]), (D.agg [(D.val (vI n8)), (D.val (vI n9))])] [(D.val (.bool true))]) ∧
 (((Says C 147 [(D.agg [(D.val (vI n10)), (D.val (vI n11))]), (D.agg [(D.val (vI n12)), (D.val (vI n13))])] [(D.val (.bool true))]) ∧
 (k [(D.agg [(D.val (vI n12)), (D.val (vI n13)), (D.val (vI n12)), (D.val (vI n13))]), (D.val (vI (0 : Int)))])) ∨
 ((Says C 147 [(D.agg [(D.val (vI n10)), (D.val (vI n11))]), (D.agg [(D.val (vI n12)), (D.val (vI n13))])] [(D.val (.bool false))]) ∧
 (k [(D.agg [(D.val (vI n12)), (D.val (vI n13)), (D.val (vI n10)), (D.val (vI n11))]), (D.val (vI (0 : Int)))])))) ∨
 ((Says C 147 [(D.agg [(D.val (vI n12)), (D.val (vI n13))]), (D.agg [(D.val (vI n8)), (D.val (vI n9))])] [(D.val (.bool false))]) ∧
 (((Says C 147 [(D.agg [(D.val (vI n10)), (D.val (vI n11))]), (D.agg [(D.val (vI n12)), (D.val (vI n13))])] [(D.val (.bool true))]) ∧
 (k [(D.agg [(D.val (vI n8)), (D.val (vI n9)), (D.val (vI n12)), (D.val (vI n13))]), (D.val (vI (0 : Int)))])) ∨
 ((Says C 147 [(D.agg [(D.val (vI n10)), (D.val (vI n11))]), (D.agg [(D.val (vI n12)), (D.val (vI n13))])] [(D.val (.bool false))]) ∧
 (k [(D.agg [(D.val (vI n8)), (D.val (vI n9)), (D.val (vI n10)), (D.val (vI n11))]), (D.val (vI (0 : Int)))]))))))))) ∨
 ((Says C 147 [(D.agg [(D.val (vI n6)), (D.val (vI n7))]), (D.agg [(D.val (vI n10)), (D.val (vI n11))])] [(D.val (.bool false))]) ∧
 (∃ n12 : Int,
 (∃ n13 : Int,
 ((Says C 82 [(D.val (vI b)), (D.val (vI d)), (D.agg [(D.val (vI g)), (D.val (vI e))])] [(D.agg [(D.val (vI n12)), (D.val (vI n13))])]) ∧
 (((Says C 147 [(D.agg [(D.val (vI n12)), (D.val (vI n13))]), (D.agg [(D.val (vI n8)), (D.val (vI n9))])] [(D.val (.bool true))]) ∧
 (((Says C 147 [(D.agg [(D.val (vI n6)), (D.val (vI n7))]), (D.agg [(D.val (vI n12)), (D.val (vI n13))])] [(D.val (.bool true))]) ∧
 (k [(D.agg [(D.val (vI n12)), (D.val (vI n13)), (D.val (vI n12)), (D.val (vI n13))]), (D.val (vI (0 : Int)))])) ∨
 ((Says C 147 [(D.agg [(D.val (vI n6)), (D.val (vI n7))]), (D.agg [(D.val (vI n12)), (D.val (vI n13))])] [(D.val (.bool false))]) ∧
 (k [(D.agg [(D.val (vI n12)), (D.val (vI n13)), (D.val (vI n6)), (D.val (vI n7))]), (D.val (vI (0 : Int)))])))) ∨
 ((Says C 147 [(D.agg [(D.val (vI n12)), (D.val (vI n13))]), (D.agg [(D.val (vI n8)), (D.val (vI n9))])] [(D.val (.bool false))]) ∧
 (((Says C 147 [(D.agg [(D.val (vI n6)), (D.val (vI n7))]), (D.agg [(D.val (vI n12)), (D.val (vI n13))])] [(D.val (.bool true))]) ∧
 (k [(D.agg [(D.val (vI n8)), (D.val (vI n9)), (D.val (vI n12)), (D.val (vI n13))]), (D.val (vI (0 : Int)))])) ∨
 ((Says C 147 [(D.agg [(D.val (vI n6)), (D.val (vI n7))]), (D.agg [(D.val (vI n12)), (D.val (vI n13))])] [(D.val (.bool false))]) ∧
 (k [(D.agg [(D.val (vI n8)), (D.val (vI n9)), (D.val (vI n6)), (D.val (vI n7))]), (D.val (vI (0 : Int)))])))))))))))))))))) ∨
 ((Says C 147 [(D.agg [(D.val (vI n8)), (D.val (vI n9))]), (D.agg [(D.val (vI n6)), (D.val (vI n7))])] [(D.val (.bool false))]) ∧
 (((Says C 147 [(D.agg [(D.val (vI n6)), (D.val (vI n7))]), (D.agg [(D.val (vI n8)), (D.val (vI n9))])] [(D.val (.bool true))]) ∧
 (∃ n10 : Int,
 (∃ n11 : Int,
 ((Says C 82 [(D.val (vI b)), (D.val (vI c)), (D.agg [(D.val (vI g)), (D.val (vI e))])] [(D.agg [(D.val (vI n10)), (D.val (vI n11))])]) ∧
 (((Says C 147 [(D.agg [(D.val (vI n10)), (D.val (vI n11))]), (D.agg [(D.val (vI n6)), (D.val (vI n7))])] [(D.val (.bool true))]) ∧
 (((Says C 147 [(D.agg [(D.val (vI n8)), (D.val (vI n9))]), (D.agg [(D.val (vI n10)), (D.val (vI n11))])] [(D.val (.bool true))]) ∧
 (∃ n12 : Int,
 (∃ n13 : Int,
 ((Says C 82 [(D.val (vI b)), (D.val (vI d)), (D.agg [(D.val (vI g)), (D.val (vI e))])] [(D.agg [(D.val (vI n12)), (D.val (vI n13))])]) ∧
 (((Says C 147 [(D.agg [(D.val (vI n12)), (D.val (vI n13))]), (D.agg [(D.val (vI n10)), (D.val (vI n11))])] [(D.val (.bool true))]) ∧
 (((Says C 147 [(D.agg [(D.val (vI n10)), (D.val (vI n11))]), (D.agg [(D.val (vI n12)), (D.val (vI n13))])] [(D.val (.bool true))]) ∧
 (k [(D.agg [(D.val (vI n12)), (D.val (vI n13)), (D.val (vI n12)), (D.val (vI n13))]), (D.val (vI (0 : Int)))])) ∨
 ((Says C 147 [(D.agg [(D.val (vI n10)), (D.val (vI n11))]), (D.agg [(D.val (vI n12)), (D.val (vI n13))])] [(D.val (.bool false))]) ∧
 (k [(D.agg [(D.val (vI n12)), (D.val (vI n13)), (D.val (vI n10)), (D.val (vI n11))]), (D.val (vI (0 : Int)))])))) ∨
 ((Says C 147 [(D.agg [(D.val (vI n12)), (D.val (vI n13))]), (D.agg [(D.val (vI n10)), (D.val (vI n11))])] [(D.val (.bool false))]) ∧
 (((Says C 147 [(D.agg [(D.val (vI n10)), (D.val (vI n11))]), (D.agg [(D.val (vI n12)), (D.val (vI n13))])] [(D.val (.bool true))]) ∧
 (k [(D.agg [(D.val (vI n10)), (D.val (vI n11)), (D.val (vI n12)), (D.val (vI n13))]), (D.val (vI (0 : Int)))])) ∨
 ((Says C 147 [(D.agg [(D.val (vI n10)), (D.val (vI n11))]), (D.agg [(D.val (vI n12)), (D.val (vI n13))])] [(D.val (.bool false))]) ∧
 (k [(D.agg [(D.val (vI n10)), (D.val (vI n11)), (D.val (vI n10)), (D.val (vI n11))]), (D.val (vI (0 : Int)))]))))))))) ∨
 ((Says C 147 [(D.agg [(D.val (vI n8)), (D.val (vI n9))]), (D.agg [(D.val (vI n10)), (D.val (vI n11))])] [(D.val (.bool false))]) ∧
 (∃ n12 : Int,
 (∃ n13 : Int,
 ((Says C 82 [(D.val (vI b)), (D.val (vI d)), (D.agg [(D.val (vI g)), (D.val (vI e))])] [(D.agg [(D.val (vI n12)), (D.val (vI n13))])]) ∧
 (((Says C 147 [(D.agg [(D.val (vI n12)), (D.val (vI n13))]), (D.agg [(D.val (vI n10)), (D.val (vI n11))])] [(D.val (.bool true))]) ∧
 (((Says C 147 [(D.agg [(D.val (vI n8)), (D.val (vI n9))]), (D.agg [(D.val (vI n12)), (D.val (vI n13))])] [(D.val (.bool true))]) ∧
 (k [(D.agg [(D.val (vI n12)), (D.val (vI n13)), (D.val (vI n12)), (D.val (vI n13))]), (D.val (vI (0 : Int)))])) ∨
 ((Says C 147 [(D.agg [(D.val (vI n8)), (D.val (vI n9))]), (D.agg [(D.val (vI n12)), (D.val (vI n13))])] [(D.val (.bool false))]) ∧
 (k [(D.agg [(D.val (vI n12)), (D.val (vI n13)), (D.val (vI n8)), (D.val (vI n9))]), (D.val (vI (0 : Int)))])))) ∨
 ((Says C 147 [(D.agg [(D.val (vI n12)), (D.val (vI n13))]), (D.agg [(D.val (vI n10)), (D.val (vI n11))])] [(D.val (.bool false))]) ∧
 (((Says C 147 [(D.agg [(D.val (vI n8)), (D.val (vI n9))]), (D.agg [(D.val (vI n12)), (D.val (vI n13))])] [(D.val (.bool true))]) ∧
 (k [(D.agg [(D.val (vI n10)), (D.val (vI n11)), (D.val (vI n12)), (D.val (vI n13))]), (D.val (vI (0 : Int)))])) ∨
 ((Says C 147 [(D.agg [(D.val (vI n8)), (D.val (vI n9))]), (D.agg [(D.val (vI n12)), (D.val (vI n13))])] [(D.val (.bool false))]) ∧
 (k [(D.agg [(D.val (vI n10)), (D.val (vI n11)), (D.val (vI n8)), (D.val (vI n9))]), (D.val (vI (0 : Int)))]))))))))))) ∨
 ((Says C 147 [(D.agg [(D.val (vI n10)), (D.val (vI n11))]), (D.agg [(D.val (vI n6)), (D.val (vI n7))])] [(D.val (.bool false))]) ∧
 (((Says C 147 [(D.agg [(D.val (vI n8)), (D.val (vI n9))]), (D.agg [(D.val (vI n10)), (D.val (vI n11))])] [(D.val (.bool true))]) ∧
 (∃ n12 : Int,
 (∃ n13 : Int,
 ((Says C 82 [(D.val (vI b)), (D.val (vI d)), (D.agg [(D.val (vI g)), (D.val (vI e))])] [(D.agg [(D.val (vI n12)), (D.val (vI n13))])]) ∧
 (((Says C 147 [(D.agg [(D.val (vI n12)), (D.val (vI n13))]), (D.agg [(D.val (vI n6)), (D.val (vI n7))])] [(D.val (.bool true))]) ∧
 (((Says C 147 [(D.agg [(D.val (vI n10)), (D.val (vI n11))]), (D.agg [(D.val (vI n12)), (D.val (vI n13))])] [(D.val (.bool true))]) ∧
 (k [(D.agg [(D.val (vI n12)), (D.val (vI n13)), (D.val (vI n12)), (D.val (vI n13))]), (D.val (vI (0 : Int)))])) ∨
 ((Says C 147 [(D.agg [(D.val (vI n10)), (D.val (vI n11))]), (D.agg [(D.val (vI n12)), (D.val (vI n13))])] [(D.val (.bool false))]) ∧
 (k [(D.agg [(D.val (vI n12)), (D.val (vI n13)), (D.val (vI n10)), (D.val (vI n11))]), (D.val (vI (0 : Int)))])))) ∨
 ((Says C 147 [(D.agg [(D.val (vI n12)), (D.val (vI n13))]), (D.agg [(D.val (vI n6)), (D.val (vI n7))])] [(D.val (.bool false))]) ∧
 (((Says C 147 [(D.agg [(D.val (vI n10)), (D.val (vI n11))]), (D.agg [(D.val (vI n12)), (D.val (vI n13))])] [(D.val (.bool true))]) ∧
 (k [(D.agg [(D.val (vI n6)), (D.val (vI n7)), (D.val (vI n12)), (D.val (vI n13))]), (D.val (vI (0 : Int)))])) ∨
 ((Says C 147 [(D.agg [(D.val (vI n10)), (D.val (vI n11))]), (D.agg [(D.val (vI n12)), (D.val (vI n13))])] [(D.val (.bool false))]) ∧
 (k [(D.agg [(D.val (vI n6)), (D.val (vI n7)), (D.val (vI n10)), (D.val (vI n11))]), (D.val (vI (0 : Int)))]))))))))) ∨
 ((Says C 147 [(D.agg [(D.val (vI n8)), (D.val (vI n9))]), (D.agg [(D.val (vI n10)), (D.val (vI n11))])] [(D.val (.bool false))]) ∧
 (∃ n12 : Int,
 (∃ n13 : Int,
 ((Says C 82 [(D.val (vI b)), (D.val (vI d)), (D.agg [(D.val (vI g)), (D.val (vI e))])] [(D.agg [(D.val (vI n12)), (D.val (vI n13))])]) ∧
 (((Says C 147 [(D.agg [(D.val (vI n12)), (D.val (vI n13))]), (D.agg [(D.val (vI n6)), (D.val (vI n7))])] [(D.val (.bool true))]) ∧
 (((Says C 147 [(D.agg [(D.val (vI n8)), (D.val (vI n9))]), (D.agg [(D.val (vI n12)), (D.val (vI n13))])] [(D.val (.bool true))]) ∧
 (k [(D.agg [(D.val (vI n12)), (D.val (vI n13)), (D.val (vI n12)), (D.val (vI n13))]), (D.val (vI (0 : Int)))])) ∨
 ((Says C 147 [(D.agg [(D.val (vI n8)), (D.val (vI n9))]), (D.agg [(D.val (vI n12)), (D.val (vI n13))])] [(D.val (.bool false))]) ∧
 (k [(D.agg [(D.val (vI n12)), (D.val (vI n13)), (D.val (vI n8)), (D.val (vI n9))]), (D.val (vI (0 : Int)))])))) ∨
 ((Says C 147 [(D.agg [(D.val (vI n12)), (D.val (vI n13))]), (D.agg [(D.val (vI n6)), (D.val (vI n7))])] [(D.val (.bool false))]) ∧
 (((Says C 147 [(D.agg [(D.val (vI n8)), (D.val (vI n9))]), (D.agg [(D.val (vI n12)), (D.val (vI n13))])] [(D.val (.bool true))]) ∧
 (k [(D.agg [(D.val (vI n6)), (D.val (vI n7)), (D.val (vI n12)), (D.val (vI n13))]), (D.val (vI (0 : Int)))])) ∨
 ((Says C 147 [(D.agg [(D.val (vI n8)), (D.val (vI n9))]), (D.agg [(D.val (vI n12)), (D.val (vI n13))])] [(D.val (.bool false))]) ∧
 (k [(D.agg [(D.val (vI n6)), (D.val (vI n7)), (D.val (vI n8)), (D.val (vI n9))]), (D.val (vI (0 : Int)))])))))))))))))))) ∨
 ((Says C 147 [(D.agg [(D.val (vI n6)), (D.val (vI n7))]), (D.agg [(D.val (vI n8)), (D.val (vI n9))])] [(D.val (.bool false))]) ∧
 (∃ n10 : Int,
 (∃ n11 : Int,
 ((Says C 82 [(D.val (vI b)), (D.val (vI c)), (D.agg [(D.val (vI g)), (D.val (vI e))])] [(D.agg [(D.val (vI n10)), (D.val (vI n11))])]) ∧
 (((Says C 147 [(D.agg [(D.val (vI n10)), (D.val (vI n11))]), (D.agg [(D.val (vI n6)), (D.val (vI n7))])] [(D.val (.bool true))]) ∧
 (((Says C 147 [(D.agg [(D.val (vI n6)), (D.val (vI n7))]), (D.agg [(D.val (vI n10)), (D.val (vI n11))])] [(D.val (.bool true))]) ∧
 (∃ n12 : Int,
 (∃ n13 : Int,
 ((Says C 82 [(D.val (vI b)), (D.val (vI d)), (D.agg [(D.val (vI g)), (D.val (vI e))])] [(D.agg [(D.val (vI n12)), (D.val (vI n13))])]) ∧
 (((Says C 147 [(D.agg [(D.val (vI n12)), (D.val (vI n13))]), (D.agg [(D.val (vI n10)), (D.val (vI n11))])] [(D.val (.bool true))]) ∧
 (((Says C 147 [(D.agg [(D.val (vI n10)), (D.val (vI n11))]), (D.agg [(D.val (vI n12)), (D.val (vI n13))])] [(D.val (.bool true))]) ∧
 (k [(D.agg [(D.val (vI n12)), (D.val (vI n13)), (D.val (vI n12)), (D.val (vI n13))]), (D.val (vI (0 : Int)))])) ∨
 ((Says C 147 [(D.agg [(D.val (vI n10)), (D.val (vI n11))]), (D.agg [(D.val (vI n12)), (D.val (vI n13))])] [(D.val (.bool false))]) ∧
 (k [(D.agg [(D.val (vI n12)), (D.val (vI n13)), (D.val (vI n10)), (D.val (vI n11))]), (D.val (vI (0 : Int)))])))) ∨
 ((Says C 147 [(D.agg [(D.val (vI n12)), (D.val (vI n13))]), (D.agg [(D.val (vI n10)), (D.val (vI n11))])] [(D.val (.bool false))]) ∧
 (((Says C 147 [(D.agg [(D.val (vI n10)), (D.val (vI n11))]), (D.agg [(D.val (vI n12)), (D.val (vI n13))])] [(D.val (.bool true))]) ∧
 (k [(D.agg [(D.val (vI n10)), (D.val (vI n11)), (D.val (vI n12)), (D.val (vI n13))]), (D.val (vI (0 : Int)))])) ∨
 ((Says C 147 [(D.agg [(D.val (vI n10)), (D.val (vI n11))]), (D.agg [(D.val (vI n12)), (D.val (vI n13))])] [(D.val (.bool false))]) ∧
 (k [(D.agg [(D.val (vI n10)), (D.val (vI n11)), (D.val (vI n10)), (D.val (vI n11))]), (D.val (vI (0 : Int)))]))))))))) ∨
 ((Says C 147 [(D.agg [(D.val (vI n6)), (D.val (vI n7))]), (D.agg [(D.val (vI n10)), (D.val (vI n11))])] [(D.val (.bool false))]) ∧
 (∃ n12 : Int,
 (∃ n13 : Int,
 ((Says C 82 [(D.val (vI b)), (D.val (vI d)), (D.agg [(D.val (vI g)), (D.val (vI e))])] [(D.agg [(D.val (vI n12)), (D.val (vI n13))])]) ∧
 (((Says C 147 [(D.agg [(D.val (vI n12)), (D.val (vI n13))]), (D.agg [(D.val (vI n10)), (D.val (vI n11))])] [(D.val (.bool true))]) ∧
 (((Says C 147 [(D.agg [(D.val (vI n6)), (D.val (vI n7))]), (D.agg [(D.val (vI n12)), (D.val (vI n13))])] [(D.val (.bool true))]) ∧
 (k [(D.agg [(D.val (vI n12)), (D.val (vI n13)), (D.val (vI n12)), (D.val (vI n13))]), (D.val (vI (0 : Int)))])) ∨
 ((Says C 147 [(D.agg [(D.val (vI n6)), (D.val (vI n7))]), (D.agg [(D.val (vI n12)), (D.val (vI n13))])] [(D.val (.bool false))]) ∧
 (k [(D.agg [(D.val (vI n12)), (D.val (vI n13)), (D.val (vI n6)), (D.val (vI n7))]), (D.val (vI (0 : Int)))])))) ∨
 ((Says C 147 [(D.agg [(D.val (vI n12)), (D.val (vI n13))]), (D.agg [(D.val (vI n10)), (D.val (vI n11))])] [(D.val (.bool false))]) ∧
 (((Says C 147 [(D.agg [(D.val (vI n6)), (D.val (vI n7))]), (D.agg [(D.val (vI n12)), (D.val (vI n13))])] [(D.val (.bool true))]) ∧
 (k [(D.agg [(D.val (vI n10)), (D.val (vI n11)), (D.val (vI n12)), (D.val (vI n13))]), (D.val (vI (0 : Int)))])) ∨
 ((Says C 147 [(D.agg [(D.val (vI n6)), (D.val (vI n7))]), (D.agg [(D.val (vI n12)), (D.val (vI n13))])] [(D.val (.bool false))]) ∧
 (k [(D.agg [(D.val (vI n10)), (D.val (vI n11)), (D.val (vI n6)), (D.val (vI n7))]), (D.val (vI (0 : Int)))]))))))))))) ∨
 ((Says C 147 [(D.agg [(D.val (vI n10)), (D.val (vI n11))]), (D.agg [(D.val (vI n6)), (D.val (vI n7))])] [(D.val (.bool false))]) ∧
 (((Says C 147 [(D.agg [(D.val (vI n6)), (D.val (vI n7))]), (D.agg [(D.val (vI n10)), (D.val (vI n11))])] [(D.val (.bool true))]) ∧
 (∃ n12 : Int,
 (∃ n13 : Int,
 ((Says C 82 [(D.val (vI b)), (D.val (vI d)), (D.agg [(D.val (vI g)), (D.val (vI e))])] [(D.agg [(D.val (vI n12)), (D.val (vI n13))])]) ∧
 (((Says C 147 [(D.agg [(D.val (vI n12)), (D.val (vI n13))]), (D.agg [(D.val (vI n6)), (D.val (vI n7))])] [(D.val (.bool true))]) ∧
 (((Says C 147 [(D.agg [(D.val (vI n10)), (D.val (vI n11))]), (D.agg [(D.val (vI n12)), (D.val (vI n13))])] [(D.val (.bool true))]) ∧
 (k [(D.agg [(D.val (vI n12)), (D.val (vI n13)), (D.val (vI n12)), (D.val (vI n13))]), (D.val (vI (0 : Int)))])) ∨
 ((Says C 147 [(D.agg [(D.val (vI n10)), (D.val (vI n11))]), (D.agg [(D.val (vI n12)), (D.val (vI n13))])] [(D.val (.bool false))]) ∧
 (k [(D.agg [(D.val (vI n12)), (D.val (vI n13)), (D.val (vI n10)), (D.val (vI n11))]), (D.val (vI (0 : Int)))])))) ∨
 ((Says C 147 [(D.agg [(D.val (vI n12)), (D.val (vI n13))]), (D.agg [(D.val (vI n6)), (D.val (vI n7))])] [(D.val (.bool false))]) ∧
 (((Says C 147 [(D.agg [(D.val (vI n10)), (D.val (vI n11))]), (D.agg [(D.val (vI n12)), (D.val (vI n13))])] [(D.val (.bool true))]) ∧
 (k [(D.agg [(D.val (vI n6)), (D.val (vI n7)), (D.val (vI n12)), (D.val (vI n13))]), (D.val (vI (0 : Int)))])) ∨
 ((Says C 147 [(D.agg [(D.val (vI n10)), (D.val (vI n11))]), (D.agg [(D.val (vI n12)), (D.val (vI n13))])] [(D.val (.bool false))]) ∧
 (k [(D.agg [(D.val (vI n6)), (D.val (vI n7)), (D.val (vI n10)), (D.val (vI n11))]), (D.val (vI (0 : Int)))]))))))))) ∨
 ((Says C 147 [(D.agg [(D.val (vI n6)), (D.val (vI n7))]), (D.agg [(D.val (vI n10)), (D.val (vI n11))])] [(D.val (.bool false))]) ∧
 (∃ n12 : Int,
 (∃ n13 : Int,
 ((Says C 82 [(D.val (vI b)), (D.val (vI d)), (D.agg [(D.val (vI g)), (D.val (vI e))])] [(D.agg [(D.val (vI n12)), (D.val (vI n13))])]) ∧
 (((Says C 147 [(D.agg [(D.val (vI n12)), (D.val (vI n13))]), (D.agg [(D.val (vI n6)), (D.val (vI n7))])] [(D.val (.bool true))]) ∧
 (((Says C 147 [(D.agg [(D.val (vI n6)), (D.val (vI n7))]), (D.agg [(D.val (vI n12)), (D.val (vI n13))])] [(D.val (.bool true))]) ∧
 (k [(D.agg [(D.val (vI n12)), (D.val (vI n13)), (D.val (vI n12)), (D.val (vI n13))]), (D.val (vI (0 : Int)))])) ∨
 ((Says C 147 [(D.agg [(D.val (vI n6)), (D.val (vI n7))]), (D.agg [(D.val (vI n12)), (D.val (vI n13))])] [(D.val (.bool false))]) ∧
 (k [(D.agg [(D.val (vI n12)), (D.val (vI n13)), (D.val (vI n6)), (D.val (vI n7))]), (D.val (vI (0 : Int)))])))) ∨
 ((Says C 147 [(D.agg [(D.val (vI n12)), (D.val (vI n13))]), (D.agg [(D.val (vI n6)), (D.val (vI n7))])] [(D.val (.bool false))]) ∧
 (((Says C 147 [(D.agg [(D.val (vI n6)), (D.val (vI n7))]), (D.agg [(D.val (vI n12)), (D.val (vI n13))])] [(D.val (.bool true))]) ∧
 (k [(D.agg [(D.val (vI n6)), (D.val (vI n7)), (D.val (vI n12)), (D.val (vI n13))]), (D.val (vI (0 : Int)))])) ∨
 ((Says C 147 [(D.agg [(D.val (vI n6)), (D.val (vI n7))]), (D.agg [(D.val (vI n12)), (D.val (vI n13))])] [(D.val (.bool false))]) ∧
 (k [(D.agg [(D.val (vI n6)), (D.val (vI n7)), (D.val (vI n6)), (D.val (vI n7))]), (D.val (vI (0 : Int)))]))))))))))))))))))))))) ∨
 ((Says C 147 [(D.agg [(D.val (vI n4)), (D.val (vI n5))]), (D.agg [(D.val (vI n6)), (D.val (vI n7))])] [(D.val (.bool false))]) ∧
 (∃ n8 : Int,
 (∃ n9 : Int,
 ((Says C 82 [(D.val (vI a)), (D.val (vI d)), (D.agg [(D.val (vI g)), (D.val (vI e))])] [(D.agg [(D.val (vI n8)), (D.val (vI n9))])]) ∧
 (((Says C 147 [(D.agg [(D.val (vI n8)), (D.val (vI n9))]), (D.agg [(D.val (vI n6)), (D.val (vI n7))])] [(D.val (.bool true))]) ∧
 (((Says C 147 [(D.agg [(D.val (vI n4)), (D.val (vI n5))]), (D.agg [(D.val (vI n8)), (D.val (vI n9))])] [(D.val (.bool true))]) ∧
 (∃ n10 : Int,
 (∃ n11 : Int,
 ((Says C 82 [(D.val (vI b)), (D.val (vI c)), (D.agg [(D.val (vI g)), (D.val (vI e))])] [(D.agg [(D.val (vI n10)), (D.val (vI n11))])]) ∧
 (((Says C 147 [(D.agg [(D.val (vI n10)), (D.val (vI n11))]), (D.agg [(D.val (vI n8)), (D.val (vI n9))])] [(D.val (.bool true))]) ∧
 (((Says C 147 [(D.agg [(D.val (vI n8)), (D.val (vI n9))]), (D.agg [(D.val (vI n10)), (D.val (vI n11))])] [(D.val (.bool true))]) ∧
 (∃ n12 : Int,
 (∃ n13 : Int,
 ((Says C 82 [(D.val (vI b)), (D.val (vI d)), (D.agg [(D.val (vI g)), (D.val (vI e))])] [(D.agg [(D.val (vI n12)), (D.val (vI n13))])]) ∧
 (((Says C 147 [(D.agg [(D.val (vI n12)), (D.val (vI n13))]), (D.agg [(D.val (vI n10)), (D.val (vI n11))])] [(D.val (.bool true))]) ∧
 (((Says C 147 [(D.agg [(D.val (vI n10)), (D.val (vI n11))]), (D.agg [(D.val (vI n12)), (D.val (vI n13))])] [(D.val (.bool true))]) ∧
 (k [(D.agg [(D.val (vI n12)), (D.val (vI n13)), (D.val (vI n12)), (D.val (vI n13))]), (D.val (vI (0 : Int)))])) ∨
 ((Says C 147 [(D.agg [(D.val (vI n10)), (D.val (vI n11))]), (D.agg [(D.val (vI n12)), (D.val (vI n13))])] [(D.val (.bool false))]) ∧
 (k [(D.agg [(D.val (vI n12)), (D.val (vI n13)), (D.val (vI n10)), (D.val (vI n11))]), (D.val (vI (0 : Int)))])))) ∨
 ((Says C 147 [(D.agg [(D.val (vI n12)), (D.val (vI n13))]), (D.agg [(D.val (vI n10)), (D.val (vI n11))])] [(D.val (.bool false))]) ∧
 (((Says C 147 [(D.agg [(D.val (vI n10)), (D.val (vI n11))]), (D.agg [(D.val (vI n12)), (D.val (vI n13))])] [(D.val (.bool true))]) ∧
 (k [(D.agg [(D.val (vI n10)), (D.val (vI n11)), (D.val (vI n12)), (D.val (vI n13))]), (D.val (vI (0 : Int)))])) ∨
 ((Says C 147 [(D.agg [(D.val (vI n10)), (D.val (vI n11))]), (D.agg [(D.val (vI n12)), (D.val (vI n13))])] [(D.val (.bool false))]) ∧
 (k [(D.agg [(D.val (vI n10)), (D.val (vI n11)), (D.val (vI n10)), (D.val (vI n11))]), (D.val (vI (0 : Int)))]))))))))) ∨
 ((Says C 147 [(D.agg [(D.val (vI n8)), (D.val (vI n9))]), (D.agg [(D.val (vI n10)), (D.val (vI n11))])] [(D.val (.bool false))]) ∧
 (∃ n12 : Int,
 (∃ n13 : Int,
 ((Says C 82 [(D.val (vI b)), (D.val (vI d)), (D.agg [(D.val (vI g)), (D.val (vI e))])] [(D.agg [(D.val (vI n12)), (D.val (vI n13))])]) ∧
 (((Says C 147 [(D.agg [(D.val (vI n12)), (D.val (vI n13))]), (D.agg [(D.val (vI n10)), (D.val (vI n11))])] [(D.val (.bool true))]) ∧
 (((Says C 147 [(D.agg [(D.val (vI n8)), (D.val (vI n9))]), (D.agg [(D.val (vI n12)), (D.val (vI n13))])] [(D.val (.bool true))]) ∧
 (k [(D.agg [(D.val (vI n12)), (D.val (vI n13)), (D.val (vI n12)), (D.val (vI n13))]), (D.val (vI (0 : Int)))])) ∨
 ((Says C 147 [(D.agg [(D.val (vI n8)), (D.val (vI n9))]), (D.agg [(D.val (vI n12)), (D.val (vI n13))])] [(D.val (.bool false))]) ∧
 (k [(D.agg [(D.val (vI n12)), (D.val (vI n13)), (D.val (vI n8)), (D.val (vI n9))]), (D.val (vI (0 : Int)))])))) ∨
 ((Says C 147 [(D.agg [(D.val (vI n12)), (D.val (vI n13))]), (D.agg [(D.val (vI n10)), (D.val (vI n11))])] [(D.val (.bool false))]) ∧
 (((Says C 147 [(D.agg [(D.val (vI n8)), (D.val (vI n9))]), (D.agg [(D.val (vI n12)), (D.val (vI n13))])] [(D.val (.bool true))]) ∧
 (k [(D.agg [(D.val (vI n10)), (D.val (vI n11)), (D.val (vI n12)), (D.val (vI n13))]), (D.val (vI (0 : Int)))])) ∨
 ((Says C 147 [(D.agg [(D.val (vI n8)), (D.val (vI n9))]), (D.agg [(D.val (vI n12)), (D.val (vI n13))])] [(D.val (.bool false))]) ∧
 (k [(D.agg [(D.val (vI n10)), (D.val (vI n11)), (D.val (vI n8)), (D.val (vI n9))]), (D.val (vI (0 : Int)))]))))))))))) ∨
 ((Says C 147 [(D.agg [(D.val (vI n10)), (D.val (vI n11))]), (D.agg [(D.val (vI n8)), (D.val (vI n9))])] [(D.val (.bool false))]) ∧
 (((Says C 147 [(D.agg [(D.val (vI n8)), (D.val (vI n9))]), (D.agg [(D.val (vI n10)), (D.val (vI n11))])] [(D.val (.bool true))]) ∧
 (∃ n12 : Int,
 (∃ n13 : Int,
 ((Says C 82 [(D.val (vI b)), (D.val (vI d)), (D.agg [(D.val (vI g)), (D.val (vI e))])] [(D.agg [(D.val (vI n12)), (D.val (vI n13))])]) ∧
 (((Says C 147 [(D.agg [(D.val (vI n12)), (D.val (vI n13))]), (D.agg [(D.val (vI n8)), (D.val (vI n9))])] [(D.val (.bool true))]) ∧
 (((Says C 147 [(D.agg [(D.val (vI n10)), (D.val (vI n11))]), (D.agg [(D.val (vI n12)), (D.val (vI n13))])] [(D.val (.bool true))]) ∧
 (k [(D.agg [(D.val (vI n12)), (D.val (vI n13)), (D.val (vI n12)), (D.val (vI n13))]), (D.val (vI (0 : Int)))])) ∨
 ((Says C 147 [(D.agg [(D.val (vI n10)), (D.val (vI n11))]), (D.agg [(D.val (vI n12)), (D.val (vI n13))])] [(D.val (.bool false))]) ∧
 (k [(D.agg [(D.val (vI n12)), (D.val (vI n13)), (D.val (vI n10)), (D.val (vI n11))]), (D.val (vI (0 : Int)))])))) ∨
 ((Says C 147 [(D.agg [(D.val (vI n12)), (D.val (vI n13))]), (D.agg [(D.val (vI n8)), (D.val (vI n9))])] [(D.val (.bool false))]) ∧
 (((Says C 147 [(D.agg [(D.val (vI n10)), (D.val (vI n11))]), (D.agg [(D.val (vI n12)), (D.val (vI n13))])] [(D.val (.bool true))]) ∧
 (k [(D.agg [(D.val (vI n8)), (D.val (vI n9)), (D.val (vI n12)), (D.val (vI n13))]), (D.val (vI (0 : Int)))])) ∨
 ((Says C 147 [(D.agg [(D.val (vI n10)), (D.val (vI n11))]), (D.agg [(D.val (vI n12)), (D.val (vI n13))])] [(D.val (.bool false))]) ∧
 (k [(D.agg [(D.val (vI n8)), (D.val (vI n9)), (D.val (vI n10)), (D.val (vI n11))]), (D.val (vI (0 : Int)))]))))))))) ∨
 ((Says C 147 [(D.agg [(D.val (vI n8)), (D.val (vI n9))]), (D.agg [(D.val (vI n10)), (D.val (vI n11))])] [(D.val (.bool false))]) ∧
 (∃ n12 : Int,
 (∃ n13 : Int,
 ((Says C 82 [(D.val (vI b)), (D.val (vI d)), (D.agg [(D.val (vI g)), (D.val (vI e))])] [(D.agg [(D.val (vI n12)), (D.val (vI n13))])]) ∧
 (((Says C 147 [(D.agg [(D.val (vI n12)), (D.val (vI n13))]), (D.agg [(D.val (vI n8)), (D.val (vI n9))])] [(D.val (.bool true))]) ∧
 (((Says C 147 [(D.agg [(D.val (vI n8)), (D.val (vI n9))]), (D.agg [(D.val (vI n12)), (D.val (vI n13))])] [(D.val (.bool true))]) ∧
 (k [(D.agg [(D.val (vI n12)), (D.val (vI n13)), (D.val (vI n12)), (D.val (vI n13))]), (D.val (vI (0 : Int)))])) ∨
 ((Says C 147 [(D.agg [(D.val (vI n8)), (D.val (vI n9))]), (D.agg [(D.val (vI n12)), (D.val (vI n13))])] [(D.val (.bool false))]) ∧
 (k [(D.agg [(D.val (vI n12)), (D.val (vI n13)), (D.val (vI n8)), (D.val (vI n9))]), (D.val (vI (0 : Int)))])))) ∨
 ((Says C 147 [(D.agg [(D.val (vI n12)), (D.val (vI n13))]), (D.agg [(D.val (vI n8)), (D.val (vI n9))])] [(D.val (.bool false))]) ∧
 (((Says C 147 [(D.agg [(D.val (vI n8)), (D.val (vI n9))]), (D.agg [(D.val (vI n12)), (D.val (vI n13))])] [(D.val (.bool true))]) ∧
 (k [(D.agg [(D.val (vI n8)), (D.val (vI n9)), (D.val (vI n12)), (D.val (vI n13))]), (D.val (vI (0 : Int)))])) ∨
 ((Says C 147 [(D.agg [(D.val (vI n8)), (D.val (vI n9))]), (D.agg [(D.val (vI n12)), (D.val (vI n13))])] [(D.val (.bool false))]) ∧
 (k [(D.agg [(D.val (vI n8)), (D.val (vI n9)), (D.val (vI n8)), (D.val (vI n9))]), (D.val (vI (0 : Int)))])))))))))))))))) ∨
 ((Says C 147 [(D.agg [(D.val (vI n4)), (D.val (vI n5))]), (D.agg [(D.val (vI n8)), (D.val (vI n9))])] [(D.val (.bool false))]) ∧
 (∃ n10 : Int,
 (∃ n11 : Int,
 ((Says C 82 [(D.val (vI b)), (D.val (vI c)), (D.agg [(D.val (vI g)), (D.val (vI e))])] [(D.agg [(D.val (vI n10)), (D.val (vI n11))])]) ∧
 (((Says C 147 [(D.agg [(D.val (vI n10)), (D.val (vI n11))]), (D.agg [(D.val (vI n8)), (D.val (vI n9))])] [(D.val (.bool true))]) ∧
 (((Says C 147 [(D.agg [(D.val (vI n4)), (D.val (vI n5))]), (D.agg [(D.val (vI n10)), (D.val (vI n11))])] [(D.val (.bool true))]) ∧
 (∃ n12 : Int,
 (∃ n13 : Int,
 ((Says C 82 [(D.val (vI b)), (D.val (vI d)), (D.agg [(D.val (vI g)), (D.val (vI e))])] [(D.agg [(D.val (vI n12)), (D.val (vI n13))])]) ∧
 (((Says C 147 [(D.agg [(D.val (vI n12)), (D.val (vI n13))]), (D.agg [(D.val (vI n10)), (D.val (vI n11))])] [(D.val (.bool true))]) ∧
 (((Says C 147 [(D.agg [(D.val (vI n10)), (D.val (vI n11))]), (D.agg [(D.val (vI n12)), (D.val (vI n13))])] [(D.val (.bool true))]) ∧
 (k [(D.agg [(D.val (vI n12)), (D.val (vI n13)), (D.val (vI n12)), (D.val (vI n13))]), (D.val (vI (0 : Int)))])) ∨
 ((Says C 147 [(D.agg [(D.val (vI n10)), (D.val (vI n11))]), (D.agg [(D.val (vI n12)), (D.val (vI n13))])] [(D.val (.bool false))]) ∧
 (k [(D.agg [(D.val (vI n12)), (D.val (vI n13)), (D.val (vI n10)), (D.val (vI n11))]), (D.val (vI (0 : Int)))])))) ∨
 ((Says C 147 [(D.agg [(D.val (vI n12)), (D.val (vI n13))]), (D.agg [(D.val (vI n10)), (D.val (vI n11))])] [(D.val (.bool false))]) ∧
 (((Says C 147 [(D.agg [(D.val (vI n10)), (D.val (vI n11))]), (D.agg [(D.val (vI n12)), (D.val (vI n13))])] [(D.val (.bool true))]) ∧
 (k [(D.agg [(D.val (vI n10)), (D.val (vI n11)), (D.val (vI n12)), (D.val (vI n13))]), (D.val (vI (0 : Int)))])) ∨
 ((Says C 147 [(D.agg [(D.val (vI n10)), (D.val (vI n11))]), (D.agg [(D.val (vI n12)), (D.val (vI n13))])] [(D.val (.bool false))]) ∧
 (k [(D.agg [(D.val (vI n10)), (D.val (vI n11)), (D.val (vI n10)), (D.val (vI n11))]), (D.val (vI (0 : Int)))]))))))))) ∨
 ((Says C 147 [(D.agg [(D.val (vI n4)), (D.val (vI n5))]), (D.agg [(D.val (vI n10)), (D.val (vI n11))])] [(D.val (.bool false))]) ∧
 (∃ n12 : Int,
 (∃ n13 : Int,
 ((Says C 82 [(D.val (vI b)), (D.val (vI d)), (D.agg [(D.val (vI g)), (D.val (vI e))])] [(D.agg [(D.val (vI n12)), (D.val (vI n13))])]) ∧
 (((Says C 147 [(D.agg [(D.val (vI n12)), (D.val (vI n13))]), (D.agg [(D.val (vI n10)), (D.val (vI n11))])] [(D.val (.bool true))]) ∧
 (((Says C 147 [(D.agg [(D.val (vI n4)), (D.val (vI n5))]), (D.agg [(D.val (vI n12)), (D.val (vI n13))])] [(D.val (.bool true))]) ∧
 (k [(D.agg [(D.val (vI n12)), (D.val (vI n13)), (D.val (vI n12)), (D.val (vI n13))]), (D.val (vI (0 : Int)))])) ∨
 ((Says C 147 [(D.agg [(D.val (vI n4)), (D.val (vI n5))]), (D.agg [(D.val (vI n12)), (D.val (vI n13))])] [(D.val (.bool false))]) ∧
 (k [(D.agg [(D.val (vI n12)), (D.val (vI n13)), (D.val (vI n4)), (D.val (vI n5))]), (D.val (vI (0 : Int)))])))) ∨
 ((Says C 147 [(D.agg [(D.val (vI n12)), (D.val (vI n13))]), (D.agg [(D.val (vI n10)), (D.val (vI n11))])] [(D.val (.bool false))]) ∧
 (((Says C 147 [(D.agg [(D.val (vI n4)), (D.val (vI n5))]), (D.agg [(D.val (vI n12)), (D.val (vI n13))])] [(D.val (.bool true))]) ∧
 (k [(D.agg [(D.val (vI n10)), (D.val (vI n11)), (D.val (vI n12)), (D.val (vI n13))]), (D.val (vI (0 : Int)))])) ∨
 ((Says C 147 [(D.agg [(D.val (vI n4)), (D.val (vI n5))]), (D.agg [(D.val (vI n12)), (D.val (vI n13))])] [(D.val (.bool false))]) ∧
 (k [(D.agg [(D.val (vI n10)), (D.val (vI n11)), (D.val (vI n4)), (D.val (vI n5))]), (D.val (vI (0 : Int)))]))))))))))) ∨
 ((Says C 147 [(D.agg [(D.val (vI n10)), (D.val (vI n11))]), (D.agg [(D.val (vI n8)), (D.val (vI n9))])] [(D.val (.bool false))]) ∧
 (((Says C 147 [(D.agg [(D.val (vI n4)), (D.val (vI n5))]), (D.agg [(D.val (vI n10)), (D.val (vI n11))])] [(D.val (.bool true))]) ∧
 (∃ n12 : Int,
 (∃ n13 : Int,
 ((Says C 82 [(D.val (vI b)), (D.val (vI d)), (D.agg [(D.val (vI g)), (D.val (vI e))])] [(D.agg [(D.val (vI n12)), (D.val (vI n13))])]) ∧
 (((Says C 147 [(D.agg [(D.val (vI n12)), (D.val (vI n13))]), (D.agg [(D.val (vI n8)), (D.val (vI n9))])] [(D.val (.bool true))]) ∧
 (((Says C 147 [(D.agg [(D.val (vI n10)), (D.val (vI n11))]), (D.agg [(D.val (vI n12)), (D.val (vI n13))])] [(D.val (.bool true))]) ∧
 (k [(D.agg [(D.val (vI n12)), (D.val (vI n13)), (D.val (vI n12)), (D.val (vI n13))]), (D.val (vI (0 : Int)))])) ∨
 ((Says C 147 [(D.agg [(D.val (vI n10)), (D.val (vI n11))]), (D.agg [(D.val (vI n12)), (D.val (vI n13))])] [(D.val (.bool false))]) ∧
 (k [(D.agg [(D.val (vI n12)), (D.val (vI n13)), (D.val (vI n10)), (D.val (vI n11))]), (D.val (vI (0 : Int)))])))) ∨
 ((Says C 147 [(D.agg [(D.val (vI n12)), (D.val (vI n13))]), (D.agg [(D.val (vI n8)), (D.val (vI n9))])] [(D.val (.bool false))]) ∧
 (((Says C 147 [(D.agg [(D.val (vI n10)), (D.val (vI n11))]), (D.agg [(D.val (vI n12)), (D.val (vI n13))])] [(D.val (.bool true))]) ∧
 (k [(D.agg [(D.val (vI n8)), (D.val (vI n9)), (D.val (vI n12)), (D.val (vI n13))]), (D.val (vI (0 : Int)))])) ∨
 ((Says C 147 [(D.agg [(D.val (vI n10)), (D.val (vI n11))]), (D.agg [(D.val (vI n12)), (D.val (vI n13))])] [(D.val (.bool false))]) ∧
 (k [(D.agg [(D.val (vI n8)), (D.val (vI n9)), (D.val (vI n10)), (D.val (vI n11))]), (D.val (vI (0 : Int)))]))))))))) ∨
 ((Says C 147 [(D.agg [(D.val (vI n4)), (D.val (vI n5))]), (D.agg [(D.val (vI n10)), (D.val (vI n11))])] [(D.val (.bool false))]) ∧
 (∃ n12 : Int,
 (∃ n13 : Int,
 ((Says C 82 [(D.val (vI b)), (D.val (vI d)), (D.agg [(D.val (vI g)), (D.val (vI e))])] [(D.agg [(D.val (vI n12)), (D.val (vI n13))])]) ∧
 (((Says C 147 [(D.agg [(D.val (vI n12)), (D.val (vI n13))]), (D.agg [(D.val (vI n8)), (D.val (vI n9))])] [(D.val (.bool true))]) ∧
 (((Says C 147 [(D.agg [(D.val (vI n4)), (D.val (vI n5))]), (D.agg [(D.val (vI n12)), (D.val (vI n13))])] [(D.val (.bool true))]) ∧
 (k [(D.agg [(D.val (vI n12)), (D.val (vI n13)), (D.val (vI n12)), (D.val (vI n13))]), (D.val (vI (0 : Int)))])) ∨
 ((Says C 147 [(D.agg [(D.val (vI n4)), (D.val (vI n5))]), (D.agg [(D.val (vI n12)), (D.val (vI n13))])] [(D.val (.bool false))]) ∧
 (k [(D.agg [(D.val (vI n12)), (D.val (vI n13)), (D.val (vI n4)), (D.val (vI n5))]), (D.val (vI (0 : Int)))])))) ∨
 ((Says C 147 [(D.agg [(D.val (vI n12)), (D.val (vI n13))]), (D.agg [(D.val (vI n8)), (D.val (vI n9))])] [(D.val (.bool false))]) ∧
 (((Says C 147 [(D.agg [(D.val (vI n4)), (D.val (vI n5))]), (D.agg [(D.val (vI n12)), (D.val (vI n13))])] [(D.val (.bool true))]) ∧
 (k [(D.agg [(D.val (vI n8)), (D.val (vI n9)), (D.val (vI n12)), (D.val (vI n13))]), (D.val (vI (0 : Int)))])) ∨
 ((Says C 147 [(D.agg [(D.val (vI n4)), (D.val (vI n5))]), (D.agg [(D.val (vI n12)), (D.val (vI n13))])] [(D.val (.bool false))]) ∧
 (k [(D.agg [(D.val (vI n8)), (D.val (vI n9)), (D.val (vI n4)), (D.val (vI n5))]), (D.val (vI (0 : Int)))])))))))))))))))))) ∨
 ((Says C 147 [(D.agg [(D.val (vI n8)), (D.val (vI n9))]), (D.agg [(D.val (vI n6)), (D.val (vI n7))])] [(D.val (.bool false))]) ∧
 (((Says C 147 [(D.agg [(D.val (vI n4)), (D.val (vI n5))]), (D.agg [(D.val (vI n8)), (D.val (vI n9))])] [(D.val (.bool true))]) ∧
 (∃ n10 : Int,
 (∃ n11 : Int,
 ((Says C 82 [(D.val (vI b)), (D.val (vI c)), (D.agg [(D.val (vI g)), (D.val (vI e))])] [(D.agg [(D.val (vI n10)), (D.val (vI n11))])]) ∧
 (((Says C 147 [(D.agg [(D.val (vI n10)), (D.val (vI n11))]), (D.agg [(D.val (vI n6)), (D.val (vI n7))])] [(D.val (.bool true))]) ∧
 (((Says C 147 [(D.agg [(D.val (vI n8)), (D.val (vI n9))]), (D.agg [(D.val (vI n10)), (D.val (vI n11))])] [(D.val (.bool true))]) ∧
 (∃ n12 : Int,
 (∃ n13 : Int,
 ((Says C 82 [(D.val (vI b)), (D.val (vI d)), (D.agg [(D.val (vI g)), (D.val (vI e))])] [(D.agg [(D.val (vI n12)), (D.val (vI n13))])]) ∧
 (((Says C 147 [(D.agg [(D.val (vI n12)), (D.val (vI n13))]), (D.agg [(D.val (vI n10)), (D.val (vI n11))])] [(D.val (.bool true))]) ∧
 (((Says C 147 [(D.agg [(D.val (vI n10)), (D.val (vI n11))]), (D.agg [(D.val (vI n12)), (D.val (vI n13))])] [(D.val (.bool true))]) ∧
 (k [(D.agg [(D.val (vI n12)), (D.val (vI n13)), (D.val (vI n12)), (D.val (vI n13))]), (D.val (vI (0 : Int)))])) ∨
 ((Says C 147 [(D.agg [(D.val (vI n10)), (D.val (vI n11))]), (D.agg [(D.val (vI n12)), (D.val (vI n13))])] [(D.val (.bool false))]) ∧
 (k [(D.agg [(D.val (vI n12)), (D.val (vI n13)), (D.val (vI n10)), (D.val (vI n11))]), (D.val (vI (0 : Int)))])))) ∨
 ((Says C 147 [(D.agg [(D.val (vI n12)), (D.val (vI n13))]), (D.agg [(D.val (vI n10)), (D.val (vI n11))])] [(D.val (.bool false))]) ∧
 (((Says C 147 [(D.agg [(D.val (vI n10)), (D.val (vI n11))]), (D.agg [(D.val (vI n12)), (D.val (vI n13))])] [(D.val (.bool true))]) ∧
 (k [(D.agg [(D.val (vI n10)), (D.val (vI n11)), (D.val (vI n12)), (D.val (vI n13))]), (D.val (vI (0 : Int)))])) ∨
 ((Says C 147 [(D.agg [(D.val (vI n10)), (D.val (vI n11))]), (D.agg [(D.val (vI n12)), (D.val (vI n13))])] [(D.val (.bool false))]) ∧
 (k [(D.agg [(D.val (vI n10)), (D.val (vI n11)), (D.val (vI n10)), (D.val (vI n11))]), (D.val (vI (0 : Int)))]))))))))) ∨
 ((Says C 147 [(D.agg [(D.val (vI n8)), (D.val (vI n9))]), (D.agg [(D.val (vI n10)), (D.val (vI n11))])] [(D.val (.bool false))]) ∧
 (∃ n12 : Int,
 (∃ n13 : Int,
 ((Says C 82 [(D.val (vI b)), (D.val (vI d)), (D.agg [(D.val (vI g)), (D.val (vI e))])] [(D.agg [(D.val (vI n12)), (D.val (vI n13))])]) ∧
 (((Says C 147 [(D.agg [(D.val (vI n12)), (D.val (vI n13))]), (D.agg [(D.val (vI n10)), (D.val (vI n11))])] [(D.val (.bool true))]) ∧
 (((Says C 147 [(D.agg [(D.val (vI n8)), (D.val (vI n9))]), (D.agg [(D.val (vI n12)), (D.val (vI n13))])] [(D.val (.bool true))]) ∧
 (k [(D.agg [(D.val (vI n12)), (D.val (vI n13)), (D.val (vI n12)), (D.val (vI n13))]), (D.val (vI (0 : Int)))])) ∨
 ((Says C 147 [(D.agg [(D.val (vI n8)), (D.val (vI n9))]), (D.agg [(D.val (vI n12)), (D.val (vI n13))])] [(D.val (.bool false))]) ∧
 (k [(D.agg [(D.val (vI n12)), (D.val (vI n13)), (D.val (vI n8)), (D.val (vI n9))]), (D.val (vI (0 : Int)))])))) ∨
 ((Says C 147 [(D.agg [(D.val (vI n12)), (D.val (vI n13))]), (D.agg [(D.val (vI n10)), (D.val (vI n11))])] [(D.val (.bool false))]) ∧
 (((Says C 147 [(D.agg [(D.val (vI n8)), (D.val (vI n9))]), (D.agg [(D.val (vI n12)), (D.val (vI n13))])] [(D.val (.bool true))]) ∧
 (k [(D.agg [(D.val (vI n10)), (D.val (vI n11)), (D.val (vI n12)), (D.val (vI n13))]), (D.val (vI (0 : Int)))])) ∨
 ((Says C 147 [(D.agg [(D.val (vI n8)), (D.val (vI n9))]), (D.agg [(D.val (vI n12)), (D.val (vI n13))])] [(D.val (.bool false))]) ∧
 (k [(D.agg [(D.val (vI n10)), (D.val (vI n11)), (D.val (vI n8)), (D.val (vI n9))]), (D.val (vI (0 : Int)))]))))))))))) ∨
 ((Says C 147 [(D.agg [(D.val (vI n10)), (D.val (vI n11))]), (D.agg [(D.val (vI n6)), (D.val (vI n7))])] [(D.val (.bool false))]) ∧
 (((Says C 147 [(D.agg [(D.val (vI n8)), (D.val (vI n9))]), (D.agg [(D.val (vI n10)), (D.val (vI n11))])] [(D.val (.bool true))]) ∧
 (∃ n12 : Int,
 (∃ n13 : Int,
 ((Says C 82 [(D.val (vI b)), (D.val (vI d)), (D.agg [(D.val (vI g)), (D.val (vI e))])] [(D.agg [(D.val (vI n12)), (D.val (vI n13))])]) ∧
 (((Says C 147 [(D.agg [(D.val (vI n12)), (D.val (vI n13))]), (D.agg [(D.val (vI n6)), (D.val (vI n7))])] [(D.val (.bool true))]) ∧
 (((Says C 147 [(D.agg [(D.val (vI n10)), (D.val (vI n11))]), (D.agg [(D.val (vI n12)), (D.val (vI n13))])] [(D.val (.bool true))]) ∧
 (k [(D.agg [(D.val (vI n12)), (D.val (vI n13)), (D.val (vI n12)), (D.val (vI n13))]), (D.val (vI (0 : Int)))])) ∨
 ((Says C 147 [(D.agg [(D.val (vI n10)), (D.val (vI n11))]), (D.agg [(D.val (vI n12)), (D.val (vI n13))])] [(D.val (.bool false))]) ∧
 (k [(D.agg [(D.val (vI n12)), (D.val (vI n13)), (D.val (vI n10)), (D.val (vI n11))]), (D.val (vI (0 : Int)))])))) ∨
 ((Says C 147 [(D.agg [(D.val (vI n12)), (D.val (vI n13))]), (D.agg [(D.val (vI n6)), (D.val (vI n7))])] [(D.val (.bool false))]) ∧
 (((Says C 147 [(D.agg [(D.val (vI n10)), (D.val (vI n11))]), (D.agg [(D.val (vI n12)), (D.val (vI n13))])] [(D.val (.bool true))]) ∧
 (k [(D.agg [(D.val (vI n6)), (D.val (vI n7)), (D.val (vI n12)), (D.val (vI n13))]), (D.val (vI (0 : Int)))])) ∨
 ((Says C 147 [(D.agg [(D.val (vI n10)), (D.val (vI n11))]), (D.agg [(D.val (vI n12)), (D.val (vI n13))])] [(D.val (.bool false))]) ∧
 (k [(D.agg [(D.val (vI n6)), (D.val (vI n7)), (D.val (vI n10)), (D.val (vI n11))]), (D.val (vI (0 : Int)))]))))))))) ∨
 ((Says C 147 [(D.agg [(D.val (vI n8)), (D.val (vI n9))]), (D.agg [(D.val (vI n10)), (D.val (vI n11))])] [(D.val (.bool false))]) ∧
 (∃ n12 : Int,
 (∃ n13 : Int,
 ((Says C 82 [(D.val (vI b)), (D.val (vI d)), (D.agg [(D.val (vI g)), (D.val (vI e))])] [(D.agg [(D.val (vI n12)), (D.val (vI n13))])]) ∧
 (((Says C 147 [(D.agg [(D.val (vI n12)), (D.val (vI n13))]), (D.agg [(D.val (vI n6)), (D.val (vI n7))])] [(D.val (.bool true))]) ∧
 (((Says C 147 [(D.agg [(D.val (vI n8)), (D.val (vI n9))]), (D.agg [(D.val (vI n12)), (D.val (vI n13))])] [(D.val (.bool true))]) ∧
 (k [(D.agg [(D.val (vI n12)), (D.val (vI n13)), (D.val (vI n12)), (D.val (vI n13))]), (D.val (vI (0 : Int)))])) ∨
 ((Says C 147 [(D.agg [(D.val (vI n8)), (D.val (vI n9))]), (D.agg [(D.val (vI n12)), (D.val (vI n13))])] [(D.val (.bool false))]) ∧
 (k [(D.agg [(D.val (vI n12)), (D.val (vI n13)), (D.val (vI n8)), (D.val (vI n9))]), (D.val (vI (0 : Int)))])))) ∨
 ((Says C 147 [(D.agg [(D.val (vI n12)), (D.val (vI n13))]), (D.agg [(D.val (vI n6)), (D.val (vI n7))])] [(D.val (.bool false))]) ∧
 (((Says C 147 [(D.agg [(D.val (vI n8)), (D.val (vI n9))]), (D.agg [(D.val (vI n12)), (D.val (vI n13))])] [(D.val (.bool true))]) ∧
 (k [(D.agg [(D.val (vI n6)), (D.val (vI n7)), (D.val (vI n12)), (D.val (vI n13))]), (D.val (vI (0 : Int)))])) ∨
 ((Says C 147 [(D.agg [(D.val (vI n8)), (D.val (vI n9))]), (D.agg [(D.val (vI n12)), (D.val (vI n13))])] [(D.val (.bool false))]) ∧
 (k [(D.agg [(D.val (vI n6)), (D.val (vI n7)), (D.val (vI n8)), (D.val (vI n9))]), (D.val (vI (0 : Int)))])))))))))))))))) ∨
 ((Says C 147 [(D.agg [(D.val (vI n4)), (D.val (vI n5))]), (D.agg [(D.val (vI n8)), (D.val (vI n9))])] [(D.val (.bool false))]) ∧
 (∃ n10 : Int,
 (∃ n11 : Int,
 ((Says C 82 [(D.val (vI b)), (D.val (vI c)), (D.agg [(D.val (vI g)), (D.val (vI e))])] [(D.agg [(D.val (vI n10)), (D.val (vI n11))])]) ∧
 (((Says C 147 [(D.agg [(D.val (vI n10)), (D.val (vI n11))]), (D.agg [(D.val (vI n6)), (D.val (vI n7))])] [(D.val (.bool true))]) ∧
 (((Says C 147 [(D.agg [(D.val (vI n4)), (D.val (vI n5))]), (D.agg [(D.val (vI n10)), (D.val (vI n11))])] [(D.val (.bool true))]) ∧
 (∃ n12 : Int,
 (∃ n13 : Int,
 ((Says C 82 [(D.val (vI b)), (D.val (vI d)), (D.agg [(D.val (vI g)), (D.val (vI e))])] [(D.agg [(D.val (vI n12)), (D.val (vI n13))])]) ∧
 (((Says C 147 [(D.agg [(D.val (vI n12)), (D.val (vI n13))]), (D.agg [(D.val (vI n10)), (D.val (vI n11))])] [(D.val (.bool true))]) ∧
 (((Says C 147 [(D.agg [(D.val (vI n10)), (D.val (vI n11))]), (D.agg [(D.val (vI n12)), (D.val (vI n13))])] [(D.val (.bool true))]) ∧
 (k [(D.agg [(D.val (vI n12)), (D.val (vI n13)), (D.val (vI n12)), (D.val (vI n13))]), (D.val (vI (0 : Int)))])) ∨
 ((Says C 147 [(D.agg [(D.val (vI n10)), (D.val (vI n11))]), (D.agg [(D.val (vI n12)), (D.val (vI n13))])] [(D.val (.bool false))]) ∧
 (k [(D.agg [(D.val (vI n12)), (D.val (vI n13)), (D.val (vI n10)), (D.val (vI n11))]), (D.val (vI (0 : Int)))])))) ∨
 ((Says C 147 [(D.agg [(D.val (vI n12)), (D.val (vI n13))]), (D.agg [(D.val (vI n10)), (D.val (vI n11))])] [(D.val (.bool false))]) ∧
 (((Says C 147 [(D.agg [(D.val (vI n10)), (D.val (vI n11))]), (D.agg [(D.val (vI n12)), (D.val (vI n13))])] [(D.val (.bool true))]) ∧
 (k [(D.agg [(D.val (vI n10)), (D.val (vI n11)), (D.val (vI n12)), (D.val (vI n13))]), (D.val (vI (0 : Int)))])) ∨
 ((Says C 147 [(D.agg [(D.val (vI n10)), (D.val (vI n11))]), (D.agg [(D.val (vI n12)), (D.val (vI n13))])] [(D.val (.bool false))]) ∧
 (k [(D.agg [(D.val (vI n10)), (D.val (vI n11)), (D.val (vI n10)), (D.val (vI n11))]), (D.val (vI (0 : Int)))]))))))))) ∨
 ((Says C 147 [(D.agg [(D.val (vI n4)), (D.val (vI n5))]), (D.agg [(D.val (vI n10)), (D.val (vI n11))])] [(D.val (.bool false))]) ∧
 (∃ n12 : Int,
 (∃ n13 : Int,
 ((Says C 82 [(D.val (vI b)), (D.val (vI d)), (D.agg [(D.val (vI g)), (D.val (vI e))])] [(D.agg [(D.val (vI n12)), (D.val (vI n13))])]) ∧
 (((Says C 147 [(D.agg [(D.val (vI n12)), (D.val (vI n13))]), (D.agg [(D.val (vI n10)), (D.val (vI n11))])] [(D.val (.bool true))]) ∧
 (((Says C 147 [(D.agg [(D.val (vI n4)), (D.val (vI n5))]), (D.agg [(D.val (vI n12)), (D.val (vI n13))])] [(D.val (.bool true))]) ∧
 (k [(D.agg [(D.val (vI n12)), (D.val (vI n13)), (D.val (vI n12)), (D.val (vI n13))]), (D.val (vI (0 : Int)))])) ∨
 ((Says C 147 [(D.agg [(D.val (vI n4)), (D.val (vI n5))]), (D.agg [(D.val (vI n12)), (D.val (vI n13))])] [(D.val (.bool false))]) ∧
 (k [(D.agg [(D.val (vI n12)), (D.val (vI n13)), (D.val (vI n4)), (D.val (vI n5))]), (D.val (vI (0 : Int)))])))) ∨
 ((Says C 147 [(D.agg [(D.val (vI n12)), (D.val (vI n13))]), (D.agg [(D.val (vI n10)), (D.val (vI n11))])] [(D.val (.bool false))]) ∧
 (((Says C 147 [(D.agg [(D.val (vI n4)), (D.val (vI n5))]), (D.agg [(D.val (vI n12)), (D.val (vI n13))])] [(D.val (.bool true))]) ∧
 (k [(D.agg [(D.val (vI n10)), (D.val (vI n11)), (D.val (vI n12)), (D.val (vI n13))]), (D.val (vI (0 : Int)))])) ∨
 ((Says C 147 [(D.agg [(D.val (vI n4)), (D.val (vI n5))]), (D.agg [(D.val (vI n12)), (D.val (vI n13))])] [(D.val (.bool false))]) ∧
 (k [(D.agg [(D.val (vI n10)), (D.val (vI n11)), (D.val (vI n4)), (D.val (vI n5))]), (D.val (vI (0 : Int)))]))))))))))) ∨
 ((Says C 147 [(D.agg [(D.val (vI n10)), (D.val (vI n11))]), (D.agg [(D.val (vI n6)), (D.val (vI n7))])] [(D.val (.bool false))]) ∧
 (((Says C 147 [(D.agg [(D.val (vI n4)), (D.val (vI n5))]), (D.agg [(D.val (vI n10)), (D.val (vI n11))])] [(D.val (.bool true))]) ∧
 (∃ n12 : Int,
 (∃ n13 : Int,
 ((Says C 82 [(D.val (vI b)), (D.val (vI d)), (D.agg [(D.val (vI g)), (D.val (vI e))])] [(D.agg [(D.val (vI n12)), (D.val (vI n13))])]) ∧
 (((Says C 147 [(D.agg [(D.val (vI n12)), (D.val (vI n13))]), (D.agg [(D.val (vI n6)), (D.val (vI n7))])] [(D.val (.bool true))]) ∧
 (((Says C 147 [(D.agg [(D.val (vI n10)), (D.val (vI n11))]), (D.agg [(D.val (vI n12)), (D.val (vI n13))])] [(D.val (.bool true))]) ∧
 (k [(D.agg [(D.val (vI n12)), (D.val (vI n13)), (D.val (vI n12)), (D.val (vI n13))]), (D.val (vI (0 : Int)))])) ∨
 ((Says C 147 [(D.agg [(D.val (vI n10)), (D.val (vI n11))]), (D.agg [(D.val (vI n12)), (D.val (vI n13))])] [(D.val (.bool false))]) ∧
 (k [(D.agg [(D.val (vI n12)), (D.val (vI n13)), (D.val (vI n10)), (D.val (vI n11))]), (D.val (vI (0 : Int)))])))) ∨
 ((Says C 147 [(D.agg [(D.val (vI n12)), (D.val (vI n13))]), (D.agg [(D.val (vI n6)), (D.val (vI n7))])] [(D.val (.bool false))]) ∧
 (((Says C 147 [(D.agg [(D.val (vI n10)), (D.val (vI n11))]), (D.agg [(D.val (vI n12)), (D.val (vI n13))])] [(D.val (.bool true))]) ∧
 (k [(D.agg [(D.val (vI n6)), (D.val (vI n7)), (D.val (vI n12)), (D.val (vI n13))]), (D.val (vI (0 : Int)))])) ∨
 ((Says C 147 [(D.agg [(D.val (vI n10)), (D.val (vI n11))]), (D.agg [(D.val (vI n12)), (D.val (vI n13))])] [(D.val (.bool false))]) ∧
 (k [(D.agg [(D.val (vI n6)), (D.val (vI n7)), (D.val (vI n10)), (D.val (vI n11))]), (D.val (vI (0 : Int)))]))))))))) ∨
 ((Says C 147 [(D.agg [(D.val (vI n4)), (D.val (vI n5))]), (D.agg [(D.val (vI n10)), (D.val (vI n11))])] [(D.val (.bool false))]) ∧
 (∃ n12 : Int,
 (∃ n13 : Int,
 ((Says C 82 [(D.val (vI b)), (D.val (vI d)), (D.agg [(D.val (vI g)), (D.val (vI e))])] [(D.agg [(D.val (vI n12)), (D.val (vI n13))])]) ∧
 (((Says C 147 [(D.agg [(D.val (vI n12)), (D.val (vI n13))]), (D.agg [(D.val (vI n6)), (D.val (vI n7))])] [(D.val (.bool true))]) ∧
 (((Says C 147 [(D.agg [(D.val (vI n4)), (D.val (vI n5))]), (D.agg [(D.val (vI n12)), (D.val (vI n13))])] [(D.val (.bool true))]) ∧
 (k [(D.agg [(D.val (vI n12)), (D.val (vI n13)), (D.val (vI n12)), (D.val (vI n13))]), (D.val (vI (0 : Int)))])) ∨
 ((Says C 147 [(D.agg [(D.val (vI n4)), (D.val (vI n5))]), (D.agg [(D.val (vI n12)), (D.val (vI n13))])] [(D.val (.bool false))]) ∧
 (k [(D.agg [(D.val (vI n12)), (D.val (vI n13)), (D.val (vI n4)), (D.val (vI n5))]), (D.val (vI (0 : Int)))])))) ∨
 ((Says C 147 [(D.agg [(D.val (vI n12)), (D.val (vI n13))]), (D.agg [(D.val (vI n6)), (D.val (vI n7))])] [(D.val (.bool false))]) ∧
 (((Says C 147 [(D.agg [(D.val (vI n4)), (D.val (vI n5))]), (D.agg [(D.val (vI n12)), (D.val (vI n13))])] [(D.val (.bool true))]) ∧
 (k [(D.agg [(D.val (vI n6)), (D.val (vI n7)), (D.val (vI n12)), (D.val (vI n13))]), (D.val (vI (0 : Int)))])) ∨
 ((Says C 147 [(D.agg [(D.val (vI n4)), (D.val (vI n5))]), (D.agg [(D.val (vI n12)), (D.val (vI n13))])] [(D.val (.bool false))]) ∧
 (k [(D.agg [(D.val (vI n6)), (D.val (vI n7)), (D.val (vI n4)), (D.val (vI n5))]), (D.val (vI (0 : Int)))]))))))))))))))))))))))))) ∨
 ((Says C 147 [(D.agg [(D.val (vI n6)), (D.val (vI n7))]), (D.agg [(D.val (vI n4)), (D.val (vI n5))])] [(D.val (.bool false))]) ∧
 (((Says C 147 [(D.agg [(D.val (vI n4)), (D.val (vI n5))]), (D.agg [(D.val (vI n6)), (D.val (vI n7))])] [(D.val (.bool true))]) ∧
 (∃ n8 : Int,
 (∃ n9 : Int,
 ((Says C 82 [(D.val (vI a)), (D.val (vI d)), (D.agg [(D.val (vI g)), (D.val (vI e))])] [(D.agg [(D.val (vI n8)), (D.val (vI n9))])]) ∧
 (((Says C 147 [(D.agg [(D.val (vI n8)), (D.val (vI n9))]), (D.agg [(D.val (vI n4)), (D.val (vI n5))])] [(D.val (.bool true))]) ∧
 (((Says C 147 [(D.agg [(D.val (vI n6)), (D.val (vI n7))]), (D.agg [(D.val (vI n8)), (D.val (vI n9))])] [(D.val (.bool true))]) ∧
 (∃ n10 : Int,
 (∃ n11 : Int,
 ((Says C 82 [(D.val (vI b)), (D.val (vI c)), (D.agg [(D.val (vI g)), (D.val (vI e))])] [(D.agg [(D.val (vI n10)), (D.val (vI n11))])]) ∧
 (((Says C 147 [(D.agg [(D.val (vI n10)), (D.val (vI n11))]), (D.agg [(D.val (vI n8)), (D.val (vI n9))])] [(D.val (.bool true))]) ∧
 (((Says C 147 [(D.agg [(D.val (vI n8)), (D.val (vI n9))]), (D.agg [(D.val (vI n10)), (D.val (vI n11))])] [(D.val (.bool true))]) ∧
 (∃ n12 : Int,
 (∃ n13 : Int,
 ((Says C 82 [(D.val (vI b)), (D.val (vI d)), (D.agg [(D.val (vI g)), (D.val (vI e))])] [(D.agg [(D.val (vI n12)), (D.val (vI n13))])]) ∧
 (((Says C 147 [(D.agg [(D.val (vI n12)), (D.val (vI n13))]), (D.agg [(D.val (vI n10)), (D.val (vI n11))])] [(D.val (.bool true))]) ∧
 (((Says C 147 [(D.agg [(D.val (vI n10)), (D.val (vI n11))]), (D.agg [(D.val (vI n12)), (D.val (vI n13))])] [(D.val (.bool true))]) ∧
 (k [(D.agg [(D.val (vI n12)), (D.val (vI n13)), (D.val (vI n12)), (D.val (vI n13))]), (D.val (vI (0 : Int)))])) ∨
 ((Says C 147 [(D.agg [(D.val (vI n10)), (D.val (vI n11))]), (D.agg [(D.val (vI n12)), (D.val (vI n13))])] [(D.val (.bool false))]) ∧
 (k [(D.agg [(D.val (vI n12)), (D.val (vI n13)), (D.val (vI n10)), (D.val (vI n11))]), (D.val (vI (0 : Int)))])))) ∨
 ((Says C 147 [(D.agg [(D.val (vI n12)), (D.val (vI n13))]), (D.agg [(D.val (vI n10)), (D.val (vI n11))])] [(D.val (.bool false))]) ∧
 (((Says C 147 [(D.agg [(D.val (vI n10)), (D.val (vI n11))]), (D.agg [(D.val (vI n12)), (D.val (vI n13))])] [(D.val (.bool true))]) ∧
 (k [(D.agg [(D.val (vI n10)), (D.val (vI n11)), (D.val (vI n12)), (D.val (vI n13))]), (D.val (vI (0 : Int)))])) ∨
 ((Says C 147 [(D.agg [(D.val (vI n10)), (D.val (vI n11))]), (D.agg [(D.val (vI n12)), (D.val (vI n13))])] [(D.val (.bool false))]) ∧
 (k [(D.agg [(D.val (vI n10)), (D.val (vI n11)), (D.val (vI n10)), (D.val (vI n11))]), (D.val (vI (0 : Int)))]))))))))) ∨
 ((Says C 147 [(D.agg [(D.val (vI n8)), (D.val (vI n9))]), (D.agg [(D.val (vI n10)), (D.val (vI n11))])] [(D.val (.bool false))]) ∧
 (∃ n12 : Int,
 (∃ n13 : Int,
 ((Says C 82 [(D.val (vI b)), (D.val (vI d)), (D.agg [(D.val (vI g)), (D.val (vI e))])] [(D.agg [(D.val (vI n12)), (D.val (vI n13))])]) ∧
 (((Says C 147 [(D.agg [(D.val (vI n12)), (D.val (vI n13))]), (D.agg [(D.val (vI n10)), (D.val (vI n11))])] [(D.val (.bool true))]) ∧
 (((Says C 147 [(D.agg [(D.val (vI n8)), (D.val (vI n9))]), (D.agg [(D.val (vI n12)), (D.val (vI n13))])] [(D.val (.bool true))]) ∧
 (k [(D.agg [(D.val (vI n12)), (D.val (vI n13)), (D.val (vI n12)), (D.val (vI n13))]), (D.val (vI (0 : Int)))])) ∨
 ((Says C 147 [(D.agg [(D.val (vI n8)), (D.val (vI n9))]), (D.agg [(D.val (vI n12)), (D.val (vI n13))])] [(D.val (.bool false))]) ∧
 (k [(D.agg [(D.val (vI n12)), (D.val (vI n13)), (D.val (vI n8)), (D.val (vI n9))]), (D.val (vI (0 : Int)))])))) ∨
 ((Says C 147 [(D.agg [(D.val (vI n12)), (D.val (vI n13))]), (D.agg [(D.val (vI n10)), (D.val (vI n11))])] [(D.val (.bool false))]) ∧
 (((Says C 147 [(D.agg [(D.val (vI n8)), (D.val (vI n9))]), (D.agg [(D.val (vI n12)), (D.val (vI n13))])] [(D.val (.bool true))]) ∧
 (k [(D.agg [(D.val (vI n10)), (D.val (vI n11)), (D.val (vI n12)), (D.val (vI n13))]), (D.val (vI (0 : Int)))])) ∨
 ((Says C 147 [(D.agg [(D.val (vI n8)), (D.val (vI n9))]), (D.agg [(D.val (vI n12)), (D.val (vI n13))])] [(D.val (.bool false))]) ∧
 (k [(D.agg [(D.val (vI n10)), (D.val (vI n11)), (D.val (vI n8)), (D.val (vI n9))]), (D.val (vI (0 : Int)))]))))))))))) ∨
 ((Says C 147 [(D.agg [(D.val (vI n10)), (D.val (vI n11))]), (D.agg [(D.val (vI n8)), (D.val (vI n9))])] [(D.val (.bool false))]) ∧
 (((Says C 147 [(D.agg [(D.val (vI n8)), (D.val (vI n9))]), (D.agg [(D.val (vI n10)), (D.val (vI n11))])] [(D.val (.bool true))]) ∧
 (∃ n12 : Int,
 (∃ n13 : Int,
 ((Says C 82 [(D.val (vI b)), (D.val (vI d)), (D.agg [(D.val (vI g)), (D.val (vI e))])] [(D.agg [(D.val (vI n12)), (D.val (vI n13))])]) ∧
 (((Says C 147 [(D.agg [(D.val (vI n12)), (D.val (vI n13))]), (D.agg [(D.val (vI n8)), (D.val (vI n9))])] [(D.val (.bool true))]) ∧
 (((Says C 147 [(D.agg [(D.val (vI n10)), (D.val (vI n11))]), (D.agg [(D.val (vI n12)), (D.val (vI n13))])] [(D.val (.bool true))]) ∧
 (k [(D.agg [(D.val (vI n12)), (D.val (vI n13)), (D.val (vI n12)), (D.val (vI n13))]), (D.val (vI (0 : Int)))])) ∨
 ((Says C 147 [(D.agg [(D.val (vI n10)), (D.val (vI n11))]), (D.agg [(D.val (vI n12)), (D.val (vI n13))])] [(D.val (.bool false))]) ∧
 (k [(D.agg [(D.val (vI n12)), (D.val (vI n13)), (D.val (vI n10)), (D.val (vI n11))]), (D.val (vI (0 : Int)))])))) ∨
 ((Says C 147 [(D.agg [(D.val (vI n12)), (D.val (vI n13))]), (D.agg [(D.val (vI n8)), (D.val (vI n9))])] [(D.val (.bool false))]) ∧
 (((Says C 147 [(D.agg [(D.val (vI n10)), (D.val (vI n11))]), (D.agg [(D.val (vI n12)), (D.val (vI n13))])] [(D.val (.bool true))]) ∧
 (k [(D.agg [(D.val (vI n8)), (D.val (vI n9)), (D.val (vI n12)), (D.val (vI n13))]), (D.val (vI (0 : Int)))])) ∨
 ((Says C 147 [(D.agg [(D.val (vI n10)), (D.val (vI n11))]), (D.agg [(D.val (vI n12)), (D.val (vI n13))])] [(D.val (.bool false))]) ∧
 (k [(D.agg [(D.val (vI n8)), (D.val (vI n9)), (D.val (vI n10)), (D.val (vI n11))]), (D.val (vI (0 : Int)))]))))))))) ∨
 ((Says C 147 [(D.agg [(D.val (vI n8)), (D.val (vI n9))]), (D.agg [(D.val (vI n10)), (D.val (vI n11))])] [(D.val (.bool false))]) ∧
 (∃ n12 : Int,
 (∃ n13 : Int,
 ((Says C 82 [(D.val (vI b)), (D.val (vI d)), (D.agg [(D.val (vI g)), (D.val (vI e))])] [(D.agg [(D.val (vI n12)), (D.val (vI n13))])]) ∧
 (((Says C 147 [(D.agg [(D.val (vI n12)), (D.val (vI n13))]), (D.agg [(D.val (vI n8)), (D.val (vI n9))])] [(D.val (.bool true))]) ∧
 (((Says C 147 [(D.agg [(D.val (vI n8)), (D.val (vI n9))]), (D.agg [(D.val (vI n12)), (D.val (vI n13))])] [(D.val (.bool true))]) ∧
 (k [(D.agg [(D.val (vI n12)), (D.val (vI n13)), (D.val (vI n12)), (D.val (vI n13))]), (D.val (vI (0 : Int)))])) ∨
 ((Says C 147 [(D.agg [(D.val (vI n8)), (D.val (vI n9))]), (D.agg [(D.val (vI n12)), (D.val (vI n13))])] [(D.val (.bool false))]) ∧
 (k [(D.agg [(D.val (vI n12)), (D.val (vI n13)), (D.val (vI n8)), (D.val (vI n9))]), (D.val (vI (0 : Int)))])))) ∨
 ((Says C 147 [(D.agg [(D.val (vI n12)), (D.val (vI n13))]), (D.agg [(D.val (vI n8)), (D.val (vI n9))])] [(D.val (.bool false))]) ∧
 (((Says C 147 [(D.agg [(D.val (vI n8)), (D.val (vI n9))]), (D.agg [(D.val (vI n12)), (D.val (vI n13))])] [(D.val (.bool true))]) ∧
 (k [(D.agg [(D.val (vI n8)), (D.val (vI n9)), (D.val (vI n12)), (D.val (vI n13))]), (D.val (vI (0 : Int)))])) ∨
 ((Says C 147 [(D.agg [(D.val (vI n8)), (D.val (vI n9))]), (D.agg [(D.val (vI n12)), (D.val (vI n13))])] [(D.val (.bool false))]) ∧
 (k [(D.agg [(D.val (vI n8)), (D.val (vI n9)), (D.val (vI n8)), (D.val (vI n9))]), (D.val (vI (0 : Int)))])))))))))))))))) ∨
 ((Says C 147 [(D.agg [(D.val (vI n6)), (D.val (vI n7))]), (D.agg [(D.val (vI n8)), (D.val (vI n9))])] [(D.val (.bool false))]) ∧
 (∃ n10 : Int,
 (∃ n11 : Int,
 ((Says C 82 [(D.val (vI b)), (D.val (vI c)), (D.agg [(D.val (vI g)), (D.val (vI e))])] [(D.agg [(D.val (vI n10)), (D.val (vI n11))])]) ∧
 (((Says C 147 [(D.agg [(D.val (vI n10)), (D.val (vI n11))]), (D.agg [(D.val (vI n8)), (D.val (vI n9))])] [(D.val (.bool true))]) ∧
 (((Says C 147 [(D.agg [(D.val (vI n6)), (D.val (vI n7))]), (D.agg [(D.val (vI n10)), (D.val (vI n11))])] [(D.val (.bool true))]) ∧
 (∃ n12 : Int,
 (∃ n13 : Int,
 ((Says C 82 [(D.val (vI b)), (D.val (vI d)), (D.agg [(D.val (vI g)), (D.val (vI e))])] [(D.agg [(D.val (vI n12)), (D.val (vI n13))])]) ∧
 (((Says C 147 [(D.agg [(D.val (vI n12)), (D.val (vI n13))]), (D.agg [(D.val (vI n10)), (D.val (vI n11))])] [(D.val (.bool true))]) ∧
 (((Says C 147 [(D.agg [(D.val (vI n10)), (D.val (vI n11))]), (D.agg [(D.val (vI n12)), (D.val (vI n13))])] [(D.val (.bool true))]) ∧
 (k [(D.agg [(D.val (vI n12)), (D.val (vI n13)), (D.val (vI n12)), (D.val (vI n13))]), (D.val (vI (0 : Int)))])) ∨
 ((Says C 147 [(D.agg [(D.val (vI n10)), (D.val (vI n11))]), (D.agg [(D.val (vI n12)), (D.val (vI n13))])] [(D.val (.bool false))]) ∧
 (k [(D.agg [(D.val (vI n12)), (D.val (vI n13)), (D.val (vI n10)), (D.val (vI n11))]), (D.val (vI (0 : Int)))])))) ∨
 ((Says C 147 [(D.agg [(D.val (vI n12)), (D.val (vI n13))]), (D.agg [(D.val (vI n10)), (D.val (vI n11))])] [(D.val (.bool false))]) ∧
 (((Says C 147 [(D.agg [(D.val (vI n10)), (D.val (vI n11))]), (D.agg [(D.val (vI n12)), (D.val (vI n13))])] [(D.val (.bool true))]) ∧
 (k [(D.agg [(D.val (vI n10)), (D.val (vI n11)), (D.val (vI n12)), (D.val (vI n13))]), (D.val (vI (0 : Int)))])) ∨
 ((Says C 147 [(D.agg [(D.val (vI n10)), (D.val (vI n11))]), (D.agg [(D.val (vI n12)), (D.val (vI n13))])] [(D.val (.bool false))]) ∧
 (k [(D.agg [(D.val (vI n10)), (D.val (vI n11)), (D.val (vI n10)), (D.val (vI n11))]), (D.val (vI (0 : Int)))]))))))))) ∨
 ((Says C 147 [(D.agg [(D.val (vI n6)), (D.val (vI n7))]), (D.agg [(D.val (vI n10)), (D.val (vI n11))])] [(D.val (.bool false))]) ∧
 (∃ n12 : Int,
 (∃ n13 : Int,
 ((Says C 82 [(D.val (vI b)), (D.val (vI d)), (D.agg [(D.val (vI g)), (D.val (vI e))])] [(D.agg [(D.val (vI n12)), (D.val (vI n13))])]) ∧
 (((Says C 147 [(D.agg [(D.val (vI n12)), (D.val (vI n13))]), (D.agg [(D.val (vI n10)), (D.val (vI n11))])] [(D.val (.bool true))]) ∧
 (((Says C 147 [(D.agg [(D.val (vI n6)), (D.val (vI n7))]), (D.agg [(D.val (vI n12)), (D.val (vI n13))])] [(D.val (.bool true))]) ∧
 (k [(D.agg [(D.val (vI n12)), (D.val (vI n13)), (D.val (vI n12)), (D.val (vI n13))]), (D.val (vI (0 : Int)))])) ∨
 ((Says C 147 [(D.agg [(D.val (vI n6)), (D.val (vI n7))]), (D.agg [(D.val (vI n12)), (D.val (vI n13))])] [(D.val (.bool false))]) ∧
 (k [(D.agg [(D.val (vI n12)), (D.val (vI n13)), (D.val (vI n6)), (D.val (vI n7))]), (D.val (vI (0 : Int)))])))) ∨
 ((Says C 147 [(D.agg [(D.val (vI n12)), (D.val (vI n13))]), (D.agg [(D.val (vI n10)), (D.val (vI n11))])] [(D.val (.bool false))]) ∧
 (((Says C 147 [(D.agg [(D.val (vI n6)), (D.val (vI n7))]), (D.agg [(D.val (vI n12)), (D.val (vI n13))])] [(D.val (.bool true))]) ∧
 (k [(D.agg [(D.val (vI n10)), (D.val (vI n11)), (D.val (vI n12)), (D.val (vI n13))]), (D.val (vI (0 : Int)))])) ∨
 ((Says C 147 [(D.agg [(D.val (vI n6)), (D.val (vI n7))]), (D.agg [(D.val (vI n12)), (D.val (vI n13))])] [(D.val (.bool false))]) ∧
 (k [(D.agg [(D.val (vI n10)), (D.val (vI n11)), (D.val (vI n6)), (D.val (vI n7))]), (D.val (vI (0 : Int)))]))))))))))) ∨
 ((Says C 147 [(D.agg [(D.val (vI n10)), (D.val (vI n11))]), (D.agg [(D.val (vI n8)), (D.val (vI n9))])] [(D.val (.bool false))]) ∧
 (((Says C 147 [(D.agg [(D.val (vI n6)), (D.val (vI n7))]), (D.agg [(D.val (vI n10)), (D.val (vI n11))])] [(D.val (.bool true))]) ∧
 (∃ n12 : Int,
 (∃ n13 : Int,
 ((Says C 82 [(D.val (vI b)), (D.val (vI d)), (D.agg [(D.val (vI g)), (D.val (vI e))])] [(D.agg [(D.val (vI n12)), (D.val (vI n13))])]) ∧
 (((Says C 147 [(D.agg [(D.val (vI n12)), (D.val (vI n13))]), (D.agg [(D.val (vI n8)), (D.val (vI n9))])] [(D.val (.bool true))]) ∧
 (((Says C 147 [(D.agg [(D.val (vI n10)), (D.val (vI n11))]), (D.agg [(D.val (vI n12)), (D.val (vI n13))])] [(D.val (.bool true))]) ∧
 (k [(D.agg [(D.val (vI n12)), (D.val (vI n13)), (D.val (vI n12)), (D.val (vI n13))]), (D.val (vI (0 : Int)))])) ∨
 ((Says C 147 [(D.agg [(D.val (vI n10)), (D.val (vI n11))]), (D.agg [(D.val (vI n12)), (D.val (vI n13))])] [(D.val (.bool false))]) ∧
 (k [(D.agg [(D.val (vI n12)), (D.val (vI n13)), (D.val (vI n10)), (D.val (vI n11))]), (D.val (vI (0 : Int)))])))) ∨
 ((Says C 147 [(D.agg [(D.val (vI n12)), (D.val (vI n13))]), (D.agg [(D.val (vI n8)), (D.val (vI n9))])] [(D.val (.bool false))]) ∧
 (((Says C 147 [(D.agg [(D.val (vI n10)), (D.val (vI n11))]), (D.agg [(D.val (vI n12)), (D.val (vI n13))])] [(D.val (.bool true))]) ∧
 (k [(D.agg [(D.val (vI n8)), (D.val (vI n9)), (D.val (vI n12)), (D.val (vI n13))]), (D.val (vI (0 : Int)))])) ∨
 ((Says C 147 [(D.agg [(D.val (vI n10)), (D.val (vI n11))]), (D.agg [(D.val (vI n12)), (D.val (vI n13))])] [(D.val (.bool false))]) ∧
 (k [(D.agg [(D.val (vI n8)), (D.val (vI n9)), (D.val (vI n10)), (D.val (vI n11))]), (D.val (vI (0 : Int)))]))))))))) ∨
 ((Says C 147 [(D.agg [(D.val (vI n6)), (D.val (vI n7))]), (D.agg [(D.val (vI n10)), (D.val (vI n11))])] [(D.val (.bool false))]) ∧
 (∃ n12 : Int,
 (∃ n13 : Int,
 ((Says C 82 [(D.val (vI b)), (D.val (vI d)), (D.agg [(D.val (vI g)), (D.val (vI e))])] [(D.agg [(D.val (vI n12)), (D.val (vI n13))])]) ∧
 (((Says C 147 [(D.agg [(D.val (vI n12)), (D.val (vI n13))]), (D.agg [(D.val (vI n8)), (D.val (vI n9))])] [(D.val (.bool true))]) ∧
 (((Says C 147 [(D.agg [(D.val (vI n6)), (D.val (vI n7))]), (D.agg [(D.val (vI n12)), (D.val (vI n13))])] [(D.val (.bool true))]) ∧
 (k [(D.agg [(D.val (vI n12)), (D.val (vI n13)), (D.val (vI n12)), (D.val (vI n13))]), (D.val (vI (0 : Int)))])) ∨
 ((Says C 147 [(D.agg [(D.val (vI n6)), (D.val (vI n7))]), (D.agg [(D.val (vI n12)), (D.val (vI n13))])] [(D.val (.bool false))]) ∧
 (k [(D.agg [(D.val (vI n12)), (D.val (vI n13)), (D.val (vI n6)), (D.val (vI n7))]), (D.val (vI (0 : Int)))])))) ∨
 ((Says C 147 [(D.agg [(D.val (vI n12)), (D.val (vI n13))]), (D.agg [(D.val (vI n8)), (D.val (vI n9))])] [(D.val (.bool false))]) ∧
 (((Says C 147 [(D.agg [(D.val (vI n6)), (D.val (vI n7))]), (D.agg [(D.val (vI n12)), (D.val (vI n13))])] [(D.val (.bool true))]) ∧
 (k [(D.agg [(D.val (vI n8)), (D.val (vI n9)), (D.val (vI n12)), (D.val (vI n13))]), (D.val (vI (0 : Int)))])) ∨
 ((Says C 147 [(D.agg [(D.val (vI n6)), (D.val (vI n7))]), (D.agg [(D.val (vI n12)), (D.val (vI n13))])] [(D.val (.bool false))]) ∧
 (k [(D.agg [(D.val (vI n8)), (D.val (vI n9)), (D.val (vI n6)), (D.val (vI n7))]), (D.val (vI (0 : Int)))])))))))))))))))))) ∨
 ((Says C 147 [(D.agg [(D.val (vI n8)), (D.val (vI n9))]), (D.agg [(D.val (vI n4)), (D.val (vI n5))])] [(D.val (.bool false))]) ∧
 (((Says C 147 [(D.agg [(D.val (vI n6)), (D.val (vI n7))]), (D.agg [(D.val (vI n8)), (D.val (vI n9))])] [(D.val (.bool true))]) ∧
 (∃ n10 : Int,
 (∃ n11 : Int,
 ((Says C 82 [(D.val (vI b)), (D.val (vI c)), (D.agg [(D.val (vI g)), (D.val (vI e))])] [(D.agg [(D.val (vI n10)), (D.val (vI n11))])]) ∧
 (((Says C 147 [(D.agg [(D.val (vI n10)), (D.val (vI n11))]), (D.agg [(D.val (vI n4)), (D.val (vI n5))])] [(D.val (.bool true))]) ∧
 (((Says C 147 [(D.agg [(D.val (vI n8)), (D.val (vI n9))]), (D.agg [(D.val (vI n10)), (D.val (vI n11))])] [(D.val (.bool true))]) ∧
 (∃ n12 : Int,
 (∃ n13 : Int,
 ((Says C 82 [(D.val (vI b)), (D.val (vI d)), (D.agg [(D.val (vI g)), (D.val (vI e))])] [(D.agg [(D.val (vI n12)), (D.val (vI n13))])]) ∧
 (((Says C 147 [(D.agg [(D.val (vI n12)), (D.val (vI n13))]), (D.agg [(D.val (vI n10)), (D.val (vI n11))])] [(D.val (.bool true))]) ∧
 (((Says C 147 [(D.agg [(D.val (vI n10)), (D.val (vI n11))]), (D.agg [(D.val (vI n12)), (D.val (vI n13))])] [(D.val (.bool true))]) ∧
 (k [(D.agg [(D.val (vI n12)), (D.val (vI n13)), (D.val (vI n12)), (D.val (vI n13))]), (D.val (vI (0 : Int)))])) ∨
 ((Says C 147 [(D.agg [(D.val (vI n10)), (D.val (vI n11))]), (D.agg [(D.val (vI n12)), (D.val (vI n13))])] [(D.val (.bool false))]) ∧
 (k [(D.agg [(D.val (vI n12)), (D.val (vI n13)), (D.val (vI n10)), (D.val (vI n11))]), (D.val (vI (0 : Int)))])))) ∨
 ((Says C 147 [(D.agg [(D.val (vI n12)), (D.val (vI n13))]), (D.agg [(D.val (vI n10)), (D.val (vI n11))])] [(D.val (.bool false))]) ∧
 (((Says C 147 [(D.agg [(D.val (vI n10)), (D.val (vI n11))]), (D.agg [(D.val (vI n12)), (D.val (vI n13))])] [(D.val (.bool true))]) ∧
 (k [(D.agg [(D.val (vI n10)), (D.val (vI n11)), (D.val (vI n12)), (D.val (vI n13))]), (D.val (vI (0 : Int)))])) ∨
 ((Says C 147 [(D.agg [(D.val (vI n10)), (D.val (vI n11))]), (D.agg [(D.val (vI n12)), (D.val (vI n13))])] [(D.val (.bool false))]) ∧
 (k [(D.agg [(D.val (vI n10)), (D.val (vI n11)), (D.val (vI n10)), (D.val (vI n11))]), (D.val (vI (0 : Int)))]))))))))) ∨
 ((Says C 147 [(D.agg [(D.val (vI n8)), (D.val (vI n9))]), (D.agg [(D.val (vI n10)), (D.val (vI n11))])] [(D.val (.bool false))]) ∧
 (∃ n12 : Int,
 (∃ n13 : Int,
 ((Says C 82 [(D.val (vI b)), (D.val (vI d)), (D.agg [(D.val (vI g)), (D.val (vI e))])] [(D.agg [(D.val (vI n12)), (D.val (vI n13))])]) ∧
 (((Says C 147 [(D.agg [(D.val (vI n12)), (D.val (vI n13))]), (D.agg [(D.val (vI n10)), (D.val (vI n11))])] [(D.val (.bool true))]) ∧
 (((Says C 147 [(D.agg [(D.val (vI n8)), (D.val (vI n9))]), (D.agg [(D.val (vI n12)), (D.val (vI n13))])] [(D.val (.bool true))]) ∧
 (k [(D.agg [(D.val (vI n12)), (D.val (vI n13)), (D.val (vI n12)), (D.val (vI n13))]), (D.val (vI (0 : Int)))])) ∨
 ((Says C 147 [(D.agg [(D.val (vI n8)), (D.val (vI n9))]), (D.agg [(D.val (vI n12)), (D.val (vI n13))])] [(D.val (.bool false))]) ∧
 (k [(D.agg [(D.val (vI n12)), (D.val (vI n13)), (D.val (vI n8)), (D.val (vI n9))]), (D.val (vI (0 : Int)))])))) ∨
 ((Says C 147 [(D.agg [(D.val (vI n12)), (D.val (vI n13))]), (D.agg [(D.val (vI n10)), (D.val (vI n11))])] [(D.val (.bool false))]) ∧
 (((Says C 147 [(D.agg [(D.val (vI n8)), (D.val (vI n9))]), (D.agg [(D.val (vI n12)), (D.val (vI n13))])] [(D.val (.bool true))]) ∧
 (k [(D.agg [(D.val (vI n10)), (D.val (vI n11)), (D.val (vI n12)), (D.val (vI n13))]), (D.val (vI (0 : Int)))])) ∨
 ((Says C 147 [(D.agg [(D.val (vI n8)), (D.val (vI n9))]), (D.agg [(D.val (vI n12)), (D.val (vI n13))])] [(D.val (.bool false))]) ∧
 (k [(D.agg [(D.val (vI n10)), (D.val (vI n11)), (D.val (vI n8)), (D.val (vI n9))]), (D.val (vI (0 : Int)))]))))))))))) ∨
 ((Says C 147 [(D.agg [(D.val (vI n10)), (D.val (vI n11))]), (D.agg [(D.val (vI n4)), (D.val (vI n5))])] [(D.val (.bool false))]) ∧
 (((Says C 147 [(D.agg [(D.val (vI n8)), (D.val (vI n9))]), (D.agg [(D.val (vI n10)), (D.val (vI n11))])] [(D.val (.bool true))]) ∧
 (∃ n12 : Int,
 (∃ n13 : Int,
 ((Says C 82 [(D.val (vI b)), (D.val (vI d)), (D.agg [(D.val (vI g)), (D.val (vI e))])] [(D.agg [(D.val (vI n12)), (D.val (vI n13))])]) ∧
 (((Says C 147 [(D.agg [(D.val (vI n12)), (D.val (vI n13))]), (D.agg [(D.val (vI n4)), (D.val (vI n5))])] [(D.val (.bool true))]) ∧
 (((Says C 147 [(D.agg [(D.val (vI n10)), (D.val (vI n11))]), (D.agg [(D.val (vI n12)), (D.val (vI n13))])] [(D.val (.bool true))]) ∧
 (k [(D.agg [(D.val (vI n12)), (D.val (vI n13)), (D.val (vI n12)), (D.val (vI n13))]), (D.val (vI (0 : Int)))])) ∨
 ((Says C 147 [(D.agg [(D.val (vI n10)), (D.val (vI n11))]), (D.agg [(D.val (vI n12)), (D.val (vI n13))])] [(D.val (.bool false))]) ∧
 (k [(D.agg [(D.val (vI n12)), (D.val (vI n13)), (D.val (vI n10)), (D.val (vI n11))]), (D.val (vI (0 : Int)))])))) ∨
 ((Says C 147 [(D.agg [(D.val (vI n12)), (D.val (vI n13))]), (D.agg [(D.val (vI n4)), (D.val (vI n5))])] [(D.val (.bool false))]) ∧
 (((Says C 147 [(D.agg [(D.val (vI n10)), (D.val (vI n11))]), (D.agg [(D.val (vI n12)), (D.val (vI n13))])] [(D.val (.bool true))]) ∧
 (k [(D.agg [(D.val (vI n4)), (D.val (vI n5)), (D.val (vI n12)), (D.val (vI n13))]), (D.val (vI (0 : Int)))])) ∨
 ((Says C 147 [(D.agg [(D.val (vI n10)), (D.val (vI n11))]), (D.agg [(D.val (vI n12)), (D.val (vI n13))])] [(D.val (.bool false))]) ∧
 (k [(D.agg [(D.val (vI n4)), (D.val (vI n5)), (D.val (vI n10)), (D.val (vI n11))]), (D.val (vI (0 : Int)))]))))))))) ∨
 ((Says C 147 [(D.agg [(D.val (vI n8)), (D.val (vI n9))]), (D.agg [(D.val (vI n10)), (D.val (vI n11))])] [(D.val (.bool false))]) ∧
 (∃ n12 : Int,
 (∃ n13 : Int,
 ((Says C 82 [(D.val (vI b)), (D.val (vI d)), (D.agg [(D.val (vI g)), (D.val (vI e))])] [(D.agg [(D.val (vI n12)), (D.val (vI n13))])]) ∧
 (((Says C 147 [(D.agg [(D.val (vI n12)), (D.val (vI n13))]), (D.agg [(D.val (vI n4)), (D.val (vI n5))])] [(D.val (.bool true))]) ∧
 (((Says C 147 [(D.agg [(D.val (vI n8)), (D.val (vI n9))]), (D.agg [(D.val (vI n12)), (D.val (vI n13))])] [(D.val (.bool true))]) ∧
 (k [(D.agg [(D.val (vI n12)), (D.val (vI n13)), (D.val (vI n12)), (D.val (vI n13))]), (D.val (vI (0 : Int)))])) ∨
 ((Says C 147 [(D.agg [(D.val (vI n8)), (D.val (vI n9))]), (D.agg [(D.val (vI n12)), (D.val (vI n13))])] [(D.val (.bool false))]) ∧
 (k [(D.agg [(D.val (vI n12)), (D.val (vI n13)), (D.val (vI n8)), (D.val (vI n9))]), (D.val (vI (0 : Int)))])))) ∨
 ((Says C 147 [(D.agg [(D.val (vI n12)), (D.val (vI n13))]), (D.agg [(D.val (vI n4)), (D.val (vI n5))])] [(D.val (.bool false))]) ∧
 (((Says C 147 [(D.agg [(D.val (vI n8)), (D.val (vI n9))]), (D.agg [(D.val (vI n12)), (D.val (vI n13))])] [(D.val (.bool true))]) ∧
 (k [(D.agg [(D.val (vI n4)), (D.val (vI n5)), (D.val (vI n12)), (D.val (vI n13))]), (D.val (vI (0 : Int)))])) ∨
 ((Says C 147 [(D.agg [(D.val (vI n8)), (D.val (vI n9))]), (D.agg [(D.val (vI n12)), (D.val (vI n13))])] [(D.val (.bool false))]) ∧
 (k [(D.agg [(D.val (vI n4)), (D.val (vI n5)), (D.val (vI n8)), (D.val (vI n9))]), (D.val (vI (0 : Int)))])))))))))))))))) ∨
 ((Says C 147 [(D.agg [(D.val (vI n6)), (D.val (vI n7))]), (D.agg [(D.val (vI n8)), (D.val (vI n9))])] [(D.val (.bool false))]) ∧
 (∃ n10 : Int,
 (∃ n11 : Int,
 ((Says C 82 [(D.val (vI b)), (D.val (vI c)), (D.agg [(D.val (vI g)), (D.val (vI e))])] [(D.agg [(D.val (vI n10)), (D.val (vI n11))])]) ∧
 (((Says C 147 [(D.agg [(D.val (vI n10)), (D.val (vI n11))]), (D.agg [(D.val (vI n4)), (D.val (vI n5))])] [(D.val (.bool true))]) ∧
 (((Says C 147 [(D.agg [(D.val (vI n6)), (D.val (vI n7))]), (D.agg [(D.val (vI n10)), (D.val (vI n11))])] [(D.val (.bool true))]) ∧
 (∃ n12 : Int,
 (∃ n13 : Int,
 ((Says C 82 [(D.val (vI b)), (D.val (vI d)), (D.agg [(D.val (vI g)), (D.val (vI e))])] [(D.agg [(D.val (vI n12)), (D.val (vI n13))])]) ∧
 (((Says C 147 [(D.agg [(D.val (vI n12)), (D.val (vI n13))]), (D.agg [(D.val (vI n10)), (D.val (vI n11))])] [(D.val (.bool true))]) ∧
 (((Says C 147 [(D.agg [(D.val (vI n10)), (D.val (vI n11))]), (D.agg [(D.val (vI n12)), (D.val (vI n13))])] [(D.val (.bool true))]) ∧
 (k [(D.agg [(D.val (vI n12)), (D.val (vI n13)), (D.val (vI n12)), (D.val (vI n13))]), (D.val (vI (0 : Int)))])) ∨
 ((Says C 147 [(D.agg [(D.val (vI n10)), (D.val (vI n11))]), (D.agg [(D.val (vI n12)), (D.val (vI n13))])] [(D.val (.bool false))]) ∧
 (k [(D.agg [(D.val (vI n12)), (D.val (vI n13)), (D.val (vI n10)), (D.val (vI n11))]), (D.val (vI (0 : Int)))])))) ∨
 ((Says C 147 [(D.agg [(D.val (vI n12)), (D.val (vI n13))]), (D.agg [(D.val (vI n10)), (D.val (vI n11))])] [(D.val (.bool false))]) ∧
 (((Says C 147 [(D.agg [(D.val (vI n10)), (D.val (vI n11))]), (D.agg [(D.val (vI n12)), (D.val (vI n13))])] [(D.val (.bool true))]) ∧
 (k [(D.agg [(D.val (vI n10)), (D.val (vI n11)), (D.val (vI n12)), (D.val (vI n13))]), (D.val (vI (0 : Int)))])) ∨
 ((Says C 147 [(D.agg [(D.val (vI n10)), (D.val (vI n11))]), (D.agg [(D.val (vI n12)), (D.val (vI n13))])] [(D.val (.bool false))]) ∧
 (k [(D.agg [(D.val (vI n10)), (D.val (vI n11)), (D.val (vI n10)), (D.val (vI n11))]), (D.val (vI (0 : Int)))]))))))))) ∨
 ((Says C 147 [(D.agg [(D.val (vI n6)), (D.val (vI n7))]), (D.agg [(D.val (vI n10)), (D.val (vI n11))])] [(D.val (.bool false))]) ∧
 (∃ n12 : Int,
 (∃ n13 : Int,
 ((Says C 82 [(D.val (vI b)), (D.val (vI d)), (D.agg [(D.val (vI g)), (D.val (vI e))])] [(D.agg [(D.val (vI n12)), (D.val (vI n13))])]) ∧
 (((Says C 147 [(D.agg [(D.val (vI n12)), (D.val (vI n13))]), (D.agg [(D.val (vI n10)), (D.val (vI n11))])] [(D.val (.bool true))]) ∧
 (((Says C 147 [(D.agg [(D.val (vI n6)), (D.val (vI n7))]), (D.agg [(D.val (vI n12)), (D.val (vI n13))])] [(D.val (.bool true))]) ∧
 (k [(D.agg [(D.val (vI n12)), (D.val (vI n13)), (D.val (vI n12)), (D.val (vI n13))]), (D.val (vI (0 : Int)))])) ∨
 ((Says C 147 [(D.agg [(D.val (vI n6)), (D.val (vI n7))]), (D.agg [(D.val (vI n12)), (D.val (vI n13))])] [(D.val (.bool false))]) ∧
 (k [(D.agg [(D.val (vI n12)), (D.val (vI n13)), (D.val (vI n6)), (D.val (vI n7))]), (D.val (vI (0 : Int)))])))) ∨
 ((Says C 147 [(D.agg [(D.val (vI n12)), (D.val (vI n13))]), (D.agg [(D.val (vI n10)), (D.val (vI n11))])] [(D.val (.bool false))]) ∧
 (((Says C 147 [(D.agg [(D.val (vI n6)), (D.val (vI n7))]), (D.agg [(D.val (vI n12)), (D.val (vI n13))])] [(D.val (.bool true))]) ∧
 (k [(D.agg [(D.val (vI n10)), (D.val (vI n11)), (D.val (vI n12)), (D.val (vI n13))]), (D.val (vI (0 : Int)))])) ∨
 ((Says C 147 [(D.agg [(D.val (vI n6)), (D.val (vI n7))]), (D.agg [(D.val (vI n12)), (D.val (vI n13))])] [(D.val (.bool false))]) ∧
 (k [(D.agg [(D.val (vI n10)), (D.val (vI n11)), (D.val (vI n6)), (D.val (vI n7))]), (D.val (vI (0 : Int)))]))))))))))) ∨
 ((Says C 147 [(D.agg [(D.val (vI n10)), (D.val (vI n11))]), (D.agg [(D.val (vI n4)), (D.val (vI n5))])] [(D.val (.bool false))]) ∧
 (((Says C 147 [(D.agg [(D.val (vI n6)), (D.val (vI n7))]), (D.agg [(D.val (vI n10)), (D.val (vI n11))])] [(D.val (.bool true))]) ∧
 (∃ n12 : Int,
 (∃ n13 : Int,
 ((Says C 82 [(D.val (vI b)), (D.val (vI d)), (D.agg [(D.val (vI g)), (D.val (vI e))])] [(D.agg [(D.val (vI n12)), (D.val (vI n13))])]) ∧
 (((Says C 147 [(D.agg [(D.val (vI n12)), (D.val (vI n13))]), (D.agg [(D.val (vI n4)), (D.val (vI n5))])] [(D.val (.bool true))]) ∧
 (((Says C 147 [(D.agg [(D.val (vI n10)), (D.val (vI n11))]), (D.agg [(D.val (vI n12)), (D.val (vI n13))])] [(D.val (.bool true))]) ∧
 (k [(D.agg [(D.val (vI n12)), (D.val (vI n13)), (D.val (vI n12)), (D.val (vI n13))]), (D.val (vI (0 : Int)))])) ∨
 ((Says C 147 [(D.agg [(D.val (vI n10)), (D.val (vI n11))]), (D.agg [(D.val (vI n12)), (D.val (vI n13))])] [(D.val (.bool false))]) ∧
 (k [(D.agg [(D.val (vI n12)), (D.val (vI n13)), (D.val (vI n10)), (D.val (vI n11))]), (D.val (vI (0 : Int)))])))) ∨
 ((Says C 147 [(D.agg [(D.val (vI n12)), (D.val (vI n13))]), (D.agg [(D.val (vI n4)), (D.val (vI n5))])] [(D.val (.bool false))]) ∧
 (((Says C 147 [(D.agg [(D.val (vI n10)), (D.val (vI n11))]), (D.agg [(D.val (vI n12)), (D.val (vI n13))])] [(D.val (.bool true))]) ∧
 (k [(D.agg [(D.val (vI n4)), (D.val (vI n5)), (D.val (vI n12)), (D.val (vI n13))]), (D.val (vI (0 : Int)))])) ∨
 ((Says C 147 [(D.agg [(D.val (vI n10)), (D.val (vI n11))]), (D.agg [(D.val (vI n12)), (D.val (vI n13))])] [(D.val (.bool false))]) ∧
 (k [(D.agg [(D.val (vI n4)), (D.val (vI n5)), (D.val (vI n10)), (D.val (vI n11))]), (D.val (vI (0 : Int)))]))))))))) ∨
 ((Says C 147 [(D.agg [(D.val (vI n6)), (D.val (vI n7))]), (D.agg [(D.val (vI n10)), (D.val (vI n11))])] [(D.val (.bool false))]) ∧
 (∃ n12 : Int,
 (∃ n13 : Int,
 ((Says C 82 [(D.val (vI b)), (D.val (vI d)), (D.agg [(D.val (vI g)), (D.val (vI e))])] [(D.agg [(D.val (vI n12)), (D.val (vI n13))])]) ∧
 (((Says C 147 [(D.agg [(D.val (vI n12)), (D.val (vI n13))]), (D.agg [(D.val (vI n4)), (D.val (vI n5))])] [(D.val (.bool true))]) ∧
 (((Says C 147 [(D.agg [(D.val (vI n6)), (D.val (vI n7))]), (D.agg [(D.val (vI n12)), (D.val (vI n13))])] [(D.val (.bool true))]) ∧
 (k [(D.agg [(D.val (vI n12)), (D.val (vI n13)), (D.val (vI n12)), (D.val (vI n13))]), (D.val (vI (0 : Int)))])) ∨
 ((Says C 147 [(D.agg [(D.val (vI n6)), (D.val (vI n7))]), (D.agg [(D.val (vI n12)), (D.val (vI n13))])] [(D.val (.bool false))]) ∧
 (k [(D.agg [(D.val (vI n12)), (D.val (vI n13)), (D.val (vI n6)), (D.val (vI n7))]), (D.val (vI (0 : Int)))])))) ∨
 ((Says C 147 [(D.agg [(D.val (vI n12)), (D.val (vI n13))]), (D.agg [(D.val (vI n4)), (D.val (vI n5))])] [(D.val (.bool false))]) ∧
 (((Says C 147 [(D.agg [(D.val (vI n6)), (D.val (vI n7))]), (D.agg [(D.val (vI n12)), (D.val (vI n13))])] [(D.val (.bool true))]) ∧
 (k [(D.agg [(D.val (vI n4)), (D.val (vI n5)), (D.val (vI n12)), (D.val (vI n13))]), (D.val (vI (0 : Int)))])) ∨
 ((Says C 147 [(D.agg [(D.val (vI n6)), (D.val (vI n7))]), (D.agg [(D.val (vI n12)), (D.val (vI n13))])] [(D.val (.bool false))]) ∧
 (k [(D.agg [(D.val (vI n4)), (D.val (vI n5)), (D.val (vI n6)), (D.val (vI n7))]), (D.val (vI (0 : Int)))]))))))))))))))))))))))) ∨
 ((Says C 147 [(D.agg [(D.val (vI n4)), (D.val (vI n5))]), (D.agg [(D.val (vI n6)), (D.val (vI n7))])] [(D.val (.bool false))]) ∧
 (∃ n8 : Int,
 (∃ n9 : Int,
 ((Says C 82 [(D.val (vI a)), (D.val (vI d)), (D.agg [(D.val (vI g)), (D.val (vI e))])] [(D.agg [(D.val (vI n8)), (D.val (vI n9))])]) ∧
 (((Says C 147 [(D.agg [(D.val (vI n8)), (D.val (vI n9))]), (D.agg [(D.val (vI n4)), (D.val (vI n5))])] [(D.val (.bool true))]) ∧
 (((Says C 147 [(D.agg [(D.val (vI n4)), (D.val (vI n5))]), (D.agg [(D.val (vI n8)), (D.val (vI n9))])] [(D.val (.bool true))]) ∧
 (∃ n10 : Int,
 (∃ n11 : Int,
 ((Says C 82 [(D.val (vI b)), (D.val (vI c)), (D.agg [(D.val (vI g)), (D.val (vI e))])] [(D.agg [(D.val (vI n10)), (D.val (vI n11))])]) ∧
 (((Says C 147 [(D.agg [(D.val (vI n10)), (D.val (vI n11))]), (D.agg [(D.val (vI n8)), (D.val (vI n9))])] [(D.val (.bool true))]) ∧
 (((Says C 147 [(D.agg [(D.val (vI n8)), (D.val (vI n9))]), (D.agg [(D.val (vI n10)), (D.val (vI n11))])] [(D.val (.bool true))]) ∧
 (∃ n12 : Int,
 (∃ n13 : Int,
 ((Says C 82 [(D.val (vI b)), (D.val (vI d)), (D.agg [(D.val (vI g)), (D.val (vI e))])] [(D.agg [(D.val (vI n12)), (D.val (vI n13))])]) ∧
 (((Says C 147 [(D.agg [(D.val (vI n12)), (D.val (vI n13))]), (D.agg [(D.val (vI n10)), (D.val (vI n11))])] [(D.val (.bool true))]) ∧
 (((Says C 147 [(D.agg [(D.val (vI n10)), (D.val (vI n11))]), (D.agg [(D.val (vI n12)), (D.val (vI n13))])] [(D.val (.bool true))]) ∧
 (k [(D.agg [(D.val (vI n12)), (D.val (vI n13)), (D.val (vI n12)), (D.val (vI n13))]), (D.val (vI (0 : Int)))])) ∨
 ((Says C 147 [(D.agg [(D.val (vI n10)), (D.val (vI n11))]), (D.agg [(D.val (vI n12)), (D.val (vI n13))])] [(D.val (.bool false))]) ∧
 (k [(D.agg [(D.val (vI n12)), (D.val (vI n13)), (D.val (vI n10)), (D.val (vI n11))]), (D.val (vI (0 : Int)))])))) ∨
 ((Says C 147 [(D.agg [(D.val (vI n12)), (D.val (vI n13))]), (D.agg [(D.val (vI n10)), (D.val (vI n11))])] [(D.val (.bool false))]) ∧
 (((Says C 147 [(D.agg [(D.val (vI n10)), (D.val (vI n11))]), (D.agg [(D.val (vI n12)), (D.val (vI n13))])] [(D.val (.bool true))]) ∧
 (k [(D.agg [(D.val (vI n10)), (D.val (vI n11)), (D.val (vI n12)), (D.val (vI n13))]), (D.val (vI (0 : Int)))])) ∨
 ((Says C 147 [(D.agg [(D.val (vI n10)), (D.val (vI n11))]), (D.agg [(D.val (vI n12)), (D.val (vI n13))])] [(D.val (.bool false))]) ∧
 (k [(D.agg [(D.val (vI n10)), (D.val (vI n11)), (D.val (vI n10)), (D.val (vI n11))]), (D.val (vI (0 : Int)))]))))))))) ∨
 ((Says C 147 [(D.agg [(D.val (vI n8)), (D.val (vI n9))]), (D.agg [(D.val (vI n10)), (D.val (vI n11))])] [(D.val (.bool false))]) ∧
 (∃ n12 : Int,
 (∃ n13 : Int,
 ((Says C 82 [(D.val (vI b)), (D.val (vI d)), (D.agg [(D.val (vI g)), (D.val (vI e))])] [(D.agg [(D.val (vI n12)), (D.val (vI n13))])]) ∧
 (((Says C 147 [(D.agg [(D.val (vI n12)), (D.val (vI n13))]), (D.agg [(D.val (vI n10)), (D.val (vI n11))])] [(D.val (.bool true))]) ∧
 (((Says C 147 [(D.agg [(D.val (vI n8)), (D.val (vI n9))]), (D.agg [(D.val (vI n12)), (D.val (vI n13))])] [(D.val (.bool true))]) ∧
 (k [(D.agg [(D.val (vI n12)), (D.val (vI n13)), (D.val (vI n12)), (D.val (vI n13))]), (D.val (vI (0 : Int)))])) ∨
 ((Says C 147 [(D.agg [(D.val (vI n8)), (D.val (vI n9))]), (D.agg [(D.val (vI n12)), (D.val (vI n13))])] [(D.val (.bool false))]) ∧
 (k [(D.agg [(D.val (vI n12)), (D.val (vI n13)), (D.val (vI n8)), (D.val (vI n9))]), (D.val (vI (0 : Int)))])))) ∨
 ((Says C 147 [(D.agg [(D.val (vI n12)), (D.val (vI n13))]), (D.agg [(D.val (vI n10)), (D.val (vI n11))])] [(D.val (.bool false))]) ∧
 (((Says C 147 [(D.agg [(D.val (vI n8)), (D.val (vI n9))]), (D.agg [(D.val (vI n12)), (D.val (vI n13))])] [(D.val (.bool true))]) ∧
 (k [(D.agg [(D.val (vI n10)), (D.val (vI n11)), (D.val (vI n12)), (D.val (vI n13))]), (D.val (vI (0 : Int)))])) ∨
 ((Says C 147 [(D.agg [(D.val (vI n8)), (D.val (vI n9))]), (D.agg [(D.val (vI n12)), (D.val (vI n13))])] [(D.val (.bool false))]) ∧
 (k [(D.agg [(D.val (vI n10)), (D.val (vI n11)), (D.val (vI n8)), (D.val (vI n9))]), (D.val (vI (0 : Int)))]))))))))))) ∨
 ((Says C 147 [(D.agg [(D.val (vI n10)), (D.val (vI n11))]), (D.agg [(D.val (vI n8)), (D.val (vI n9))])] [(D.val (.bool false))]) ∧
 (((Says C 147 [(D.agg [(D.val (vI n8)), (D.val (vI n9))]), (D.agg [(D.val (vI n10)), (D.val (vI n11))])] [(D.val (.bool true))]) ∧
 (∃ n12 : Int,
 (∃ n13 : Int,
 ((Says C 82 [(D.val (vI b)), (D.val (vI d)), (D.agg [(D.val (vI g)), (D.val (vI e))])] [(D.agg [(D.val (vI n12)), (D.val (vI n13))])]) ∧
 (((Says C 147 [(D.agg [(D.val (vI n12)), (D.val (vI n13))]), (D.agg [(D.val (vI n8)), (D.val (vI n9))])] [(D.val (.bool true))]) ∧
 (((Says C 147 [(D.agg [(D.val (vI n10)), (D.val (vI n11))]), (D.agg [(D.val (vI n12)), (D.val (vI n13))])] [(D.val (.bool true))]) ∧
 (k [(D.agg [(D.val (vI n12)), (D.val (vI n13)), (D.val (vI n12)), (D.val (vI n13))]), (D.val (vI (0 : Int)))])) ∨
 ((Says C 147 [(D.agg [(D.val (vI n10)), (D.val (vI n11))]), (D.agg [(D.val (vI n12)), (D.val (vI n13))])] [(D.val (.bool false))]) ∧
 (k [(D.agg [(D.val (vI n12)), (D.val (vI n13)), (D.val (vI n10)), (D.val (vI n11))]), (D.val (vI (0 : Int)))])))) ∨
 ((Says C 147 [(D.agg [(D.val (vI n12)), (D.val (vI n13))]), (D.agg [(D.val (vI n8)), (D.val (vI n9))])] [(D.val (.bool false))]) ∧
 (((Says C 147 [(D.agg [(D.val (vI n10)), (D.val (vI n11))]), (D.agg [(D.val (vI n12)), (D.val (vI n13))])] [(D.val (.bool true))]) ∧
 (k [(D.agg [(D.val (vI n8)), (D.val (vI n9)), (D.val (vI n12)), (D.val (vI n13))]), (D.val (vI (0 : Int)))])) ∨
 ((Says C 147 [(D.agg [(D.val (vI n10)), (D.val (vI n11))]), (D.agg [(D.val (vI n12)), (D.val (vI n13))])] [(D.val (.bool false))]) ∧
 (k [(D.agg [(D.val (vI n8)), (D.val (vI n9)), (D.val (vI n10)), (D.val (vI n11))]), (D.val (vI (0 : Int)))]))))))))) ∨
 ((Says C 147 [(D.agg [(D.val (vI n8)), (D.val (vI n9))]), (D.agg [(D.val (vI n10)), (D.val (vI n11))])] [(D.val (.bool false))]) ∧
 (∃ n12 : Int,
 (∃ n13 : Int,
 ((Says C 82 [(D.val (vI b)), (D.val (vI d)), (D.agg [(D.val (vI g)), (D.val (vI e))])] [(D.agg [(D.val (vI n12)), (D.val (vI n13))])]) ∧
 (((Says C 147 [(D.agg [(D.val (vI n12)), (D.val (vI n13))]), (D.agg [(D.val (vI n8)), (D.val (vI n9))])] [(D.val (.bool true))]) ∧
 (((Says C 147 [(D.agg [(D.val (vI n8)), (D.val (vI n9))]), (D.agg [(D.val (vI n12)), (D.val (vI n13))])] [(D.val (.bool true))]) ∧
 (k [(D.agg [(D.val (vI n12)), (D.val (vI n13)), (D.val (vI n12)), (D.val (vI n13))]), (D.val (vI (0 : Int)))])) ∨
 ((Says C 147 [(D.agg [(D.val (vI n8)), (D.val (vI n9))]), (D.agg [(D.val (vI n12)), (D.val (vI n13))])] [(D.val (.bool false))]) ∧
 (k [(D.agg [(D.val (vI n12)), (D.val (vI n13)), (D.val (vI n8)), (D.val (vI n9))]), (D.val (vI (0 : Int)))])))) ∨
 ((Says C 147 [(D.agg [(D.val (vI n12)), (D.val (vI n13))]), (D.agg [(D.val (vI n8)), (D.val (vI n9))])] [(D.val (.bool false))]) ∧
 (((Says C 147 [(D.agg [(D.val (vI n8)), (D.val (vI n9))]), (D.agg [(D.val (vI n12)), (D.val (vI n13))])] [(D.val (.bool true))]) ∧
 (k [(D.agg [(D.val (vI n8)), (D.val (vI n9)), (D.val (vI n12)), (D.val (vI n13))]), (D.val (vI (0 : Int)))])) ∨
 ((Says C 147 [(D.agg [(D.val (vI n8)), (D.val (vI n9))]), (D.agg [(D.val (vI n12)), (D.val (vI n13))])] [(D.val (.bool false))]) ∧
 (k [(D.agg [(D.val (vI n8)), (D.val (vI n9)), (D.val (vI n8)), (D.val (vI n9))]), (D.val (vI (0 : Int)))])))))))))))))))) ∨
 ((Says C 147 [(D.agg [(D.val (vI n4)), (D.val (vI n5))]), (D.agg [(D.val (vI n8)), (D.val (vI n9))])] [(D.val (.bool false))]) ∧
 (∃ n10 : Int,
 (∃ n11 : Int,
 ((Says C 82 [(D.val (vI b)), (D.val (vI c)), (D.agg [(D.val (vI g)), (D.val (vI e))])] [(D.agg [(D.val (vI n10)), (D.val (vI n11))])]) ∧
 (((Says C 147 [(D.agg [(D.val (vI n10)), (D.val (vI n11))]), (D.agg [(D.val (vI n8)), (D.val (vI n9))])] [(D.val (.bool true))]) ∧
 (((Says C 147 [(D.agg [(D.val (vI n4)), (D.val (vI n5))]), (D.agg [(D.val (vI n10)), (D.val (vI n11))])] [(D.val (.bool true))]) ∧
 (∃ n12 : Int,
 (∃ n13 : Int,
 ((Says C 82 [(D.val (vI b)), (D.val (vI d)), (D.agg [(D.val (vI g)), (D.val (vI e))])] [(D.agg [(D.val (vI n12)), (D.val (vI n13))])]) ∧
 (((Says C 147 [(D.agg [(D.val (vI n12)), (D.val (vI n13))]), (D.agg [(D.val (vI n10)), (D.val (vI n11))])] [(D.val (.bool true))]) ∧
 (((Says C 147 [(D.agg [(D.val (vI n10)), (D.val (vI n11))]), (D.agg [(D.val (vI n12)), (D.val (vI n13))])] [(D.val (.bool true))]) ∧
 (k [(D.agg [(D.val (vI n12)), (D.val (vI n13)), (D.val (vI n12)), (D.val (vI n13))]), (D.val (vI (0 : Int)))])) ∨
 ((Says C 147 [(D.agg [(D.val (vI n10)), (D.val (vI n11))]), (D.agg [(D.val (vI n12)), (D.val (vI n13))])] [(D.val (.bool false))]) ∧
 (k [(D.agg [(D.val (vI n12)), (D.val (vI n13)), (D.val (vI n10)), (D.val (vI n11))]), (D.val (vI (0 : Int)))])))) ∨
 ((Says C 147 [(D.agg [(D.val (vI n12)), (D.val (vI n13))]), (D.agg [(D.val (vI n10)), (D.val (vI n11))])] [(D.val (.bool false))]) ∧
 (((Says C 147 [(D.agg [(D.val (vI n10)), (D.val (vI n11))]), (D.agg [(D.val (vI n12)), (D.val (vI n13))])] [(D.val (.bool true))]) ∧
 (k [(D.agg [(D.val (vI n10)), (D.val (vI n11)), (D.val (vI n12)), (D.val (vI n13))]), (D.val (vI (0 : Int)))])) ∨
 ((Says C 147 [(D.agg [(D.val (vI n10)), (D.val (vI n11))]), (D.agg [(D.val (vI n12)), (D.val (vI n13))])] [(D.val (.bool false))]) ∧
 (k [(D.agg [(D.val (vI n10)), (D.val (vI n11)), (D.val (vI n10)), (D.val (vI n11))]), (D.val (vI (0 : Int)))]))))))))) ∨
 ((Says C 147 [(D.agg [(D.val (vI n4)), (D.val (vI n5))]), (D.agg [(D.val (vI n10)), (D.val (vI n11))])] [(D.val (.bool false))]) ∧
 (∃ n12 : Int,
 (∃ n13 : Int,
 ((Says C 82 [(D.val (vI b)), (D.val (vI d)), (D.agg [(D.val (vI g)), (D.val (vI e))])] [(D.agg [(D.val (vI n12)), (D.val (vI n13))])]) ∧
 (((Says C 147 [(D.agg [(D.val (vI n12)), (D.val (vI n13))]), (D.agg [(D.val (vI n10)), (D.val (vI n11))])] [(D.val (.bool true))]) ∧
 (((Says C 147 [(D.agg [(D.val (vI n4)), (D.val (vI n5))]), (D.agg [(D.val (vI n12)), (D.val (vI n13))])] [(D.val (.bool true))]) ∧
 (k [(D.agg [(D.val (vI n12)), (D.val (vI n13)), (D.val (vI n12)), (D.val (vI n13))]), (D.val (vI (0 : Int)))])) ∨
 ((Says C 147 [(D.agg [(D.val (vI n4)), (D.val (vI n5))]), (D.agg [(D.val (vI n12)), (D.val (vI n13))])] [(D.val (.bool false))]) ∧
 (k [(D.agg [(D.val (vI n12)), (D.val (vI n13)), (D.val (vI n4)), (D.val (vI n5))]), (D.val (vI (0 : Int)))])))) ∨
 ((Says C 147 [(D.agg [(D.val (vI n12)), (D.val (vI n13))]), (D.agg [(D.val (vI n10)), (D.val (vI n11))])] [(D.val (.bool false))]) ∧
 (((Says C 147 [(D.agg [(D.val (vI n4)), (D.val (vI n5))]), (D.agg [(D.val (vI n12)), (D.val (vI n13))])] [(D.val (.bool true))]) ∧
 (k [(D.agg [(D.val (vI n10)), (D.val (vI n11)), (D.val (vI n12)), (D.val (vI n13))]), (D.val (vI (0 : Int)))])) ∨
 ((Says C 147 [(D.agg [(D.val (vI n4)), (D.val (vI n5))]), (D.agg [(D.val (vI n12)), (D.val (vI n13))])] [(D.val (.bool false))]) ∧
 (k [(D.agg [(D.val (vI n10)), (D.val (vI n11)), (D.val (vI n4)), (D.val (vI n5))]), (D.val (vI (0 : Int)))]))))))))))) ∨
 ((Says C 147 [(D.agg [(D.val (vI n10)), (D.val (vI n11))]), (D.agg [(D.val (vI n8)), (D.val (vI n9))])] [(D.val (.bool false))]) ∧
 (((Says C 147 [(D.agg [(D.val (vI n4)), (D.val (vI n5))]), (D.agg [(D.val (vI n10)), (D.val (vI n11))])] [(D.val (.bool true))]) ∧
 (∃ n12 : Int,
 (∃ n13 : Int,
 ((Says C 82 [(D.val (vI b)), (D.val (vI d)), (D.agg [(D.val (vI g)), (D.val (vI e))])] [(D.agg [(D.val (vI n12)), (D.val (vI n13))])]) ∧
 (((Says C 147 [(D.agg [(D.val (vI n12)), (D.val (vI n13))]), (D.agg [(D.val (vI n8)), (D.val (vI n9))])] [(D.val (.bool true))]) ∧
 (((Says C 147 [(D.agg [(D.val (vI n10)), (D.val (vI n11))]), (D.agg [(D.val (vI n12)), (D.val (vI n13))])] [(D.val (.bool true))]) ∧
 (k [(D.agg [(D.val (vI n12)), (D.val (vI n13)), (D.val (vI n12)), (D.val (vI n13))]), (D.val (vI (0 : Int)))])) ∨
 ((Says C 147 [(D.agg [(D.val (vI n10)), (D.val (vI n11))]), (D.agg [(D.val (vI n12)), (D.val (vI n13))])] [(D.val (.bool false))]) ∧
 (k [(D.agg [(D.val (vI n12)), (D.val (vI n13)), (D.val (vI n10)), (D.val (vI n11))]), (D.val (vI (0 : Int)))])))) ∨
 ((Says C 147 [(D.agg [(D.val (vI n12)), (D.val (vI n13))]), (D.agg [(D.val (vI n8)), (D.val (vI n9))])] [(D.val (.bool false))]) ∧
 (((Says C 147 [(D.agg [(D.val (vI n10)), (D.val (vI n11))]), (D.agg [(D.val (vI n12)), (D.val (vI n13))])] [(D.val (.bool true))]) ∧
 (k [(D.agg [(D.val (vI n8)), (D.val (vI n9)), (D.val (vI n12)), (D.val (vI n13))]), (D.val (vI (0 : Int)))])) ∨
 ((Says C 147 [(D.agg [(D.val (vI n10)), (D.val (vI n11))]), (D.agg [(D.val (vI n12)), (D.val (vI n13))])] [(D.val (.bool false))]) ∧
 (k [(D.agg [(D.val (vI n8)), (D.val (vI n9)), (D.val (vI n10)), (D.val (vI n11))]), (D.val (vI (0 : Int)))]))))))))) ∨
 ((Says C 147 [(D.agg [(D.val (vI n4)), (D.val (vI n5))]), (D.agg [(D.val (vI n10)), (D.val (vI n11))])] [(D.val (.bool false))]) ∧
 (∃ n12 : Int,
 (∃ n13 : Int,
 ((Says C 82 [(D.val (vI b)), (D.val (vI d)), (D.agg [(D.val (vI g)), (D.val (vI e))])] [(D.agg [(D.val (vI n12)), (D.val (vI n13))])]) ∧
 (((Says C 147 [(D.agg [(D.val (vI n12)), (D.val (vI n13))]), (D.agg [(D.val (vI n8)), (D.val (vI n9))])] [(D.val (.bool true))]) ∧
 (((Says C 147 [(D.agg [(D.val (vI n4)), (D.val (vI n5))]), (D.agg [(D.val (vI n12)), (D.val (vI n13))])] [(D.val (.bool true))]) ∧
 (k [(D.agg [(D.val (vI n12)), (D.val (vI n13)), (D.val (vI n12)), (D.val (vI n13))]), (D.val (vI (0 : Int)))])) ∨
 ((Says C 147 [(D.agg [(D.val (vI n4)), (D.val (vI n5))]), (D.agg [(D.val (vI n12)), (D.val (vI n13))])] [(D.val (.bool false))]) ∧
 (k [(D.agg [(D.val (vI n12)), (D.val (vI n13)), (D.val (vI n4)), (D.val (vI n5))]), (D.val (vI (0 : Int)))])))) ∨
 ((Says C 147 [(D.agg [(D.val (vI n12)), (D.val (vI n13))]), (D.agg [(D.val (vI n8)), (D.val (vI n9))])] [(D.val (.bool false))]) ∧
 (((Says C 147 [(D.agg [(D.val (vI n4)), (D.val (vI n5))]), (D.agg [(D.val (vI n12)), (D.val (vI n13))])] [(D.val (.bool true))]) ∧
 (k [(D.agg [(D.val (vI n8)), (D.val (vI n9)), (D.val (vI n12)), (D.val (vI n13))]), (D.val (vI (0 : Int)))])) ∨
 ((Says C 147 [(D.agg [(D.val (vI n4)), (D.val (vI n5))]), (D.agg [(D.val (vI n12)), (D.val (vI n13))])] [(D.val (.bool false))]) ∧
 (k [(D.agg [(D.val (vI n8)), (D.val (vI n9)), (D.val (vI n4)), (D.val (vI n5))]), (D.val (vI (0 : Int)))])))))))))))))))))) ∨
 ((Says C 147 [(D.agg [(D.val (vI n8)), (D.val (vI n9))]), (D.agg [(D.val (vI n4)), (D.val (vI n5))])] [(D.val (.bool false))]) ∧
 (((Says C 147 [(D.agg [(D.val (vI n4)), (D.val (vI n5))]), (D.agg [(D.val (vI n8)), (D.val (vI n9))])] [(D.val (.bool true))]) ∧
 (∃ n10 : Int,
 (∃ n11 : Int,
 ((Says C 82 [(D.val (vI b)), (D.val (vI c)), (D.agg [(D.val (vI g)), (D.val (vI e))])] [(D.agg [(D.val (vI n10)), (D.val (vI n11))])]) ∧
 (((Says C 147 [(D.agg [(D.val (vI n10)), (D.val (vI n11))]), (D.agg [(D.val (vI n4)), (D.val (vI n5))])] [(D.val (.bool true))]) ∧
 (((Says C 147 [(D.agg [(D.val (vI n8)), (D.val (vI n9))]), (D.agg [(D.val (vI n10)), (D.val (vI n11))])] [(D.val (.bool true))]) ∧
 (∃ n12 : Int,
 (∃ n13 : Int,
 ((Says C 82 [(D.val (vI b)), (D.val (vI d)), (D.agg [(D.val (vI g)), (D.val (vI e))])] [(D.agg [(D.val (vI n12)), (D.val (vI n13))])]) ∧
 (((Says C 147 [(D.agg [(D.val (vI n12)), (D.val (vI n13))]), (D.agg [(D.val (vI n10)), (D.val (vI n11))])] [(D.val (.bool true))]) ∧
 (((Says C 147 [(D.agg [(D.val (vI n10)), (D.val (vI n11))]), (D.agg [(D.val (vI n12)), (D.val (vI n13))])] [(D.val (.bool true))]) ∧
 (k [(D.agg [(D.val (vI n12)), (D.val (vI n13)), (D.val (vI n12)), (D.val (vI n13))]), (D.val (vI (0 : Int)))])) ∨
 ((Says C 147 [(D.agg [(D.val (vI n10)), (D.val (vI n11))]), (D.agg [(D.val (vI n12)), (D.val (vI n13))])] [(D.val (.bool false))]) ∧
 (k [(D.agg [(D.val (vI n12)), (D.val (vI n13)), (D.val (vI n10)), (D.val (vI n11))]), (D.val (vI (0 : Int)))])))) ∨
 ((Says C 147 [(D.agg [(D.val (vI n12)), (D.val (vI n13))]), (D.agg [(D.val (vI n10)), (D.val (vI n11))])] [(D.val (.bool false))]) ∧
 (((Says C 147 [(D.agg [(D.val (vI n10)), (D.val (vI n11))]), (D.agg [(D.val (vI n12)), (D.val (vI n13))])] [(D.val (.bool true))]) ∧
 (k [(D.agg [(D.val (vI n10)), (D.val (vI n11)), (D.val (vI n12)), (D.val (vI n13))]), (D.val (vI (0 : Int)))])) ∨
 ((Says C 147 [(D.agg [(D.val (vI n10)), (D.val (vI n11))]), (D.agg [(D.val (vI n12)), (D.val (vI n13))])] [(D.val (.bool false))]) ∧
 (k [(D.agg [(D.val (vI n10)), (D.val (vI n11)), (D.val (vI n10)), (D.val (vI n11))]), (D.val (vI (0 : Int)))]))))))))) ∨
 ((Says C 147 [(D.agg [(D.val (vI n8)), (D.val (vI n9))]), (D.agg [(D.val (vI n10)), (D.val (vI n11))])] [(D.val (.bool false))]) ∧
 (∃ n12 : Int,
 (∃ n13 : Int,
 ((Says C 82 [(D.val (vI b)), (D.val (vI d)), (D.agg [(D.val (vI g)), (D.val (vI e))])] [(D.agg [(D.val (vI n12)), (D.val (vI n13))])]) ∧
 (((Says C 147 [(D.agg [(D.val (vI n12)), (D.val (vI n13))]), (D.agg [(D.val (vI n10)), (D.val (vI n11))])] [(D.val (.bool true))]) ∧
 (((Says C 147 [(D.agg [(D.val (vI n8)), (D.val (vI n9))]), (D.agg [(D.val (vI n12)), (D.val (vI n13))])] [(D.val (.bool true))]) ∧
 (k [(D.agg [(D.val (vI n12)), (D.val (vI n13)), (D.val (vI n12)), (D.val (vI n13))]), (D.val (vI (0 : Int)))])) ∨
 ((Says C 147 [(D.agg [(D.val (vI n8)), (D.val (vI n9))]), (D.agg [(D.val (vI n12)), (D.val (vI n13))])] [(D.val (.bool false))]) ∧
 (k [(D.agg [(D.val (vI n12)), (D.val (vI n13)), (D.val (vI n8)), (D.val (vI n9))]), (D.val (vI (0 : Int)))])))) ∨
 ((Says C 147 [(D.agg [(D.val (vI n12)), (D.val (vI n13))]), (D.agg [(D.val (vI n10)), (D.val (vI n11))])] [(D.val (.bool false))]) ∧
 (((Says C 147 [(D.agg [(D.val (vI n8)), (D.val (vI n9))]), (D.agg [(D.val (vI n12)), (D.val (vI n13))])] [(D.val (.bool true))]) ∧
 (k [(D.agg [(D.val (vI n10)), (D.val (vI n11)), (D.val (vI n12)), (D.val (vI n13))]), (D.val (vI (0 : Int)))])) ∨
 ((Says C 147 [(D.agg [(D.val (vI n8)), (D.val (vI n9))]), (D.agg [(D.val (vI n12)), (D.val (vI n13))])] [(D.val (.bool false))]) ∧
 (k [(D.agg [(D.val (vI n10)), (D.val (vI n11)), (D.val (vI n8)), (D.val (vI n9))]), (D.val (vI (0 : Int)))]))))))))))) ∨
 ((Says C 147 [(D.agg [(D.val (vI n10)), (D.val (vI n11))]), (D.agg [(D.val (vI n4)), (D.val (vI n5))])] [(D.val (.bool false))]) ∧
 (((Says C 147 [(D.agg [(D.val (vI n8)), (D.val (vI n9))]), (D.agg [(D.val (vI n10)), (D.val (vI n11))])] [(D.val (.bool true))]) ∧
 (∃ n12 : Int,
 (∃ n13 : Int,
 ((Says C 82 [(D.val (vI b)), (D.val (vI d)), (D.agg [(D.val (vI g)), (D.val (vI e))])] [(D.agg [(D.val (vI n12)), (D.val (vI n13))])]) ∧
 (((Says C 147 [(D.agg [(D.val (vI n12)), (D.val (vI n13))]), (D.agg [(D.val (vI n4)), (D.val (vI n5))])] [(D.val (.bool true))]) ∧
 (((Says C 147 [(D.agg [(D.val (vI n10)), (D.val (vI n11))]), (D.agg [(D.val (vI n12)), (D.val (vI n13))])] [(D.val (.bool true))]) ∧
 (k [(D.agg [(D.val (vI n12)), (D.val (vI n13)), (D.val (vI n12)), (D.val (vI n13))]), (D.val (vI (0 : Int)))])) ∨
 ((Says C 147 [(D.agg [(D.val (vI n10)), (D.val (vI n11))]), (D.agg [(D.val (vI n12)), (D.val (vI n13))])] [(D.val (.bool false))]) ∧
 (k [(D.agg [(D.val (vI n12)), (D.val (vI n13)), (D.val (vI n10)), (D.val (vI n11))]), (D.val (vI (0 : Int)))])))) ∨
 ((Says C 147 [(D.agg [(D.val (vI n12)), (D.val (vI n13))]), (D.agg [(D.val (vI n4)), (D.val (vI n5))])] [(D.val (.bool false))]) ∧
 (((Says C 147 [(D.agg [(D.val (vI n10)), (D.val (vI n11))]), (D.agg [(D.val (vI n12)), (D.val (vI n13))])] [(D.val (.bool true))]) ∧
 (k [(D.agg [(D.val (vI n4)), (D.val (vI n5)), (D.val (vI n12)), (D.val (vI n13))]), (D.val (vI (0 : Int)))])) ∨
 ((Says C 147 [(D.agg [(D.val (vI n10)), (D.val (vI n11))]), (D.agg [(D.val (vI n12)), (D.val (vI n13))])] [(D.val (.bool false))]) ∧
 (k [(D.agg [(D.val (vI n4)), (D.val (vI n5)), (D.val (vI n10)), (D.val (vI n11))]), (D.val (vI (0 : Int)))]))))))))) ∨
 ((Says C 147 [(D.agg [(D.val (vI n8)), (D.val (vI n9))]), (D.agg [(D.val (vI n10)), (D.val (vI n11))])] [(D.val (.bool false))]) ∧
 (∃ n12 : Int,
 (∃ n13 : Int,
 ((Says C 82 [(D.val (vI b)), (D.val (vI d)), (D.agg [(D.val (vI g)), (D.val (vI e))])] [(D.agg [(D.val (vI n12)), (D.val (vI n13))])]) ∧
 (((Says C 147 [(D.agg [(D.val (vI n12)), (D.val (vI n13))]), (D.agg [(D.val (vI n4)), (D.val (vI n5))])] [(D.val (.bool true))]) ∧
 (((Says C 147 [(D.agg [(D.val (vI n8)), (D.val (vI n9))]), (D.agg [(D.val (vI n12)), (D.val (vI n13))])] [(D.val (.bool true))]) ∧
 (k [(D.agg [(D.val (vI n12)), (D.val (vI n13)), (D.val (vI n12)), (D.val (vI n13))]), (D.val (vI (0 : Int)))])) ∨
 ((Says C 147 [(D.agg [(D.val (vI n8)), (D.val (vI n9))]), (D.agg [(D.val (vI n12)), (D.val (vI n13))])] [(D.val (.bool false))]) ∧
 (k [(D.agg [(D.val (vI n12)), (D.val (vI n13)), (D.val (vI n8)), (D.val (vI n9))]), (D.val (vI (0 : Int)))])))) ∨
 ((Says C 147 [(D.agg [(D.val (vI n12)), (D.val (vI n13))]), (D.agg [(D.val (vI n4)), (D.val (vI n5))])] [(D.val (.bool false))]) ∧
 (((Says C 147 [(D.agg [(D.val (vI n8)), (D.val (vI n9))]), (D.agg [(D.val (vI n12)), (D.val (vI n13))])] [(D.val (.bool true))]) ∧
 (k [(D.agg [(D.val (vI n4)), (D.val (vI n5)), (D.val (vI n12)), (D.val (vI n13))]), (D.val (vI (0 : Int)))])) ∨
 ((Says C 147 [(D.agg [(D.val (vI n8)), (D.val (vI n9))]), (D.agg [(D.val (vI n12)), (D.val (vI n13))])] [(D.val (.bool false))]) ∧
 (k [(D.agg [(D.val (vI n4)), (D.val (vI n5)), (D.val (vI n8)), (D.val (vI n9))]), (D.val (vI (0 : Int)))])))))))))))))))) ∨
 ((Says C 147 [(D.agg [(D.val (vI n4)), (D.val (vI n5))]), (D.agg [(D.val (vI n8)), (D.val (vI n9))])] [(D.val (.bool false))]) ∧
 (∃ n10 : Int,
 (∃ n11 : Int,
 ((Says C 82 [(D.val (vI b)), (D.val (vI c)), (D.agg [(D.val (vI g)), (D.val (vI e))])] [(D.agg [(D.val (vI n10)), (D.val (vI n11))])]) ∧
 (((Says C 147 [(D.agg [(D.val (vI n10)), (D.val (vI n11))]), (D.agg [(D.val (vI n4)), (D.val (vI n5))])] [(D.val (.bool true))]) ∧
 (((Says C 147 [(D.agg [(D.val (vI n4)), (D.val (vI n5))]), (D.agg [(D.val (vI n10)), (D.val (vI n11))])] [(D.val (.bool true))]) ∧
 (∃ n12 : Int,
 (∃ n13 : Int,
 ((Says C 82 [(D.val (vI b)), (D.val (vI d)), (D.agg [(D.val (vI g)), (D.val (vI e))])] [(D.agg [(D.val (vI n12)), (D.val (vI n13))])]) ∧
 (((Says C 147 [(D.agg [(D.val (vI n12)), (D.val (vI n13))]), (D.agg [(D.val (vI n10)), (D.val (vI n11))])] [(D.val (.bool true))]) ∧
 (((Says C 147 [(D.agg [(D.val (vI n10)), (D.val (vI n11))]), (D.agg [(D.val (vI n12)), (D.val (vI n13))])] [(D.val (.bool true))]) ∧
 (k [(D.agg [(D.val (vI n12)), (D.val (vI n13)), (D.val (vI n12)), (D.val (vI n13))]), (D.val (vI (0 : Int)))])) ∨
 ((Says C 147 [(D.agg [(D.val (vI n10)), (D.val (vI n11))]), (D.agg [(D.val (vI n12)), (D.val (vI n13))])] [(D.val (.bool false))]) ∧
 (k [(D.agg [(D.val (vI n12)), (D.val (vI n13)), (D.val (vI n10)), (D.val (vI n11))]), (D.val (vI (0 : Int)))])))) ∨
 ((Says C 147 [(D.agg [(D.val (vI n12)), (D.val (vI n13))]), (D.agg [(D.val (vI n10)), (D.val (vI n11))])] [(D.val (.bool false))]) ∧
 (((Says C 147 [(D.agg [(D.val (vI n10)), (D.val (vI n11))]), (D.agg [(D.val (vI n12)), (D.val (vI n13))])] [(D.val (.bool true))]) ∧
 (k [(D.agg [(D.val (vI n10)), (D.val (vI n11)), (D.val (vI n12)), (D.val (vI n13))]), (D.val (vI (0 : Int)))])) ∨
 ((Says C 147 [(D.agg [(D.val (vI n10)), (D.val (vI n11))]), (D.agg [(D.val (vI n12)), (D.val (vI n13))])] [(D.val (.bool false))]) ∧
 (k [(D.agg [(D.val (vI n10)), (D.val (vI n11)), (D.val (vI n10)), (D.val (vI n11))]), (D.val (vI (0 : Int)))]))))))))) ∨
 ((Says C 147 [(D.agg [(D.val (vI n4)), (D.val (vI n5))]), (D.agg [(D.val (vI n10)), (D.val (vI n11))])] [(D.val (.bool false))]) ∧
 (∃ n12 : Int,
 (∃ n13 : Int,
 ((Says C 82 [(D.val (vI b)), (D.val (vI d)), (D.agg [(D.val (vI g)), (D.val (vI e))])] [(D.agg [(D.val (vI n12)), (D.val (vI n13))])]) ∧
 (((Says C 147 [(D.agg [(D.val (vI n12)), (D.val (vI n13))]), (D.agg [(D.val (vI n10)), (D.val (vI n11))])] [(D.val (.bool true))]) ∧
 (((Says C 147 [(D.agg [(D.val (vI n4)), (D.val (vI n5))]), (D.agg [(D.val (vI n12)), (D.val (vI n13))])] [(D.val (.bool true))]) ∧
 (k [(D.agg [(D.val (vI n12)), (D.val (vI n13)), (D.val (vI n12)), (D.val (vI n13))]), (D.val (vI (0 : Int)))])) ∨
 ((Says C 147 [(D.agg [(D.val (vI n4)), (D.val (vI n5))]), (D.agg [(D.val (vI n12)), (D.val (vI n13))])] [(D.val (.bool false))]) ∧
 (k [(D.agg [(D.val (vI n12)), (D.val (vI n13)), (D.val (vI n4)), (D.val (vI n5))]), (D.val (vI (0 : Int)))])))) ∨
 ((Says C 147 [(D.agg [(D.val (vI n12)), (D.val (vI n13))]), (D.agg [(D.val (vI n10)), (D.val (vI n11))])] [(D.val (.bool false))]) ∧
 (((Says C 147 [(D.agg [(D.val (vI n4)), (D.val (vI n5))]), (D.agg [(D.val (vI n12)), (D.val (vI n13))])] [(D.val (.bool true))]) ∧
 (k [(D.agg [(D.val (vI n10)), (D.val (vI n11)), (D.val (vI n12)), (D.val (vI n13))]), (D.val (vI (0 : Int)))])) ∨
 ((Says C 147 [(D.agg [(D.val (vI n4)), (D.val (vI n5))]), (D.agg [(D.val (vI n12)), (D.val (vI n13))])] [(D.val (.bool false))]) ∧
 (k [(D.agg [(D.val (vI n10)), (D.val (vI n11)), (D.val (vI n4)), (D.val (vI n5))]), (D.val (vI (0 : Int)))]))))))))))) ∨
 ((Says C 147 [(D.agg [(D.val (vI n10)), (D.val (vI n11))]), (D.agg [(D.val (vI n4)), (D.val (vI n5))])] [(D.val (.bool false))]) ∧
 (((Says C 147 [(D.agg [(D.val (vI n4)), (D.val (vI n5))]), (D.agg [(D.val (vI n10)), (D.val (vI n11))])] [(D.val (.bool true))]) ∧
 (∃ n12 : Int,
 (∃ n13 : Int,
 ((Says C 82 [(D.val (vI b)), (D.val (vI d)), (D.agg [(D.val (vI g)), (D.val (vI e))])] [(D.agg [(D.val (vI n12)), (D.val (vI n13))])]) ∧
 (((Says C 147 [(D.agg [(D.val (vI n12)), (D.val (vI n13))]), (D.agg [(D.val (vI n4)), (D.val (vI n5))])] [(D.val (.bool true))]) ∧
 (((Says C 147 [(D.agg [(D.val (vI n10)), (D.val (vI n11))]), (D.agg [(D.val (vI n12)), (D.val (vI n13))])] [(D.val (.bool true))]) ∧
 (k [(D.agg [(D.val (vI n12)), (D.val (vI n13)), (D.val (vI n12)), (D.val (vI n13))]), (D.val (vI (0 : Int)))])) ∨
 ((Says C 147 [(D.agg [(D.val (vI n10)), (D.val (vI n11))]), (D.agg [(D.val (vI n12)), (D.val (vI n13))])] [(D.val (.bool false))]) ∧
 (k [(D.agg [(D.val (vI n12)), (D.val (vI n13)), (D.val (vI n10)), (D.val (vI n11))]), (D.val (vI (0 : Int)))])))) ∨
 ((Says C 147 [(D.agg [(D.val (vI n12)), (D.val (vI n13))]), (D.agg [(D.val (vI n4)), (D.val (vI n5))])] [(D.val (.bool false))]) ∧
 (((Says C 147 [(D.agg [(D.val (vI n10)), (D.val (vI n11))]), (D.agg [(D.val (vI n12)), (D.val (vI n13))])] [(D.val (.bool true))]) ∧
 (k [(D.agg [(D.val (vI n4)), (D.val (vI n5)), (D.val (vI n12)), (D.val (vI n13))]), (D.val (vI (0 : Int)))])) ∨
 ((Says C 147 [(D.agg [(D.val (vI n10)), (D.val (vI n11))]), (D.agg [(D.val (vI n12)), (D.val (vI n13))])] [(D.val (.bool false))]) ∧
 (k [(D.agg [(D.val (vI n4)), (D.val (vI n5)), (D.val (vI n10)), (D.val (vI n11))]), (D.val (vI (0 : Int)))]))))))))) ∨
 ((Says C 147 [(D.agg [(D.val (vI n4)), (D.val (vI n5))]), (D.agg [(D.val (vI n10)), (D.val (vI n11))])] [(D.val (.bool false))]) ∧
 (∃ n12 : Int,
 (∃ n13 : Int,
 ((Says C 82 [(D.val (vI b)), (D.val (vI d)), (D.agg [(D.val (vI g)), (D.val (vI e))])] [(D.agg [(D.val (vI n12)), (D.val (vI n13))])]) ∧
 (((Says C 147 [(D.agg [(D.val (vI n12)), (D.val (vI n13))]), (D.agg [(D.val (vI n4)), (D.val (vI n5))])] [(D.val (.bool true))]) ∧
 (((Says C 147 [(D.agg [(D.val (vI n4)), (D.val (vI n5))]), (D.agg [(D.val (vI n12)), (D.val (vI n13))])] [(D.val (.bool true))]) ∧
 (k [(D.agg [(D.val (vI n12)), (D.val (vI n13)), (D.val (vI n12)), (D.val (vI n13))]), (D.val (vI (0 : Int)))])) ∨
 ((Says C 147 [(D.agg [(D.val (vI n4)), (D.val (vI n5))]), (D.agg [(D.val (vI n12)), (D.val (vI n13))])] [(D.val (.bool false))]) ∧
 (k [(D.agg [(D.val (vI n12)), (D.val (vI n13)), (D.val (vI n4)), (D.val (vI n5))]), (D.val (vI (0 : Int)))])))) ∨
 ((Says C 147 [(D.agg [(D.val (vI n12)), (D.val (vI n13))]), (D.agg [(D.val (vI n4)), (D.val (vI n5))])] [(D.val (.bool false))]) ∧
 (((Says C 147 [(D.agg [(D.val (vI n4)), (D.val (vI n5))]), (D.agg [(D.val (vI n12)), (D.val (vI n13))])] [(D.val (.bool true))]) ∧
 (k [(D.agg [(D.val (vI n4)), (D.val (vI n5)), (D.val (vI n12)), (D.val (vI n13))]), (D.val (vI (0 : Int)))])) ∨
 ((Says C 147 [(D.agg [(D.val (vI n4)), (D.val (vI n5))]), (D.agg [(D.val (vI n12)), (D.val (vI n13))])] [(D.val (.bool false))]) ∧
 (k [(D.agg [(D.val (vI n4)), (D.val (vI n5)), (D.val (vI n4)), (D.val (vI n5))]), (D.val (vI (0 : Int)))])))))))))))))))))))))))))))))))))))))))))))) := by kernel_rfl
def gGS (C : Ct) (L : AtLoop) (a b c d e x : Int) (k : List D → Prop) : Prop := wpFn Tryz.prog (hS C) L 0 15 #[vA a b c d, vI e, vI x] (heapOf []) (dataK k)
theorem gGS_text (C : Ct) (L : AtLoop) (a : Int) (b : Int) (c : Int) (d : Int) (e : Int) (x : Int) (k : List D → Prop) : gGS C L a b c d e x k =
 (((((Go.Value.slice (Option.some (Go.Addr.mk 1004 0 Option.none)) 2 2) = (Go.Value.slice (Option.some (Go.Addr.mk 1004 0 Option.none)) 2 2)) ∧
 ((Option.some (AObj.cells [(vI e), (vI x)] 3 false 1)) = (Option.some (AObj.cells [(vI e), (vI x)] 3 false 1)))) ∧
 (((vI x) = (vI x)) ∧
 (((vI e) = (vI e)) ∧
 (((Go.Value.agg [(vI a), (vI b), (vI c), (vI d)].toArray) = (Go.Value.agg [(vI a), (vI b), (vI c), (vI d)].toArray)) ∧
 True)))) ∧
 (∃ n1 : Int,
 ((Says C 20 [(D.agg [(D.val (vI a)), (D.val (vI b)), (D.val (vI c)), (D.val (vI d))])] [(D.val (vI n1))]) ∧
 (((((Go.Value.slice (Option.some (Go.Addr.mk 1004 0 Option.none)) 2 2) = (Go.Value.slice (Option.some (Go.Addr.mk 1004 0 Option.none)) 2 2)) ∧
 ((Option.some (AObj.cells [(vI e), (vI x)] 3 false 1)) = (Option.some (AObj.cells [(vI e), (vI x)] 3 false 1)))) ∧
 (((vI x) = (vI x)) ∧
 (((vI e) = (vI e)) ∧
 True))) ∧
 (∃ r1 : Int,
 ((Says witC 0 [(D.val (vI (1 : Int))), (D.val (vI (100000 : Int))), (D.val (vI (2 : Int))), (D.sl 2 1 [(vI e), (vI x)])] [(D.val (vI r1))]) ∧
 (((((Go.Value.slice (Option.some (Go.Addr.mk 1007 0 Option.none)) 2 2) = (Go.Value.slice (Option.some (Go.Addr.mk 1007 0 Option.none)) 2 2)) ∧
 ((Option.some (AObj.cells [(vI n1), (vI r1)] 33 false 1)) = (Option.some (AObj.cells [(vI n1), (vI r1)] 33 false 1)))) ∧
 (((vI x) = (vI x)) ∧
 (((vI e) = (vI e)) ∧
 True))) ∧
 (∃ n2 : Int,
 ((Says C 78 [(D.sl 2 1 [(vI n1), (vI r1)])] [(D.val (vI n2))]) ∧
 ((((vI x) = (vI x)) ∧
 (((vI e) = (vI e)) ∧
 True)) ∧
 (True ∧
 (bcase (n2 != 0)
 (k [(D.agg [(D.val (vI (0 : Int))), (D.val (vI (0 : Int))), (D.val (vI (0 : Int))), (D.val (vI (0 : Int)))]), (D.val (vI n2))])
 (bcase (decide (x > e))
 (k [(D.agg [(D.val (vI (0 : Int))), (D.val (vI (0 : Int))), (D.val (vI (0 : Int))), (D.val (vI (0 : Int)))]), (D.val (vI (9 : Int)))])
 (∃ n3 : Int,
 (∃ n4 : Int,
 ((Says C 87 [(D.val (vI a)), (D.val (vI c)), (D.val (vI e)), (D.val (vI x))] [(D.agg [(D.val (vI n3)), (D.val (vI n4))])]) ∧
 (∃ n5 : Int,
 (∃ n6 : Int,
 ((Says C 87 [(D.val (vI a)), (D.val (vI c)), (D.val (vI e)), (D.val (vI x))] [(D.agg [(D.val (vI n5)), (D.val (vI n6))])]) ∧
 (((Says C 147 [(D.agg [(D.val (vI n5)), (D.val (vI n6))]), (D.agg [(D.val (vI n3)), (D.val (vI n4))])] [(D.val (.bool true))]) ∧
 (((Says C 147 [(D.agg [(D.val (vI n3)), (D.val (vI n4))]), (D.agg [(D.val (vI n5)), (D.val (vI n6))])] [(D.val (.bool true))]) ∧
 (∃ n7 : Int,
 (∃ n8 : Int,
 ((Says C 87 [(D.val (vI a)), (D.val (vI d)), (D.val (vI e)), (D.val (vI x))] [(D.agg [(D.val (vI n7)), (D.val (vI n8))])]) ∧
 (((Says C 147 [(D.agg [(D.val (vI n7)), (D.val (vI n8))]), (D.agg [(D.val (vI n5)), (D.val (vI n6))])] [(D.val (.bool true))]) ∧
 (((Says C 147 [(D.agg [(D.val (vI n5)), (D.val (vI n6))]), (D.agg [(D.val (vI n7)), (D.val (vI n8))])] [(D.val (.bool true))]) ∧
 (∃ n9 : Int,
 (∃ n10 : Int,
 ((Says C 87 [(D.val (vI b)), (D.val (vI c)), (D.val (vI e)), (D.val (vI x))] [(D.agg [(D.val (vI n9)), (D.val (vI n10))])]) ∧
 (((Says C 147 [(D.agg [(D.val (vI n9)), (D.val (vI n10))]), (D.agg [(D.val (vI n7)), (D.val (vI n8))])] [(D.val (.bool true))]) ∧
 (((Says C 147 [(D.agg [(D.val (vI n7)), (D.val (vI n8))]), (D.agg [(D.val (vI n9)), (D.val (vI n10))])] [(D.val (.bool true))]) ∧
 (∃ n11 : Int,
 (∃ n12 : Int,
 ((Says C 87 [(D.val (vI b)), (D.val (vI d)), (D.val (vI e)), (D.val (vI x))] [(D.agg [(D.val (vI n11)), (D.val (vI n12))])]) ∧
 (((Says C 147 [(D.agg [(D.val (vI n11)), (D.val (vI n12))]), (D.agg [(D.val (vI n9)), (D.val (vI n10))])] [(D.val (.bool true))]) ∧
 (((Says C 147 [(D.agg [(D.val (vI n9)), (D.val (vI n10))]), (D.agg [(D.val (vI n11)), (D.val (vI n12))])] [(D.val (.bool true))]) ∧
 (k [(D.agg [(D.val (vI n11)), (D.val (vI n12)), (D.val (vI n11)), (D.val (vI n12))]), (D.val (vI (0 : Int)))])) ∨
 ((Says C 147 [(D.agg [(D.val (vI n9)), (D.val (vI n10))]), (D.agg [(D.val (vI n11)), (D.val (vI n12))])] [(D.val (.bool false))]) ∧
 (k [(D.agg [(D.val (vI n11)), (D.val (vI n12)), (D.val (vI n9)), (D.val (vI n10))]), (D.val (vI (0 : Int)))])))) ∨
 ((Says C 147 [(D.agg [(D.val (vI n11)), (D.val (vI n12))]), (D.agg [(D.val (vI n9)), (D.val (vI n10))])] [(D.val (.bool false))]) ∧
 (((Says C 147 [(D.agg [(D.val (vI n9)), (D.val (vI n10))]), (D.agg [(D.val (vI n11)), (D.val (vI n12))])] [(D.val (.bool true))]) ∧
 (k [(D.agg [(D.val (vI n9)), (D.val (vI n10)), (D.val (vI n11)), (D.val (vI n12))]), (D.val (vI (0 : Int)))])) ∨
 ((Says C 147 [(D.agg [(D.val (vI n9)), (D.val (vI n10))]), (D.agg [(D.val (vI n11)), (D.val (vI n12))])] [(D.val (.bool false))]) ∧
 (k [(D.agg [(D.val (vI n9)), (D.val (vI n10)), (D.val (vI n9)), (D.val (vI n10))]), (D.val (vI (0 : Int)))]))))))))) ∨
 ((Says C 147 [(D.agg [(D.val (vI n7)), (D.val (vI n8))]), (D.agg [(D.val (vI n9)), (D.val (vI n10))])] [(D.val (.bool false))]) ∧
 (∃ n11 : Int,
 (∃ n12 : Int,
 ((Says C 87 [(D.val (vI b)), (D.val (vI d)), (D.val (vI e)), (D.val (vI x))] [(D.agg [(D.val (vI n11)), (D.val (vI n12))])]) ∧
 (((Says C 147 [(D.agg [(D.val (vI n11)), (D.val (vI n12))]), (D.agg [(D.val (vI n9)), (D.val (vI n10))])] [(D.val (.bool true))]) ∧
 (((Says C 147 [(D.agg [(D.val (vI n7)), (D.val (vI n8))]), (D.agg [(D.val (vI n11)), (D.val (vI n12))])] [(D.val (.bool true))]) ∧
 (k [(D.agg [(D.val (vI n11)), (D.val (vI n12)), (D.val (vI n11)), (D.val (vI n12))]), (D.val (vI (0 : Int)))])) ∨
 ((Says C 147 [(D.agg [(D.val (vI n7)), (D.val (vI n8))]), (D.agg [(D.val (vI n11)), (D.val (vI n12))])] [(D.val (.bool false))]) ∧
 (k [(D.agg [(D.val (vI n11)), (D.val (vI n12)), (D.val (vI n7)), (D.val (vI n8))]), (D.val (vI (0 : Int)))])))) ∨
 ((Says C 147 [(D.agg [(D.val (vI n11)), (D.val (vI n12))]), (D.agg [(D.val (vI n9)), (D.val (vI n10))])] [(D.val (.bool false))]) ∧
 (((Says C 147 [(D.agg [(D.val (vI n7)), (D.val (vI n8))]), (D.agg [(D.val (vI n11)), (D.val (vI n12))])] [(D.val (.bool true))]) ∧
 (k [(D.agg [(D.val (vI n9)), (D.val (vI n10)), (D.val (vI n11)), (D.val (vI n12))]), (D.val (vI (0 : Int)))])) ∨
 ((Says C 147 [(D.agg [(D.val (vI n7)), (D.val (vI n8))]), (D.agg [(D.val (vI n11)), (D.val (vI n12))])] [(D.val (.bool false))]) ∧
 (k [(D.agg [(D.val (vI n9)), (D.val (vI n10)), (D.val (vI n7)), (D.val (vI n8))]), (D.val (vI (0 : Int)))]))))))))))) ∨
 ((Says C 147 [(D.agg [(D.val (vI n9)), (D.val (vI n10))]), (D.agg [(D.val (vI n7)), (D.val (vI n8))])] [(D.val (.bool false))]) ∧
 (((Says C 147 [(D.agg [(D.val (vI n7)), (D.val (vI n8))]), (D.agg [(D.val (vI n9)), (D.val (vI n10))])] [(D.val (.bool true))]) ∧
 (∃ n11 : Int,
 (∃ n12 : Int,
 ((Says C 87 [(D.val (vI b)), (D.val (vI d)), (D.val (vI e)), (D.val (vI x))] [(D.agg [(D.val (vI n11)), (D.val (vI n12))])]) ∧
 (((Says C 147 [(D.agg [(D.val (vI n11)), (D.val (vI n12))]), (D.agg [(D.val (vI n7)), (D.val (vI n8))])] [(D.val (.bool true))]) ∧
 (((Says C 147 [(D.agg [(D.val (vI n9)), (D.val (vI n10))]), (D.agg [(D.val (vI n11)), (D.val (vI n12))])] [(D.val (.bool true))]) ∧
 (k [(D.agg [(D.val (vI n11)), (D.val (vI n12)), (D.val (vI n11)), (D.val (vI n12))]), (D.val (vI (0 : Int)))])) ∨
 ((Says C 147 [(D.agg [(D.val (vI n9)), (D.val (vI n10))]), (D.agg [(D.val (vI n11)), (D.val (vI n12))])] [(D.val (.bool false))]) ∧
 (k [(D.agg [(D.val (vI n11)), (D.val (vI n12)), (D.val (vI n9)), (D.val (vI n10))]), (D.val (vI (0 : Int)))])))) ∨
 ((Says C 147 [(D.agg [(D.val (vI n11)), (D.val (vI n12))]), (D.agg [(D.val (vI n7)), (D.val (vI n8))])] [(D.val (.bool false))]) ∧
 (((Says C 147 [(D.agg [(D.val (vI n9)), (D.val (vI n10))]), (D.agg [(D.val (vI n11)), (D.val (vI n12))])] [(D.val (.bool true))]) ∧
 (k [(D.agg [(D.val (vI n7)), (D.val (vI n8)), (D.val (vI n11)), (D.val (vI n12))]), (D.val (vI (0 : Int)))])) ∨
 ((Says C 147 [(D.agg [(D.val (vI n9)), (D.val (vI n10))]), (D.agg [(D.val (vI n11)), (D.val (vI n12))])] [(D.val (.bool false))]) ∧
 (k [(D.agg [(D.val (vI n7)), (D.val (vI n8)), (D.val (vI n9)), (D.val (vI n10))]), (D.val (vI (0 : Int)))]))))))))) ∨
 ((Says C 147 [(D.agg [(D.val (vI n7)), (D.val (vI n8))]), (D.agg [(D.val (vI n9)), (D.val (vI n10))])] [(D.val (.bool false))]) ∧
 (∃ n11 : Int,
 (∃ n12 : Int,
 ((Says C 87 [(D.val (vI b)), (D.val (vI d)), (D.val (vI e)), (D.val (vI x))] [(D.agg [(D.val (vI n11)), (D.val (vI n12))])]) ∧
 (((Says C 147 [(D.agg [(D.val (vI n11)), (D.val (vI n12))]), (D.agg [(D.val (vI n7)), (D.val (vI n8))])] [(D.val (.bool true))]) ∧
 (((Says C 147 [(D.agg [(D.val (vI n7)), (D.val (vI n8))]), (D.agg [(D.val (vI n11)), (D.val (vI n12))])] [(D.val (.bool true))]) ∧
 (k [(D.agg [(D.val (vI n11)), (D.val (vI n12)), (D.val (vI n11)), (D.val (vI n12))]), (D.val (vI (0 : Int)))])) ∨
 ((Says C 147 [(D.agg [(D.val (vI n7)), (D.val (vI n8))]), (D.agg [(D.val (vI n11)), (D.val (vI n12))])] [(D.val (.bool false))]) ∧
 (k [(D.agg [(D.val (vI n11)), (D.val (vI n12)), (D.val (vI n7)), (D.val (vI n8))]), (D.val (vI (0 : Int)))])))) ∨
 ((Says C 147 [(D.agg [(D.val (vI n11)), (D.val (vI n12))]), (D.agg [(D.val (vI n7)), (D.val (vI n8))])] [(D.val (.bool false))]) ∧
 (((Says C 147 [(D.agg [(D.val (vI n7)), (D.val (vI n8))]), (D.agg [(D.val (vI n11)), (D.val (vI n12))])] [(D.val (.bool true))]) ∧
 (k [(D.agg [(D.val (vI n7)), (D.val (vI n8)), (D.val (vI n11)), (D.val (vI n12))]), (D.val (vI (0 : Int)))])) ∨
 ((Says C 147 [(D.agg [(D.val (vI n7)), (D.val (vI n8))]), (D.agg [(D.val (vI n11)), (D.val (vI n12))])] [(D.val (.bool false))]) ∧
 (k [(D.agg [(D.val (vI n7)), (D.val (vI n8)), (D.val (vI n7)), (D.val (vI n8))]), (D.val (vI (0 : Int)))])))))))))))))))) ∨
 ((Says C 147 [(D.agg [(D.val (vI n5)), (D.val (vI n6))]), (D.agg [(D.val (vI n7)), (D.val (vI n8))])] [(D.val (.bool false))]) ∧
 (∃ n9 : Int,
 (∃ n10 : Int,
 ((Says C 87 [(D.val (vI b)), (D.val (vI c)), (D.val (vI e)), (D.val (vI x))] [(D.agg [(D.val (vI n9)), (D.val (vI n10))])]) ∧
 (((Says C 147 [(D.agg [(D.val (vI n9)), (D.val (vI n10))]), (D.agg [(D.val (vI n7)), (D.val (vI n8))])] [(D.val (.bool true))]) ∧
 (((Says C 147 [(D.agg [(D.val (vI n5)), (D.val (vI n6))]), (D.agg [(D.val (vI n9)), (D.val (vI n10))])] [(D.val (.bool true))]) ∧
 (∃ n11 : Int,
 (∃ n12 : Int,
 ((Says C 87 [(D.val (vI b)), (D.val (vI d)), (D.val (vI e)), (D.val (vI x))] [(D.agg [(D.val (vI n11)), (D.val (vI n12))])]) ∧
 (((Says C 147 [(D.agg [(D.val (vI n11)), (D.val (vI n12))]), (D.agg [(D.val (vI n9)), (D.val (vI n10))])] [(D.val (.bool true))]) ∧
 (((Says C 147 [(D.agg [(D.val (vI n9)), (D.val (vI n10))]), (D.agg [(D.val (vI n11)), (D.val (vI n12))])] [(D.val (.bool true))]) ∧
 (k [(D.agg [(D.val (vI n11)), (D.val (vI n12)), (D.val (vI n11)), (D.val (vI n12))]), (D.val (vI (0 : Int)))])) ∨
 ((Says C 147 [(D.agg [(D.val (vI n9)), (D.val (vI n10))]), (D.agg [(D.val (vI n11)), (D.val (vI n12))])] [(D.val (.bool false))]) ∧
 (k [(D.agg [(D.val (vI n11)), (D.val (vI n12)), (D.val (vI n9)), (D.val (vI n10))]), (D.val (vI (0 : Int)))])))) ∨
 ((Says C 147 [(D.agg [(D.val (vI n11)), (D.val (vI n12))]), (D.agg [(D.val (vI n9)), (D.val (vI n10))])] [(D.val (.bool false))]) ∧
 (((Says C 147 [(D.agg [(D.val (vI n9)), (D.val (vI n10))]), (D.agg [(D.val (vI n11)), (D.val (vI n12))])] [(D.val (.bool true))]) ∧
 (k [(D.agg [(D.val (vI n9)), (D.val (vI n10)), (D.val (vI n11)), (D.val (vI n12))]), (D.val (vI (0 : Int)))])) ∨
 ((Says C 147 [(D.agg [(D.val (vI n9)), (D.val (vI n10))]), (D.agg [(D.val (vI n11)), (D.val (vI n12))])] [(D.val (.bool false))]) ∧
 (k [(D.agg [(D.val (vI n9)), (D.val (vI n10)), (D.val (vI n9)), (D.val (vI n10))]), (D.val (vI (0 : Int)))]))))))))) ∨
 ((Says C 147 [(D.agg [(D.val (vI n5)), (D.val (vI n6))]), (D.agg [(D.val (vI n9)), (D.val (vI n10))])] [(D.val (.bool false))]) ∧
 (∃ n11 : Int,
 (∃ n12 : Int,
 ((Says C 87 [(D.val (vI b)), (D.val (vI d)), (D.val (vI e)), (D.val (vI x))] [(D.agg [(D.val (vI n11)), (D.val (vI n12))])]) ∧
 (((Says C 147 [(D.agg [(D.val (vI n11)), (D.val (vI n12))]), (D.agg [(D.val (vI n9)), (D.val (vI n10))])] [(D.val (.bool true))]) ∧
 (((Says C 147 [(D.agg [(D.val (vI n5)), (D.val (vI n6))]), (D.agg [(D.val (vI n11)), (D.val (vI n12))])] [(D.val (.bool true))]) ∧
 (k [(D.agg [(D.val (vI n11)), (D.val (vI n12)), (D.val (vI n11)), (D.val (vI n12))]), (D.val (vI (0 : Int)))])) ∨
 ((Says C 147 [(D.agg [(D.val (vI n5)), (D.val (vI n6))]), (D.agg [(D.val (vI n11)), (D.val (vI n12))])] [(D.val (.bool false))]) ∧
 (k [(D.agg [(D.val (vI n11)), (D.val (vI n12)), (D.val (vI n5)), (D.val (vI n6))]), (D.val (vI (0 : Int)))])))) ∨
 ((Says C 147 [(D.agg [(D.val (vI n11)), (D.val (vI n12))]), (D.agg [(D.val (vI n9)), (D.val (vI n10))])] [(D.val (.bool false))]) ∧
 (((Says C 147 [(D.agg [(D.val (vI n5)), (D.val (vI n6))]), (D.agg [(D.val (vI n11)), (D.val (vI n12))])] [(D.val (.bool true))]) ∧
 (k [(D.agg [(D.val (vI n9)), (D.val (vI n10)), (D.val (vI n11)), (D.val (vI n12))]), (D.val (vI (0 : Int)))])) ∨
 ((Says C 147 [(D.agg [(D.val (vI n5)), (D.val (vI n6))]), (D.agg [(D.val (vI n11)), (D.val (vI n12))])] [(D.val (.bool false))]) ∧
 (k [(D.agg [(D.val (vI n9)), (D.val (vI n10)), (D.val (vI n5)), (D.val (vI n6))]), (D.val (vI (0 : Int)))]))))))))))) ∨
 ((Says C 147 [(D.agg [(D.val (vI n9)), (D.val (vI n10))]), (D.agg [(D.val (vI n7)), (D.val (vI n8))])] [(D.val (.bool false))]) ∧
 (((Says C 147 [(D.agg [(D.val (vI n5)), (D.val (vI n6))]), (D.agg [(D.val (vI n9)), (D.val (vI n10))])] [(D.val (.bool true))]) ∧
 (∃ n11 : Int,
 (∃ n12 : Int,
 ((Says C 87 [(D.val (vI b)), (D.val (vI d)), (D.val (vI e)), (D.val (vI x))] [(D.agg [(D.val (vI n11)), (D.val (vI n12))])]) ∧
 (((Says C 147 [(D.agg [(D.val (vI n11)), (D.val (vI n12))]), (D.agg [(D.val (vI n7)), (D.val (vI n8))])] [(D.val (.bool true))]) ∧
 (((Says C 147 [(D.agg [(D.val (vI n9)), (D.val (vI n10))]), (D.agg [(D.val (vI n11)), (D.val (vI n12))])] [(D.val (.bool true))]) ∧
 (k [(D.agg [(D.val (vI n11)), (D.val (vI n12)), (D.val (vI n11)), (D.val (vI n12))]), (D.val (vI (0 : Int)))])) ∨
 ((Says C 147 [(D.agg [(D.val (vI n9)), (D.val (vI n10))]), (D.agg [(D.val (vI n11)), (D.val (vI n12))])] [(D.val (.bool false))]) ∧
 (k [(D.agg [(D.val (vI n11)), (D.val (vI n12)), (D.val (vI n9)), (D.val (vI n10))]), (D.val (vI (0 : Int)))])))) ∨
 ((Says C 147 [(D.agg [(D.val (vI n11)), (D.val (vI n12))]), (D.agg [(D.val (vI n7)), (D.val (vI n8))])] [(D.val (.bool false))]) ∧
 (((Says C 147 [(D.agg [(D.val (vI n9)), (D.val (vI n10))]), (D.agg [(D.val (vI n11)), (D.val (vI n12))])] [(D.val (.bool true))]) ∧
 (k [(D.agg [(D.val (vI n7)), (D.val (vI n8)), (D.val (vI n11)), (D.val (vI n12))]), (D.val (vI (0 : Int)))])) ∨
 ((Says C 147 [(D.agg [(D.val (vI n9)), (D.val (vI n10))]), (D.agg [(D.val (vI n11)), (D.val (vI n12))])] [(D.val (.bool false))]) ∧
 (k [(D.agg [(D.val (vI n7)), (D.val (vI n8)), (D.val (vI n9)), (D.val (vI n10))]), (D.val (vI (0 : Int)))]))))))))) ∨
 ((Says C 147 [(D.agg [(D.val (vI n5)), (D.val (vI n6))]), (D.agg [(D.val (vI n9)), (D.val (vI n10))])] [(D.val (.bool false))]) ∧
 (∃ n11 : Int,
 (∃ n12 : Int,
 ((Says C 87 [(D.val (vI b)), (D.val (vI d)), (D.val (vI e)), (D.val (vI x))] [(D.agg [(D.val (vI n11)), (D.val (vI n12))])]) ∧
 (((Says C 147 [(D.agg [(D.val (vI n11)), (D.val (vI n12))]), (D.agg [(D.val (vI n7)), (D.val (vI n8))])] [(D.val (.bool true))]) ∧
 (((Says C 147 [(D.agg [(D.val (vI n5)), (D.val (vI n6))]), (D.agg [(D.val (vI n11)), (D.val (vI n12))])] [(D.val (.bool true))]) ∧
 (k [(D.agg [(D.val (vI n11)), (D.val (vI n12)), (D.val (vI n11)), (D.val (vI n12))]), (D.val (vI (0 : Int)))])) ∨
 ((Says C 147 [(D.agg [(D.val (vI n5)), (D.val (vI n6))]), (D.agg [(D.val (vI n11)), (D.val (vI n12))])] [(D.val (.bool false))]) ∧
 (k [(D.agg [(D.val (vI n11)), (D.val (vI n12)), (D.val (vI n5)), (D.val (vI n6))]), (D.val (vI (0 : Int)))])))) ∨
 ((Says C 147 [(D.agg [(D.val (vI n11)), (D.val (vI n12))]), (D.agg [(D.val (vI n7)), (D.val (vI n8))])] [(D.val (.bool false))]) ∧
 (((Says C 147 [(D.agg [(D.val (vI n5)), (D.val (vI n6))]), (D.agg [(D.val (vI n11)), (D.val (vI n12))])] [(D.val (.bool true))]) ∧
 (k [(D.agg [(D.val (vI n7)), (D.val (vI n8)), (D.val (vI n11)), (D.val (vI n12))]), (D.val (vI (0 : Int)))])) ∨
 ((Says C 147 [(D.agg [(D.val (vI n5)), (D.val (vI n6))]), (D.agg [(D.val (vI n11)), (D.val (vI n12))])] [(D.val (.bool false))]) ∧
 (k [(D.agg [(D.val (vI n7)), (D.val (vI n8)), (D.val (vI n5)), (D.val (vI n6))]), (D.val (vI (0 : Int)))])))))))))))))))))) ∨
 ((Says C 147 [(D.agg [(D.val (vI n7)), (D.val (vI n8))]), (D.agg [(D.val (vI n5)), (D.val (vI n6))])] [(D.val (.bool false))]) ∧
 (((Says C 147 [(D.agg [(D.val (vI n5)), (D.val (vI n6))]), (D.agg [(D.val (vI n7)), (D.val (vI n8))])] [(D.val (.bool true))]) ∧
 (∃ n9 : Int,
 (∃ n10 : Int,
 ((Says C 87 [(D.val (vI b)), (D.val (vI c)), (D.val (vI e)), (D.val (vI x))] [(D.agg [(D.val (vI n9)), (D.val (vI n10))])]) ∧
 (((Says C 147 [(D.agg [(D.val (vI n9)), (D.val (vI n10))]), (D.agg [(D.val (vI n5)), (D.val (vI n6))])] [(D.val (.bool true))]) ∧
 (((Says C 147 [(D.agg [(D.val (vI n7)), (D.val (vI n8))]), (D.agg [(D.val (vI n9)), (D.val (vI n10))])] [(D.val (.bool true))]) ∧
 (∃ n11 : Int,
 (∃ n12 : Int,
 ((Says C 87 [(D.val (vI b)), (D.val (vI d)), (D.val (vI e)), (D.val (vI x))] [(D.agg [(D.val (vI n11)), (D.val (vI n12))])]) ∧
 (((Says C 147 [(D.agg [(D.val (vI n11)), (D.val (vI n12))]), (D.agg [(D.val (vI n9)), (D.val (vI n10))])] [(D.val (.bool true))]) ∧
 (((Says C 147 [(D.agg [(D.val (vI n9)), (D.val (vI n10))]), (D.agg [(D.val (vI n11)), (D.val (vI n12))])] [(D.val (.bool true))]) ∧
 (k [(D.agg [(D.val (vI n11)), (D.val (vI n12)), (D.val (vI n11)), (D.val (vI n12))]), (D.val (vI (0 : Int)))])) ∨
 ((Says C 147 [(D.agg [(D.val (vI n9)), (D.val (vI n10))]), (D.agg [(D.val (vI n11)), (D.val (vI n12))])] [(D.val (.bool false))]) ∧
 (k [(D.agg [(D.val (vI n11)), (D.val (vI n12)), (D.val (vI n9)), (D.val (vI n10))]), (D.val (vI (0 : Int)))])))) ∨
 ((Says C 147 [(D.agg [(D.val (vI n11)), (D.val (vI n12))]), (D.agg [(D.val (vI n9)), (D.val (vI n10))])] [(D.val (.bool false))]) ∧
 (((Says C 147 [(D.agg [(D.val (vI n9)), (D.val (vI n10))]), (D.agg [(D.val (vI n11)), (D.val (vI n12))])] [(D.val (.bool true))]) ∧
 (k [(D.agg [(D.val (vI n9)), (D.val (vI n10)), (D.val (vI n11)), (D.val (vI n12))]), (D.val (vI (0 : Int)))])) ∨
 ((Says C 147 [(D.agg [(D.val (vI n9)), (D.val (vI n10))]), (D.agg [(D.val (vI n11)), (D.val (vI n12))])] [(D.val (.bool false))]) ∧
 (k [(D.agg [(D.val (vI n9)), (D.val (vI n10)), (D.val (vI n9)), (D.val (vI n10))]), (D.val (vI (0 : Int)))]))))))))) ∨
 ((Says C 147 [(D.agg [(D.val (vI n7)), (D.val (vI n8))]), (D.agg [(D.val (vI n9)), (D.val (vI n10))])] [(D.val (.bool false))]) ∧
 (∃ n11 : Int,
 (∃ n12 : Int,
 ((Says C 87 [(D.val (vI b)), (D.val (vI d)), (D.val (vI e)), (D.val (vI x))] [(D.agg [(D.val (vI n11)), (D.val (vI n12))])]) ∧
 (((Says C 147 [(D.agg [(D.val (vI n11)), (D.val (vI n12))]), (D.agg [(D.val (vI n9)), (D.val (vI n10))])] [(D.val (.bool true))]) ∧
 (((Says C 147 [(D.agg [(D.val (vI n7)), (D.val (vI n8))]), (D.agg [(D.val (vI n11)), (D.val (vI n12))])] [(D.val (.bool true))]) ∧
 (k [(D.agg [(D.val (vI n11)), (D.val (vI n12)), (D.val (vI n11)), (D.val (vI n12))]), (D.val (vI (0 : Int)))])) ∨
 ((Says C 147 [(D.agg [(D.val (vI n7)), (D.val (vI n8))]), (D.agg [(D.val (vI n11)), (D.val (vI n12))])] [(D.val (.bool false))]) ∧
 (k [(D.agg [(D.val (vI n11)), (D.val (vI n12)), (D.val (vI n7)), (D.val (vI n8))]), (D.val (vI (0 : Int)))])))) ∨
 ((Says C 147 [(D.agg [(D.val (vI n11)), (D.val (vI n12))]), (D.agg [(D.val (vI n9)), (D.val (vI n10))])] [(D.val (.bool false))]) ∧
 (((Says C 147 [(D.agg [(D.val (vI n7)), (D.val (vI n8))]), (D.agg [(D.val (vI n11)), (D.val (vI n12))])] [(D.val (.bool true))]) ∧
 (k [(D.agg [(D.val (vI n9)), (D.val (vI n10)), (D.val (vI n11)), (D.val (vI n12))]), (D.val (vI (0 : Int)))])) ∨
 ((Says C 147 [(D.agg [(D.val (vI n7)), (D.val (vI n8))]), (D.agg [(D.val (vI n11)), (D.val (vI n12))])] [(D.val (.bool false))]) ∧
 (k [(D.agg [(D.val (vI n9)), (D.val (vI n10)), (D.val (vI n7)), (D.val (vI n8))]), (D.val (vI (0 : Int)))]))))))))))) ∨
 ((Says C 147 [(D.agg [(D.val (vI n9)), (D.val (vI n10))]), (D.agg [(D.val (vI n5)), (D.val (vI n6))])] [(D.val (.bool false))]) ∧
 (((Says C 147 [(D.agg [(D.val (vI n7)), (D.val (vI n8))]), (D.agg [(D.val (vI n9)), (D.val (vI n10))])] [(D.val (.bool true))]) ∧
 (∃ n11 : Int,
 (∃ n12 : Int,
 ((Says C 87 [(D.val (vI b)), (D.val (vI d)), (D.val (vI e)), (D.val (vI x))] [(D.agg [(D.val (vI n11)), (D.val (vI n12))])]) ∧
 (((Says C 147 [(D.agg [(D.val (vI n11)), (D.val (vI n12))]), (D.agg [(D.val (vI n5)), (D.val (vI n6))])] [(D.val (.bool true))]) ∧
 (((Says C 147 [(D.agg [(D.val (vI n9)), (D.val (vI n10))]), (D.agg [(D.val (vI n11)), (D.val (vI n12))])] [(D.val (.bool true))]) ∧
 (k [(D.agg [(D.val (vI n11)), (D.val (vI n12)), (D.val (vI n11)), (D.val (vI n12))]), (D.val (vI (0 : Int)))])) ∨
 ((Says C 147 [(D.agg [(D.val (vI n9)), (D.val (vI n10))]), (D.agg [(D.val (vI n11)), (D.val (vI n12))])] [(D.val (.bool false))]) ∧
 (k [(D.agg [(D.val (vI n11)), (D.val (vI n12)), (D.val (vI n9)), (D.val (vI n10))]), (D.val (vI (0 : Int)))])))) ∨
 ((Says C 147 [(D.agg [(D.val (vI n11)), (D.val (vI n12))]), (D.agg [(D.val (vI n5)), (D.val (vI n6))])] [(D.val (.bool false))]) ∧
 (((Says C 147 [(D.agg [(D.val (vI n9)), (D.val (vI n10))]), (D.agg [(D.val (vI n11)), (D.val (vI n12))])] [(D.val (.bool true))]) ∧
 (k [(D.agg [(D.val (vI n5)), (D.val (vI n6)), (D.val (vI n11)), (D.val (vI n12))]), (D.val (vI (0 : Int)))])) ∨
 ((Says C 147 [(D.agg [(D.val (vI n9)), (D.val (vI n10))]), (D.agg [(D.val (vI n11)), (D.val (vI n12))])] [(D.val (.bool false))]) ∧
 (k [(D.agg [(D.val (vI n5)), (D.val (vI n6)), (D.val (vI n9)), (D.val (vI n10))]), (D.val (vI (0 : Int)))]))))))))) ∨
 ((Says C 147 [(D.agg [(D.val (vI n7)), (D.val (vI n8))]), (D.agg [(D.val (vI n9)), (D.val (vI n10))])] [(D.val (.bool false))]) ∧
 (∃ n11 : Int,
 (∃ n12 : Int,
 ((Says C 87 [(D.val (vI b)), (D.val (vI d)), (D.val (vI e)), (D.val (vI x))] [(D.agg [(D.val (vI n11)), (D.val (vI n12))])]) ∧
 (((Says C 147 [(D.agg [(D.val (vI n11)), (D.val (vI n12))]), (D.agg [(D.val (vI n5)), (D.val (vI n6))])] [(D.val (.bool true))]) ∧
 (((Says C 147 [(D.agg [(D.val (vI n7)), (D.val (vI n8))]), (D.agg [(D.val (vI n11)), (D.val (vI n12))])] [(D.val (.bool true))]) ∧
 (k [(D.agg [(D.val (vI n11)), (D.val (vI n12)), (D.val (vI n11)), (D.val (vI n12))]), (D.val (vI (0 : Int)))])) ∨
 ((Says C 147 [(D.agg [(D.val (vI n7)), (D.val (vI n8))]), (D.agg [(D.val (vI n11)), (D.val (vI n12))])] [(D.val (.bool false))]) ∧
 (k [(D.agg [(D.val (vI n11)), (D.val (vI n12)), (D.val (vI n7)), (D.val (vI n8))]), (D.val (vI (0 : Int)))])))) ∨
 ((Says C 147 [(D.agg [(D.val (vI n11)), (D.val (vI n12))]), (D.agg [(D.val (vI n5)), (D.val (vI n6))])] [(D.val (.bool false))]) ∧
 (((Says C 147 [(D.agg [(D.val (vI n7)), (D.val (vI n8))]), (D.agg [(D.val (vI n11)), (D.val (vI n12))])] [(D.val (.bool true))]) ∧
 (k [(D.agg [(D.val (vI n5)), (D.val (vI n6)), (D.val (vI n11)), (D.val (vI n12))]), (D.val (vI (0 : Int)))])) ∨
 ((Says C 147 [(D.agg [(D.val (vI n7)), (D.val (vI n8))]), (D.agg [(D.val (vI n11)), (D.val (vI n12))])] [(D.val (.bool false))]) ∧
 (k [(D.agg [(D.val (vI n5)), (D.val (vI n6)), (D.val (vI n7)), (D.val (vI n8))]), (D.val (vI (0 : Int)))])))))))))))))))) ∨
 ((Says C 147 [(D.agg [(D.val (vI n5)), (D.val (vI n6))]), (D.agg [(D.val (vI n7)), (D.val (vI n8))])] [(D.val (.bool false))]) ∧
 (∃ n9 : Int,
 (∃ n10 : Int,
 ((Says C 87 [(D.val (vI b)), (D.val (vI c)), (D.val (vI e)), (D.val (vI x))] [(D.agg [(D.val (vI n9)), (D.val (vI n10))])]) ∧
 (((Says C 147 [(D.agg [(D.val (vI n9)), (D.val (vI n10))]), (D.agg [(D.val (vI n5)), (D.val (vI n6))])] [(D.val (.bool true))]) ∧
 (((Says C 147 [(D.agg [(D.val (vI n5)), (D.val (vI n6))]), (D.agg [(D.val (vI n9)), (D.val (vI n10))])] [(D.val (.bool true))]) ∧
 (∃ n11 : Int,
 (∃ n12 : Int,
 ((Says C 87 [(D.val (vI b)), (D.val (vI d)), (D.val (vI e)), (D.val (vI x))] [(D.agg [(D.val (vI n11)), (D.val (vI n12))])]) ∧
 (((Says C 147 [(D.agg [(D.val (vI n11)), (D.val (vI n12))]), (D.agg [(D.val (vI n9)), (D.val (vI n10))])] [(D.val (.bool true))]) ∧
 (((Says C 147 [(D.agg [(D.val (vI n9)), (D.val (vI n10))]), (D.agg [(D.val (vI n11)), (D.val (vI n12))])] [(D.val (.bool true))]) ∧
 (k [(D.agg [(D.val (vI n11)), (D.val (vI n12)), (D.val (vI n11)), (D.val (vI n12))]), (D.val (vI (0 : Int)))])) ∨
 ((Says C 147 [(D.agg [(D.val (vI n9)), (D.val (vI n10))]), (D.agg [(D.val (vI n11)), (D.val (vI n12))])] [(D.val (.bool false))]) ∧
 (k [(D.agg [(D.val (vI n11)), (D.val (vI n12)), (D.val (vI n9)), (D.val (vI n10))]), (D.val (vI (0 : Int)))])))) ∨
 ((Says C 147 [(D.agg [(D.val (vI n11)), (D.val (vI n12))]), (D.agg [(D.val (vI n9)), (D.val (vI n10))])] [(D.val (.bool false))]) ∧
 (((Says C 147 [(D.agg [(D.val (vI n9)), (D.val (vI n10))]), (D.agg [(D.val (vI n11)), (D.val (vI n12))])] [(D.val (.bool true))]) ∧
 (k [(D.agg [(D.val (vI n9)), (D.val (vI n10)), (D.val (vI n11)), (D.val (vI n12))]), (D.val (vI (0 : Int)))])) ∨
 ((Says C 147 [(D.agg [(D.val (vI n9)), (D.val (vI n10))]), (D.agg [(D.val (vI n11)), (D.val (vI n12))])] [(D.val (.bool false))]) ∧
 (k [(D.agg [(D.val (vI n9)), (D.val (vI n10)), (D.val (vI n9)), (D.val (vI n10))]), (D.val (vI (0 : Int)))]))))))))) ∨
 ((Says C 147 [(D.agg [(D.val (vI n5)), (D.val (vI n6))]), (D.agg [(D.val (vI n9)), (D.val (vI n10))])] [(D.val (.bool false))]) ∧
 (∃ n11 : Int,
 (∃ n12 : Int,
 ((Says C 87 [(D.val (vI b)), (D.val (vI d)), (D.val (vI e)), (D.val (vI x))] [(D.agg [(D.val (vI n11)), (D.val (vI n12))])]) ∧
 (((Says C 147 [(D.agg [(D.val (vI n11)), (D.val (vI n12))]), (D.agg [(D.val (vI n9)), (D.val (vI n10))])] [(D.val (.bool true))]) ∧
 (((Says C 147 [(D.agg [(D.val (vI n5)), (D.val (vI n6))]), (D.agg [(D.val (vI n11)), (D.val (vI n12))])] [(D.val (.bool true))]) ∧
 (k [(D.agg [(D.val (vI n11)), (D.val (vI n12)), (D.val (vI n11)), (D.val (vI n12))]), (D.val (vI (0 : Int)))])) ∨
 ((Says C 147 [(D.agg [(D.val (vI n5)), (D.val (vI n6))]), (D.agg [(D.val (vI n11)), (D.val (vI n12))])] [(D.val (.bool false))]) ∧
 (k [(D.agg [(D.val (vI n11)), (D.val (vI n12)), (D.val (vI n5)), (D.val (vI n6))]), (D.val (vI (0 : Int)))])))) ∨
 ((Says C 147 [(D.agg [(D.val (vI n11)), (D.val (vI n12))]), (D.agg [(D.val (vI n9)), (D.val (vI n10))])] [(D.val (.bool false))]) ∧
 (((Says C 147 [(D.agg [(D.val (vI n5)), (D.val (vI n6))]), (D.agg [(D.val (vI n11)), (D.val (vI n12))])] [(D.val (.bool true))]) ∧
 (k [(D.agg [(D.val (vI n9)), (D.val (vI n10)), (D.val (vI n11)), (D.val (vI n12))]), (D.val (vI (0 : Int)))])) ∨
 ((Says C 147 [(D.agg [(D.val (vI n5)), (D.val (vI n6))]), (D.agg [(D.val (vI n11)), (D.val (vI n12))])] [(D.val (.bool false))]) ∧
 (k [(D.agg [(D.val (vI n9)), (D.val (vI n10)), (D.val (vI n5)), (D.val (vI n6))]), (D.val (vI (0 : Int)))]))))))))))) ∨
 ((Says C 147 [(D.agg [(D.val (vI n9)), (D.val (vI n10))]), (D.agg [(D.val (vI n5)), (D.val (vI n6))])] [(D.val (.bool false))]) ∧
 (((Says C 147 [(D.agg [(D.val (vI n5)), (D.val (vI n6))]), (D.agg [(D.val (vI n9)), (D.val (vI n10))])] [(D.val (.bool true))]) ∧
 (∃ n11 : Int,
 (∃ n12 : Int,
 ((Says C 87 [(D.val (vI b)), (D.val (vI d)), (D.val (vI e)), (D.val (vI x))] [(D.agg [(D.val (vI n11)), (D.val (vI n12))])]) ∧
 (((Says C 147 [(D.agg [(D.val (vI n11)), (D.val (vI n12))]), (D.agg [(D.val (vI n5)), (D.val (vI n6))])] [(D.val (.bool true))]) ∧
 (((Says C 147 [(D.agg [(D.val (vI n9)), (D.val (vI n10))]), (D.agg [(D.val (vI n11)), (D.val (vI n12))])] [(D.val (.bool true))]) ∧
 (k [(D.agg [(D.val (vI n11)), (D.val (vI n12)), (D.val (vI n11)), (D.val (vI n12))]), (D.val (vI (0 : Int)))])) ∨
 ((Says C 147 [(D.agg [(D.val (vI n9)), (D.val (vI n10))]), (D.agg [(D.val (vI n11)), (D.val (vI n12))])] [(D.val (.bool false))]) ∧
 (k [(D.agg [(D.val (vI n11)), (D.val (vI n12)), (D.val (vI n9)), (D.val (vI n10))]), (D.val (vI (0 : Int)))])))) ∨
 ((Says C 147 [(D.agg [(D.val (vI n11)), (D.val (vI n12))]), (D.agg [(D.val (vI n5)), (D.val (vI n6))])] [(D.val (.bool false))]) ∧
 (((Says C 147 [(D.agg [(D.val (vI n9)), (D.val (vI n10))]), (D.agg [(D.val (vI n11)), (D.val (vI n12))])] [(D.val (.bool true))]) ∧
 (k [(D.agg [(D.val (vI n5)), (D.val (vI n6)), (D.val (vI n11)), (D.val (vI n12))]), (D.val (vI (0 : Int)))])) ∨
 ((Says C 147 [(D.agg [(D.val (vI n9)), (D.val (vI n10))]), (D.agg [(D.val (vI n11)), (D.val (vI n12))])] [(D.val (.bool false))]) ∧
 (k [(D.agg [(D.val (vI n5)), (D.val (vI n6)), (D.val (vI n9)), (D.val (vI n10))]), (D.val (vI (0 : Int)))]))))))))) ∨
 ((Says C 147 [(D.agg [(D.val (vI n5)), (D.val (vI n6))]), (D.agg [(D.val (vI n9)), (D.val (vI n10))])] [(D.val (.bool false))]) ∧
 (∃ n11 : Int,
 (∃ n12 : Int,
 ((Says C 87 [(D.val (vI b)), (D.val (vI d)), (D.val (vI e)), (D.val (vI x))] [(D.agg [(D.val (vI n11)), (D.val (vI n12))])]) ∧
 (((Says C 147 [(D.agg [(D.val (vI n11)), (D.val (vI n12))]), (D.agg [(D.val (vI n5)), (D.val (vI n6))])] [(D.val (.bool true))]) ∧
 (((Says C 147 [(D.agg [(D.val (vI n5)), (D.val (vI n6))]), (D.agg [(D.val (vI n11)), (D.val (vI n12))])] [(D.val (.bool true))]) ∧
 (k [(D.agg [(D.val (vI n11)), (D.val (vI n12)), (D.val (vI n11)), (D.val (vI n12))]), (D.val (vI (0 : Int)))])) ∨
 ((Says C 147 [(D.agg [(D.val (vI n5)), (D.val (vI n6))]), (D.agg [(D.val (vI n11)), (D.val (vI n12))])] [(D.val (.bool false))]) ∧
 (k [(D.agg [(D.val (vI n11)), (D.val (vI n12)), (D.val (vI n5)), (D.val (vI n6))]), (D.val (vI (0 : Int)))])))) ∨
 ((Says C 147 [(D.agg [(D.val (vI n11)), (D.val (vI n12))]), (D.agg [(D.val (vI n5)), (D.val (vI n6))])] [(D.val (.bool false))]) ∧
 (((Says C 147 [(D.agg [(D.val (vI n5)), (D.val (vI n6))]), (D.agg [(D.val (vI n11)), (D.val (vI n12))])] [(D.val (.bool true))]) ∧
 (k [(D.agg [(D.val (vI n5)), (D.val (vI n6)), (D.val (vI n11)), (D.val (vI n12))]), (D.val (vI (0 : Int)))])) ∨
 ((Says C 147 [(D.agg [(D.val (vI n5)), (D.val (vI n6))]), (D.agg [(D.val (vI n11)), (D.val (vI n12))])] [(D.val (.bool false))]) ∧
 (k [(D.agg [(D.val (vI n5)), (D.val (vI n6)), (D.val (vI n5)), (D.val (vI n6))]), (D.val (vI (0 : Int)))]))))))))))))))))))))))) ∨
 ((Says C 147 [(D.agg [(D.val (vI n3)), (D.val (vI n4))]), (D.agg [(D.val (vI n5)), (D.val (vI n6))])] [(D.val (.bool false))]) ∧
 (∃ n7 : Int,
 (∃ n8 : Int,
 ((Says C 87 [(D.val (vI a)), (D.val (vI d)), (D.val (vI e)), (D.val (vI x))] [(D.agg [(D.val (vI n7)), (D.val (vI n8))])]) ∧
 (((Says C 147 [(D.agg [(D.val (vI n7)), (D.val (vI n8))]), (D.agg [(D.val (vI n5)), (D.val (vI n6))])] [(D.val (.bool true))]) ∧
 (((Says C 147 [(D.agg [(D.val (vI n3)), (D.val (vI n4))]), (D.agg [(D.val (vI n7)), (D.val (vI n8))])] [(D.val (.bool true))]) ∧
 (∃ n9 : Int,
 (∃ n10 : Int,
 ((Says C 87 [(D.val (vI b)), (D.val (vI c)), (D.val (vI e)), (D.val (vI x))] [(D.agg [(D.val (vI n9)), (D.val (vI n10))])]) ∧
 (((Says C 147 [(D.agg [(D.val (vI n9)), (D.val (vI n10))]), (D.agg [(D.val (vI n7)), (D.val (vI n8))])] [(D.val (.bool true))]) ∧
 (((Says C 147 [(D.agg [(D.val (vI n7)), (D.val (vI n8))]), (D.agg [(D.val (vI n9)), (D.val (vI n10))])] [(D.val (.bool true))]) ∧
 (∃ n11 : Int,
 (∃ n12 : Int,
 ((Says C 87 [(D.val (vI b)), (D.val (vI d)), (D.val (vI e)), (D.val (vI x))] [(D.agg [(D.val (vI n11)), (D.val (vI n12))])]) ∧
 (((Says C 147 [(D.agg [(D.val (vI n11)), (D.val (vI n12))]), (D.agg [(D.val (vI n9)), (D.val (vI n10))])] [(D.val (.bool true))]) ∧
 (((Says C 147 [(D.agg [(D.val (vI n9)), (D.val (vI n10))]), (D.agg [(D.val (vI n11)), (D.val (vI n12))])] [(D.val (.bool true))]) ∧
 (k [(D.agg [(D.val (vI n11)), (D.val (vI n12)), (D.val (vI n11)), (D.val (vI n12))]), (D.val (vI (0 : Int)))])) ∨
 ((Says C 147 [(D.agg [(D.val (vI n9)), (D.val (vI n10))]), (D.agg [(D.val (vI n11)), (D.val (vI n12))])] [(D.val (.bool false))]) ∧
 (k [(D.agg [(D.val (vI n11)), (D.val (vI n12)), (D.val (vI n9)), (D.val (vI n10))]), (D.val (vI (0 : Int)))])))) ∨
 ((Says C 147 [(D.agg [(D.val (vI n11)), (D.val (vI n12))]), (D.agg [(D.val (vI n9)), (D.val (vI n10))])] [(D.val (.bool false))]) ∧
 (((Says C 147 [(D.agg [(D.val (vI n9)), (D.val (vI n10))]), (D.agg [(D.val (vI n11)), (D.val (vI n12))])] [(D.val (.bool true))]) ∧
 (k [(D.agg [(D.val (vI n9)), (D.val (vI n10)), (D.val (vI n11)), (D.val (vI n12))]), (D.val (vI (0 : Int)))])) ∨
 ((Says C 147 [(D.agg [(D.val (vI n9)), (D.val (vI n10))]), (D.agg [(D.val (vI n11)), (D.val (vI n12))])] [(D.val (.bool false))]) ∧
 (k [(D.agg [(D.val (vI n9)), (D.val (vI n10)), (D.val (vI n9)), (D.val (vI n10))]), (D.val (vI (0 : Int)))]))))))))) ∨
 ((Says C 147 [(D.agg [(D.val (vI n7)), (D.val (vI n8))]), (D.agg [(D.val (vI n9)), (D.val (vI n10))])] [(D.val (.bool false))]) ∧
 (∃ n11 : Int,
 (∃ n12 : Int,
 ((Says C 87 [(D.val (vI b)), (D.val (vI d)), (D.val (vI e)), (D.val (vI x))] [(D.agg [(D.val (vI n11)), (D.val (vI n12))])]) ∧
 (((Says C 147 [(D.agg [(D.val (vI n11)), (D.val (vI n12))]), (D.agg [(D.val (vI n9)), (D.val (vI n10))])] [(D.val (.bool true))]) ∧
 (((Says C 147 [(D.agg [(D.val (vI n7)), (D.val (vI n8))]), (D.agg [(D.val (vI n11)), (D.val (vI n12))])] [(D.val (.bool true))]) ∧
 (k [(D.agg [(D.val (vI n11)), (D.val (vI n12)), (D.val (vI n11)), (D.val (vI n12))]), (D.val (vI (0 : Int)))])) ∨
 ((Says C 147 [(D.agg [(D.val (vI n7)), (D.val (vI n8))]), (D.agg [(D.val (vI n11)), (D.val (vI n12))])] [(D.val (.bool false))]) ∧
 (k [(D.agg [(D.val (vI n11)), (D.val (vI n12)), (D.val (vI n7)), (D.val (vI n8))]), (D.val (vI (0 : Int)))])))) ∨
 ((Says C 147 [(D.agg [(D.val (vI n11)), (D.val (vI n12))]), (D.agg [(D.val (vI n9)), (D.val (vI n10))])] [(D.val (.bool false))]) ∧
 (((Says C 147 [(D.agg [(D.val (vI n7)), (D.val (vI n8))]), (D.agg [(D.val (vI n11)), (D.val (vI n12))])] [(D.val (.bool true))]) ∧
 (k [(D.agg [(D.val (vI n9)), (D.val (vI n10)), (D.val (vI n11)), (D.val (vI n12))]), (D.val (vI (0 : Int)))])) ∨
 ((Says C 147 [(D.agg [(D.val (vI n7)), (D.val (vI n8))]), (D.agg [(D.val (vI n11)), (D.val (vI n12))])] [(D.val (.bool false))]) ∧
 (k [(D.agg [(D.val (vI n9)), (D.val (vI n10)), (D.val (vI n7)), (D.val (vI n8))]), (D.val (vI (0 : Int)))]))))))))))) ∨
 ((Says C 147 [(D.agg [(D.val (vI n9)), (D.val (vI n10))]), (D.agg [(D.val (vI n7)), (D.val (vI n8))])] [(D.val (.bool false))]) ∧
 (((Says C 147 [(D.agg [(D.val (vI n7)), (D.val (vI n8))]), (D.agg [(D.val (vI n9)), (D.val (vI n10))])] [(D.val (.bool true))]) ∧
 (∃ n11 : Int,
 (∃ n12 : Int,
 ((Says C 87 [(D.val (vI b)), (D.val (vI d)), (D.val (vI e)), (D.val (vI x))] [(D.agg [(D.val (vI n11)), (D.val (vI n12))])]) ∧
 (((Says C 147 [(D.agg [(D.val (vI n11)), (D.val (vI n12))]), (D.agg [(D.val (vI n7)), (D.val (vI n8))])] [(D.val (.bool true))]) ∧
 (((Says C 147 [(D.agg [(D.val (vI n9)), (D.val (vI n10))]), (D.agg [(D.val (vI n11)), (D.val (vI n12))])] [(D.val (.bool true))]) ∧
 (k [(D.agg [(D.val (vI n11)), (D.val (vI n12)), (D.val (vI n11)), (D.val (vI n12))]), (D.val (vI (0 : Int)))])) ∨
 ((Says C 147 [(D.agg [(D.val (vI n9)), (D.val (vI n10))]), (D.agg [(D.val (vI n11)), (D.val (vI n12))])] [(D.val (.bool false))]) ∧
 (k [(D.agg [(D.val (vI n11)), (D.val (vI n12)), (D.val (vI n9)), (D.val (vI n10))]), (D.val (vI (0 : Int)))])))) ∨
 ((Says C 147 [(D.agg [(D.val (vI n11)), (D.val (vI n12))]), (D.agg [(D.val (vI n7)), (D.val (vI n8))])] [(D.val (.bool false))]) ∧
 (((Says C 147 [(D.agg [(D.val (vI n9)), (D.val (vI n10))]), (D.agg [(D.val (vI n11)), (D.val (vI n12))])] [(D.val (.bool true))]) ∧
 (k [(D.agg [(D.val (vI n7)), (D.val (vI n8)), (D.val (vI n11)), (D.val (vI n12))]), (D.val (vI (0 : Int)))])) ∨
 ((Says C 147 [(D.agg [(D.val (vI n9)), (D.val (vI n10))]), (D.agg [(D.val (vI n11)), (D.val (vI n12))])] [(D.val (.bool false))]) ∧
 (k [(D.agg [(D.val (vI n7)), (D.val (vI n8)), (D.val (vI n9)), (D.val (vI n10))]), (D.val (vI (0 : Int)))]))))))))) ∨
 ((Says C 147 [(D.agg [(D.val (vI n7)), (D.val (vI n8))]), (D.agg [(D.val (vI n9)), (D.val (vI n10))])] [(D.val (.bool false))]) ∧
 (∃ n11 : Int,
 (∃ n12 : Int,
 ((Says C 87 [(D.val (vI b)), (D.val (vI d)), (D.val (vI e)), (D.val (vI x))] [(D.agg [(D.val (vI n11)), (D.val (vI n12))])]) ∧
 (((Says C 147 [(D.agg [(D.val (vI n11)), (D.val (vI n12))]), (D.agg [(D.val (vI n7)), (D.val (vI n8))])] [(D.val (.bool true))]) ∧
 (((Says C 147 [(D.agg [(D.val (vI n7)), (D.val (vI n8))]), (D.agg [(D.val (vI n11)), (D.val (vI n12))])] [(D.val (.bool true))]) ∧
 (k [(D.agg [(D.val (vI n11)), (D.val (vI n12)), (D.val (vI n11)), (D.val (vI n12))]), (D.val (vI (0 : Int)))])) ∨
 ((Says C 147 [(D.agg [(D.val (vI n7)), (D.val (vI n8))]), (D.agg [(D.val (vI n11)), (D.val (vI n12))])] [(D.val (.bool false))]) ∧
 (k [(D.agg [(D.val (vI n11)), (D.val (vI n12)), (D.val (vI n7)), (D.val (vI n8))]), (D.val (vI (0 : Int)))])))) ∨
 ((Says C 147 [(D.agg [(D.val (vI n11)), (D.val (vI n12))]), (D.agg [(D.val (vI n7)), (D.val (vI n8))])] [(D.val (.bool false))]) ∧
 (((Says C 147 [(D.agg [(D.val (vI n7)), (D.val (vI n8))]), (D.agg [(D.val (vI n11)), (D.val (vI n12))])] [(D.val (.bool true))]) ∧
 (k [(D.agg [(D.val (vI n7)), (D.val (vI n8)), (D.val (vI n11)), (D.val (vI n12))]), (D.val (vI (0 : Int)))])) ∨
 ((Says C 147 [(D.agg [(D.val (vI n7)), (D.val (vI n8))]), (D.agg [(D.val (vI n11)), (D.val (vI n12))])] [(D.val (.bool false))]) ∧
 (k [(D.agg [(D.val (vI n7)), (D.val (vI n8)), (D.val (vI n7)), (D.val (vI n8))]), (D.val (vI (0 : Int)))])))))))))))))))) ∨
 ((Says C 147 [(D.agg [(D.val (vI n3)), (D.val (vI n4))]), (D.agg [(D.val (vI n7)), (D.val (vI n8))])] [(D.val (.bool false))]) ∧
 (∃ n9 : Int,
 (∃ n10 : Int,
 ((Says C 87 [(D.val (vI b)), (D.val (vI c)), (D.val (vI e)), (D.val (vI x))] [(D.agg [(D.val (vI n9)), (D.val (vI n10))])]) ∧
 (((Says C 147 [(D.agg [(D.val (vI n9)), (D.val (vI n10))]), (D.agg [(D.val (vI n7)), (D.val (vI n8))])] [(D.val (.bool true))]) ∧
 (((Says C 147 [(D.agg [(D.val (vI n3)), (D.val (vI n4))]), (D.agg [(D.val (vI n9)), (D.val (vI n10))])] [(D.val (.bool true))]) ∧
 (∃ n11 : Int,
 (∃ n12 : Int,
 ((Says C 87 [(D.val (vI b)), (D.val (vI d)), (D.val (vI e)), (D.val (vI x))] [(D.agg [(D.val (vI n11)), (D.val (vI n12))])]) ∧
 (((Says C 147 [(D.agg [(D.val (vI n11)), (D.val (vI n12))]), (D.agg [(D.val (vI n9)), (D.val (vI n10))])] [(D.val (.bool true))]) ∧
 (((Says C 147 [(D.agg [(D.val (vI n9)), (D.val (vI n10))]), (D.agg [(D.val (vI n11)), (D.val (vI n12))])] [(D.val (.bool true))]) ∧
 (k [(D.agg [(D.val (vI n11)), (D.val (vI n12)), (D.val (vI n11)), (D.val (vI n12))]), (D.val (vI (0 : Int)))])) ∨
 ((Says C 147 [(D.agg [(D.val (vI n9)), (D.val (vI n10))]), (D.agg [(D.val (vI n11)), (D.val (vI n12))])] [(D.val (.bool false))]) ∧
 (k [(D.agg [(D.val (vI n11)), (D.val (vI n12)), (D.val (vI n9)), (D.val (vI n10))]), (D.val (vI (0 : Int)))])))) ∨
 ((Says C 147 [(D.agg [(D.val (vI n11)), (D.val (vI n12))]), (D.agg [(D.val (vI n9)), (D.val (vI n10))])] [(D.val (.bool false))]) ∧
 (((Says C 147 [(D.agg [(D.val (vI n9)), (D.val (vI n10))]), (D.agg [(D.val (vI n11)), (D.val (vI n12))])] [(D.val (.bool true))]) ∧
 (k [(D.agg [(D.val (vI n9)), (D.val (vI n10)), (D.val (vI n11)), (D.val (vI n12))]), (D.val (vI (0 : Int)))])) ∨
 ((Says C 147 [(D.agg [(D.val (vI n9)), (D.val (vI n10))]), (D.agg [(D.val (vI n11)), (D.val (vI n12))])] [(D.val (.bool false))]) ∧
 (k [(D.agg [(D.val (vI n9)), (D.val (vI n10)), (D.val (vI n9)), (D.val (vI n10))]), (D.val (vI (0 : Int)))]))))))))) ∨
 ((Says C 147 [(D.agg [(D.val (vI n3)), (D.val (vI n4))]), (D.agg [(D.val (vI n9)), (D.val (vI n10))])] [(D.val (.bool false))]) ∧
 (∃ n11 : Int,
 (∃ n12 : Int,
 ((Says C 87 [(D.val (vI b)), (D.val (vI d)), (D.val (vI e)), (D.val (vI x))] [(D.agg [(D.val (vI n11)), (D.val (vI n12))])]) ∧
 (((Says C 147 [(D.agg [(D.val (vI n11)), (D.val (vI n12))]), (D.agg [(D.val (vI n9)), (D.val (vI n10))])] [(D.val (.bool true))]) ∧
 (((Says C 147 [(D.agg [(D.val (vI n3)), (D.val (vI n4))]), (D.agg [(D.val (vI n11)), (D.val (vI n12))])] [(D.val (.bool true))]) ∧
 (k [(D.agg [(D.val (vI n11)), (D.val (vI n12)), (D.val (vI n11)), (D.val (vI n12))]), (D.val (vI (0 : Int)))])) ∨
 ((Says C 147 [(D.agg [(D.val (vI n3)), (D.val (vI n4))]), (D.agg [(D.val (vI n11)), (D.val (vI n12))])] [(D.val (.bool false))]) ∧
 (k [(D.agg [(D.val (vI n11)), (D.val (vI n12)), (D.val (vI n3)), (D.val (vI n4))]), (D.val (vI (0 : Int)))])))) ∨
 ((Says C 147 [(D.agg [(D.val (vI n11)), (D.val (vI n12))]), (D.agg [(D.val (vI n9)), (D.val (vI n10))])] [(D.val (.bool false))]) ∧
 (((Says C 147 [(D.agg [(D.val (vI n3)), (D.val (vI n4))]), (D.agg [(D.val (vI n11)), (D.val (vI n12))])] [(D.val (.bool true))]) ∧
 (k [(D.agg [(D.val (vI n9)), (D.val (vI n10)), (D.val (vI n11)), (D.val (vI n12))]), (D.val (vI (0 : Int)))])) ∨
 ((Says C 147 [(D.agg [(D.val (vI n3)), (D.val (vI n4))]), (D.agg [(D.val (vI n11)), (D.val (vI n12))])] [(D.val (.bool false))]) ∧
 (k [(D.agg [(D.val (vI n9)), (D.val (vI n10)), (D.val (vI n3)), (D.val (vI n4))]), (D.val (vI (0 : Int)))]))))))))))) ∨
 ((Says C 147 [(D.agg [(D.val (vI n9)), (D.val (vI n10))]), (D.agg [(D.val (vI n7)), (D.val (vI n8))])] [(D.val (.bool false))]) ∧
 (((Says C 147 [(D.agg [(D.val (vI n3)), (D.val (vI n4))]), (D.agg [(D.val (vI n9)), (D.val (vI n10))])] [(D.val (.bool true))]) ∧
 (∃ n11 : Int,
 (∃ n12 : Int,
 ((Says C 87 [(D.val (vI b)), (D.val (vI d)), (D.val (vI e)), (D.val (vI x))] [(D.agg [(D.val (vI n11)), (D.val (vI n12))])]) ∧
 (((Says C 147 [(D.agg [(D.val (vI n11)), (D.val (vI n12))]), (D.agg [(D.val (vI n7)), (D.val (vI n8))])] [(D.val (.bool true))]) ∧
 (((Says C 147 [(D.agg [(D.val (vI n9)), (D.val (vI n10))]), (D.agg [(D.val (vI n11)), (D.val (vI n12))])] [(D.val (.bool true))]) ∧
 (k [(D.agg [(D.val (vI n11)), (D.val (vI n12)), (D.val (vI n11)), (D.val (vI n12))]), (D.val (vI (0 : Int)))])) ∨
 ((Says C 147 [(D.agg [(D.val (vI n9)), (D.val (vI n10))]), (D.agg [(D.val (vI n11)), (D.val (vI n12))])] [(D.val (.bool false))]) ∧
 (k [(D.agg [(D.val (vI n11)), (D.val (vI n12)), (D.val (vI n9)), (D.val (vI n10))]), (D.val (vI (0 : Int)))])))) ∨
 ((Says C 147 [(D.agg [(D.val (vI n11)), (D.val (vI n12))]), (D.agg [(D.val (vI n7)), (D.val (vI n8))])] [(D.val (.bool false))]) ∧
 (((Says C 147 [(D.agg [(D.val (vI n9)), (D.val (vI n10))]), (D.agg [(D.val (vI n11)), (D.val (vI n12))])] [(D.val (.bool true))]) ∧
 (k [(D.agg [(D.val (vI n7)), (D.val (vI n8)), (D.val (vI n11)), (D.val (vI n12))]), (D.val (vI (0 : Int)))])) ∨
 ((Says C 147 [(D.agg [(D.val (vI n9)), (D.val (vI n10))]), (D.agg [(D.val (vI n11)), (D.val (vI n12))])] [(D.val (.bool false))]) ∧
 (k [(D.agg [(D.val (vI n7)), (D.val (vI n8)), (D.val (vI n9)), (D.val (vI n10))]), (D.val (vI (0 : Int)))]))))))))) ∨
 ((Says C 147 [(D.agg [(D.val (vI n3)), (D.val (vI n4))]), (D.agg [(D.val (vI n9)), (D.val (vI n10))])] [(D.val (.bool false))]) ∧
 (∃ n11 : Int,
 (∃ n12 : Int,
 ((Says C 87 [(D.val (vI b)), (D.val (vI d)), (D.val (vI e)), (D.val (vI x))] [(D.agg [(D.val (vI n11)), (D.val (vI n12))])]) ∧
 (((Says C 147 [(D.agg [(D.val (vI n11)), (D.val (vI n12))]), (D.agg [(D.val (vI n7)), (D.val (vI n8))])] [(D.val (.bool true))]) ∧
 (((Says C 147 [(D.agg [(D.val (vI n3)), (D.val (vI n4))]), (D.agg [(D.val (vI n11)), (D.val (vI n12))])] [(D.val (.bool true))]) ∧
 (k [(D.agg [(D.val (vI n11)), (D.val (vI n12)), (D.val (vI n11)), (D.val (vI n12))]), (D.val (vI (0 : Int)))])) ∨
 ((Says C 147 [(D.agg [(D.val (vI n3)), (D.val (vI n4))]), (D.agg [(D.val (vI n11)), (D.val (vI n12))])] [(D.val (.bool false))]) ∧
 (k [(D.agg [(D.val (vI n11)), (D.val (vI n12)), (D.val (vI n3)), (D.val (vI n4))]), (D.val (vI (0 : Int)))])))) ∨
 ((Says C 147 [(D.agg [(D.val (vI n11)), (D.val (vI n12))]), (D.agg [(D.val (vI n7)), (D.val (vI n8))])] [(D.val (.bool false))]) ∧
 (((Says C 147 [(D.agg [(D.val (vI n3)), (D.val (vI n4))]), (D.agg [(D.val (vI n11)), (D.val (vI n12))])] [(D.val (.bool true))]) ∧
 (k [(D.agg [(D.val (vI n7)), (D.val (vI n8)), (D.val (vI n11)), (D.val (vI n12))]), (D.val (vI (0 : Int)))])) ∨
 ((Says C 147 [(D.agg [(D.val (vI n3)), (D.val (vI n4))]), (D.agg [(D.val (vI n11)), (D.val (vI n12))])] [(D.val (.bool false))]) ∧
 (k [(D.agg [(D.val (vI n7)), (D.val (vI n8)), (D.val (vI n3)), (D.val (vI n4))]), (D.val (vI (0 : Int)))])))))))))))))))))) ∨
 ((Says C 147 [(D.agg [(D.val (vI n7)), (D.val (vI n8))]), (D.agg [(D.val (vI n5)), (D.val (vI n6))])] [(D.val (.bool false))]) ∧
 (((Says C 147 [(D.agg [(D.val (vI n3)), (D.val (vI n4))]), (D.agg [(D.val (vI n7)), (D.val (vI n8))])] [(D.val (.bool true))]) ∧
 (∃ n9 : Int,
 (∃ n10 : Int,
 ((Says C 87 [(D.val (vI b)), (D.val (vI c)), (D.val (vI e)), (D.val (vI x))] [(D.agg [(D.val (vI n9)), (D.val (vI n10))])]) ∧
 (((Says C 147 [(D.agg [(D.val (vI n9)), (D.val (vI n10))]), (D.agg [(D.val (vI n5)), (D.val (vI n6))])] [(D.val (.bool true))]) ∧
 (((Says C 147 [(D.agg [(D.val (vI n7)), (D.val (vI n8))]), (D.agg [(D.val (vI n9)), (D.val (vI n10))])] [(D.val (.bool true))]) ∧
 (∃ n11 : Int,
 (∃ n12 : Int,
 ((Says C 87 [(D.val (vI b)), (D.val (vI d)), (D.val (vI e)), (D.val (vI x))] [(D.agg [(D.val (vI n11)), (D.val (vI n12))])]) ∧
 (((Says C 147 [(D.agg [(D.val (vI n11)), (D.val (vI n12))]), (D.agg [(D.val (vI n9)), (D.val (vI n10))])] [(D.val (.bool true))]) ∧
 (((Says C 147 [(D.agg [(D.val (vI n9)), (D.val (vI n10))]), (D.agg [(D.val (vI n11)), (D.val (vI n12))])] [(D.val (.bool true))]) ∧
 (k [(D.agg [(D.val (vI n11)), (D.val (vI n12)), (D.val (vI n11)), (D.val (vI n12))]), (D.val (vI (0 : Int)))])) ∨
 ((Says C 147 [(D.agg [(D.val (vI n9)), (D.val (vI n10))]), (D.agg [(D.val (vI n11)), (D.val (vI n12))])] [(D.val (.bool false))]) ∧
 (k [(D.agg [(D.val (vI n11)), (D.val (vI n12)), (D.val (vI n9)), (D.val (vI n10))]), (D.val (vI (0 : Int)))])))) ∨
 ((Says C 147 [(D.agg [(D.val (vI n11)), (D.val (vI n12))]), (D.agg [(D.val (vI n9)), (D.val (vI n10))])] [(D.val (.bool false))]) ∧
 (((Says C 147 [(D.agg [(D.val (vI n9)), (D.val (vI n10))]), (D.agg [(D.val (vI n11)), (D.val (vI n12))])] [(D.val (.bool true))]) ∧
 (k [(D.agg [(D.val (vI n9)), (D.val (vI n10)), (D.val (vI n11)), (D.val (vI n12))]), (D.val (vI (0 : Int)))])) ∨
 ((Says C 147 [(D.agg [(D.val (vI n9)), (D.val (vI n10))]), (D.agg [(D.val (vI n11)), (D.val (vI n12))])] [(D.val (.bool false))]) ∧
 (k [(D.agg [(D.val (vI n9)), (D.val (vI n10)), (D.val (vI n9)), (D.val (vI n10))]), (D.val (vI (0 : Int)))]))))))))) ∨
 ((Says C 147 [(D.agg [(D.val (vI n7)), (D.val (vI n8))]), (D.agg [(D.val (vI n9)), (D.val (vI n10))])] [(D.val (.bool false))]) ∧
 (∃ n11 : Int,
 (∃ n12 : Int,
 ((Says C 87 [(D.val (vI b)), (D.val (vI d)), (D.val (vI e)), (D.val (vI x))] [(D.agg [(D.val (vI n11)), (D.val (vI n12))])]) ∧
 (((Says C 147 [(D.agg [(D.val (vI n11)), (D.val (vI n12))]), (D.agg [(D.val (vI n9)), (D.val (vI n10))])] [(D.val (.bool true))]) ∧
 (((Says C 147 [(D.agg [(D.val (vI n7)), (D.val (vI n8))]), (D.agg [(D.val (vI n11)), (D.val (vI n12))])] [(D.val (.bool true))]) ∧
 (k [(D.agg [(D.val (vI n11)), (D.val (vI n12)), (D.val (vI n11)), (D.val (vI n12))]), (D.val (vI (0 : Int)))])) ∨
 ((Says C 147 [(D.agg [(D.val (vI n7)), (D.val (vI n8))]), (D.agg [(D.val (vI n11)), (D.val (vI n12))])] [(D.val (.bool false))]) ∧
 (k [(D.agg [(D.val (vI n11)), (D.val (vI n12)), (D.val (vI n7)), (D.val (vI n8))]), (D.val (vI (0 : Int)))])))) ∨
 ((Says C 147 [(D.agg [(D.val (vI n11)), (D.val (vI n12))]), (D.agg [(D.val (vI n9)), (D.val (vI n10))])] [(D.val (.bool false))]) ∧
 (((Says C 147 [(D.agg [(D.val (vI n7)), (D.val (vI n8))]), (D.agg [(D.val (vI n11)), (D.val (vI n12))])] [(D.val (.bool true))]) ∧
 (k [(D.agg [(D.val (vI n9)), (D.val (vI n10)), (D.val (vI n11)), (D.val (vI n12))]), (D.val (vI (0 : Int)))])) ∨
 ((Says C 147 [(D.agg [(D.val (vI n7)), (D.val (vI n8))]), (D.agg [(D.val (vI n11)), (D.val (vI n12))])] [(D.val (.bool false))]) ∧
 (k [(D.agg [(D.val (vI n9)), (D.val (vI n10)), (D.val (vI n7)), (D.val (vI n8))]), (D.val (vI (0 : Int)))]))))))))))) ∨
 ((Says C 147 [(D.agg [(D.val (vI n9)), (D.val (vI n10))]), (D.agg [(D.val (vI n5)), (D.val (vI n6))])] [(D.val (.bool false))]) ∧
 (((Says C 147 [(D.agg [(D.val (vI n7)), (D.val (vI n8))]), (D.agg [(D.val (vI n9)), (D.val (vI n10))])] [(D.val (.bool true))]) ∧
 (∃ n11 : Int,
 (∃ n12 : Int,
 ((Says C 87 [(D.val (vI b)), (D.val (vI d)), (D.val (vI e)), (D.val (vI x))] [(D.agg [(D.val (vI n11)), (D.val (vI n12))])]) ∧
 (((Says C 147 [(D.agg [(D.val (vI n11)), (D.val (vI n12))]), (D.agg [(D.val (vI n5)), (D.val (vI n6))])] [(D.val (.bool true))]) ∧
 (((Says C 147 [(D.agg [(D.val (vI n9)), (D.val (vI n10))]), (D.agg [(D.val (vI n11)), (D.val (vI n12))])] [(D.val (.bool true))]) ∧
 (k [(D.agg [(D.val (vI n11)), (D.val (vI n12)), (D.val (vI n11)), (D.val (vI n12))]), (D.val (vI (0 : Int)))])) ∨
 ((Says C 147 [(D.agg [(D.val (vI n9)), (D.val (vI n10))]), (D.agg [(D.val (vI n11)), (D.val (vI n12))])] [(D.val (.bool false))]) ∧
 (k [(D.agg [(D.val (vI n11)), (D.val (vI n12)), (D.val (vI n9)), (D.val (vI n10))]), (D.val (vI (0 : Int)))])))) ∨
 ((Says C 147 [(D.agg [(D.val (vI n11)), (D.val (vI n12))]), (D.agg [(D.val (vI n5)), (D.val (vI n6))])] [(D.val (.bool false))]) ∧
 (((Says C 147 [(D.agg [(D.val (vI n9)), (D.val (vI n10))]), (D.agg [(D.val (vI n11)), (D.val (vI n12))])] [(D.val (.bool true))]) ∧
 (k [(D.agg [(D.val (vI n5)), (D.val (vI n6)), (D.val (vI n11)), (D.val (vI n12))]), (D.val (vI (0 : Int)))])) ∨
 ((Says C 147 [(D.agg [(D.val (vI n9)), (D.val (vI n10))]), (D.agg [(D.val (vI n11)), (D.val (vI n12))])] [(D.val (.bool false))]) ∧
 (k [(D.agg [(D.val (vI n5)), (D.val (vI n6)), (D.val (vI n9)), (D.val (vI n10))]), (D.val (vI (0 : Int)))]))))))))) ∨
 ((Says C 147 [(D.agg [(D.val (vI n7)), (D.val (vI n8))]), (D.agg [(D.val (vI n9)), (D.val (vI n10))])] [(D.val (.bool false))]) ∧
 (∃ n11 : Int,
 (∃ n12 : Int,
 ((Says C 87 [(D.val (vI b)), (D.val (vI d)), (D.val (vI e)), (D.val (vI x))] [(D.agg [(D.val (vI n11)), (D.val (vI n12))])]) ∧
 (((Says C 147 [(D.agg [(D.val (vI n11)), (D.val (vI n12))]), (D.agg [(D.val (vI n5)), (D.val (vI n6))])] [(D.val (.bool true))]) ∧
 (((Says C 147 [(D.agg [(D.val (vI n7)), (D.val (vI n8))]), (D.agg [(D.val (vI n11)), (D.val (vI n12))])] [(D.val (.bool true))]) ∧
 (k [(D.agg [(D.val (vI n11)), (D.val (vI n12)), (D.val (vI n11)), (D.val (vI n12))]), (D.val (vI (0 : Int)))])) ∨
 ((Says C 147 [(D.agg [(D.val (vI n7)), (D.val (vI n8))]), (D.agg [(D.val (vI n11)), (D.val (vI n12))])] [(D.val (.bool false))]) ∧
 (k [(D.agg [(D.val (vI n11)), (D.val (vI n12)), (D.val (vI n7)), (D.val (vI n8))]), (D.val (vI (0 : Int)))])))) ∨
 ((Says C 147 [(D.agg [(D.val (vI n11)), (D.val (vI n12))]), (D.agg [(D.val (vI n5)), (D.val (vI n6))])] [(D.val (.bool false))]) ∧
 (((Says C 147 [(D.agg [(D.val (vI n7)), (D.val (vI n8))]), (D.agg [(D.val (vI n11)), (D.val (vI n12))])] [(D.val (.bool true))]) ∧
 (k [(D.agg [(D.val (vI n5)), (D.val (vI n6)), (D.val (vI n11)), (D.val (vI n12))]), (D.val (vI (0 : Int)))])) ∨
 ((Says C 147 [(D.agg [(D.val (vI n7)), (D.val (vI n8))]), (D.agg [(D.val (vI n11)), (D.val (vI n12))])] [(D.val (.bool false))]) ∧
 (k [(D.agg [(D.val (vI n5)), (D.val (vI n6)), (D.val (vI n7)), (D.val (vI n8))]), (D.val (vI (0 : Int)))])))))))))))))))) ∨
 ((Says C 147 [(D.agg [(D.val (vI n3)), (D.val (vI n4))]), (D.agg [(D.val (vI n7)), (D.val (vI n8))])] [(D.val (.bool false))]) ∧
 (∃ n9 : Int,
 (∃ n10 : Int,
 ((Says C 87 [(D.val (vI b)), (D.val (vI c)), (D.val (vI e)), (D.val (vI x))] [(D.agg [(D.val (vI n9)), (D.val (vI n10))])]) ∧
 (((Says C 147 [(D.agg [(D.val (vI n9)), (D.val (vI n10))]), (D.agg [(D.val (vI n5)), (D.val (vI n6))])] [(D.val (.bool true))]) ∧
 (((Says C 147 [(D.agg [(D.val (vI n3)), (D.val (vI n4))]), (D.agg [(D.val (vI n9)), (D.val (vI n10))])] [(D.val (.bool true))]) ∧
 (∃ n11 : Int,
 (∃ n12 : Int,
 ((Says C 87 [(D.val (vI b)), (D.val (vI d)), (D.val (vI e)), (D.val (vI x))] [(D.agg [(D.val (vI n11)), (D.val (vI n12))])]) ∧
 (((Says C 147 [(D.agg [(D.val (vI n11)), (D.val (vI n12))]), (D.agg [(D.val (vI n9)), (D.val (vI n10))])] [(D.val (.bool true))]) ∧
 (((Says C 147 [(D.agg [(D.val (vI n9)), (D.val (vI n10))]), (D.agg [(D.val (vI n11)), (D.val (vI n12))])] [(D.val (.bool true))]) ∧
 (k [(D.agg [(D.val (vI n11)), (D.val (vI n12)), (D.val (vI n11)), (D.val (vI n12))]), (D.val (vI (0 : Int)))])) ∨
 ((Says C 147 [(D.agg [(D.val (vI n9)), (D.val (vI n10))]), (D.agg [(D.val (vI n11)), (D.val (vI n12))])] [(D.val (.bool false))]) ∧
 (k [(D.agg [(D.val (vI n11)), (D.val (vI n12)), (D.val (vI n9)), (D.val (vI n10))]), (D.val (vI (0 : Int)))])))) ∨
 ((Says C 147 [(D.agg [(D.val (vI n11)), (D.val (vI n12))]), (D.agg [(D.val (vI n9)), (D.val (vI n10))])] [(D.val (.bool false))]) ∧
 (((Says C 147 [(D.agg [(D.val (vI n9)), (D.val (vI n10))]), (D.agg [(D.val (vI n11)), (D.val (vI n12))])] [(D.val (.bool true))]) ∧
 (k [(D.agg [(D.val (vI n9)), (D.val (vI n10)), (D.val (vI n11)), (D.val (vI n12))]), (D.val (vI (0 : Int)))])) ∨
 ((Says C 147 [(D.agg [(D.val (vI n9)), (D.val (vI n10))]), (D.agg [(D.val (vI n11)), (D.val (vI n12))])] [(D.val (.bool false))]) ∧
 (k [(D.agg [(D.val (vI n9)), (D.val (vI n10)), (D.val (vI n9)), (D.val (vI n10))]), (D.val (vI (0 : Int)))]))))))))) ∨
 ((Says C 147 [(D.agg [(D.val (vI n3)), (D.val (vI n4))]), (D.agg [(D.val (vI n9)), (D.val (vI n10))])] [(D.val (.bool false))]) ∧
 (∃ n11 : Int,
 (∃ n12 : Int,
 ((Says C 87 [(D.val (vI b)), (D.val (vI d)), (D.val (vI e)), (D.val (vI x))] [(D.agg [(D.val (vI n11)), (D.val (vI n12))])]) ∧
 (((Says C 147 [(D.agg [(D.val (vI n11)), (D.val (vI n12))]), (D.agg [(D.val (vI n9)), (D.val (vI n10))])] [(D.val (.bool true))]) ∧
 (((Says C 147 [(D.agg [(D.val (vI n3)), (D.val (vI n4))]), (D.agg [(D.val (vI n11)), (D.val (vI n12))])] [(D.val (.bool true))]) ∧
 (k [(D.agg [(D.val (vI n11)), (D.val (vI n12)), (D.val (vI n11)), (D.val (vI n12))]), (D.val (vI (0 : Int)))])) ∨
 ((Says C 147 [(D.agg [(D.val (vI n3)), (D.val (vI n4))]), (D.agg [(D.val (vI n11)), (D.val (vI n12))])] [(D.val (.bool false))]) ∧
 (k [(D.agg [(D.val (vI n11)), (D.val (vI n12)), (D.val (vI n3)), (D.val (vI n4))]), (D.val (vI (0 : Int)))])))) ∨
 ((Says C 147 [(D.agg [(D.val (vI n11)), (D.val (vI n12))]), (D.agg [(D.val (vI n9)), (D.val (vI n10))])] [(D.val (.bool false))]) ∧
 (((Says C 147 [(D.agg [(D.val (vI n3)), (D.val (vI n4))]), (D.agg [(D.val (vI n11)), (D.val (vI n12))])] [(D.val (.bool true))]) ∧
 (k [(D.agg [(D.val (vI n9)), (D.val (vI n10)), (D.val (vI n11)), (D.val (vI n12))]), (D.val (vI (0 : Int)))])) ∨
 ((Says C 147 [(D.agg [(D.val (vI n3)), (D.val (vI n4))]), (D.agg [(D.val (vI n11)), (D.val (vI n12))])] [(D.val (.bool false))]) ∧
 (k [(D.agg [(D.val (vI n9)), (D.val (vI n10)), (D.val (vI n3)), (D.val (vI n4))]), (D.val (vI (0 : Int)))]))))))))))) ∨
 ((Says C 147 [(D.agg [(D.val (vI n9)), (D.val (vI n10))]), (D.agg [(D.val (vI n5)), (D.val (vI n6))])] [(D.val (.bool false))]) ∧
 (((Says C 147 [(D.agg [(D.val (vI n3)), (D.val (vI n4))]), (D.agg [(D.val (vI n9)), (D.val (vI n10))])] [(D.val (.bool true))]) ∧
 (∃ n11 : Int,
 (∃ n12 : Int,
 ((Says C 87 [(D.val (vI b)), (D.val (vI d)), (D.val (vI e)), (D.val (vI x))] [(D.agg [(D.val (vI n11)), (D.val (vI n12))])]) ∧
 (((Says C 147 [(D.agg [(D.val (vI n11)), (D.val (vI n12))]), (D.agg [(D.val (vI n5)), (D.val (vI n6))])] [(D.val (.bool true))]) ∧
 (((Says C 147 [(D.agg [(D.val (vI n9)), (D.val (vI n10))]), (D.agg [(D.val (vI n11)), (D.val (vI n12))])] [(D.val (.bool true))]) ∧
 (k [(D.agg [(D.val (vI n11)), (D.val (vI n12)), (D.val (vI n11)), (D.val (vI n12))]), (D.val (vI (0 : Int)))])) ∨
 ((Says C 147 [(D.agg [(D.val (vI n9)), (D.val (vI n10))]), (D.agg [(D.val (vI n11)), (D.val (vI n12))])] [(D.val (.bool false))]) ∧
 (k [(D.agg [(D.val (vI n11)), (D.val (vI n12)), (D.val (vI n9)), (D.val (vI n10))]), (D.val (vI (0 : Int)))])))) ∨
 ((Says C 147 [(D.agg [(D.val (vI n11)), (D.val (vI n12))]), (D.agg [(D.val (vI n5)), (D.val (vI n6))])] [(D.val (.bool false))]) ∧
 (((Says C 147 [(D.agg [(D.val (vI n9)), (D.val (vI n10))]), (D.agg [(D.val (vI n11)), (D.val (vI n12))])] [(D.val (.bool true))]) ∧
 (k [(D.agg [(D.val (vI n5)), (D.val (vI n6)), (D.val (vI n11)), (D.val (vI n12))]), (D.val (vI (0 : Int)))])) ∨
 ((Says C 147 [(D.agg [(D.val (vI n9)), (D.val (vI n10))]), (D.agg [(D.val (vI n11)), (D.val (vI n12))])] [(D.val (.bool false))]) ∧
 (k [(D.agg [(D.val (vI n5)), (D.val (vI n6)), (D.val (vI n9)), (D.val (vI n10))]), (D.val (vI (0 : Int)))]))))))))) ∨
 ((Says C 147 [(D.agg [(D.val (vI n3)), (D.val (vI n4))]), (D.agg [(D.val (vI n9)), (D.val (vI n10))])] [(D.val (.bool false))]) ∧
 (∃ n11 : Int,
 (∃ n12 : Int,
 ((Says C 87 [(D.val (vI b)), (D.val (vI d)), (D.val (vI e)), (D.val (vI x))] [(D.agg [(D.val (vI n11)), (D.val (vI n12))])]) ∧
 (((Says C 147 [(D.agg [(D.val (vI n11)), (D.val (vI n12))]), (D.agg [(D.val (vI n5)), (D.val (vI n6))])] [(D.val (.bool true))]) ∧
 (((Says C 147 [(D.agg [(D.val (vI n3)), (D.val (vI n4))]), (D.agg [(D.val (vI n11)), (D.val (vI n12))])] [(D.val (.bool true))]) ∧
 (k [(D.agg [(D.val (vI n11)), (D.val (vI n12)), (D.val (vI n11)), (D.val (vI n12))]), (D.val (vI (0 : Int)))])) ∨
 ((Says C 147 [(D.agg [(D.val (vI n3)), (D.val (vI n4))]), (D.agg [(D.val (vI n11)), (D.val (vI n12))])] [(D.val (.bool false))]) ∧
 (k [(D.agg [(D.val (vI n11)), (D.val (vI n12)), (D.val (vI n3)), (D.val (vI n4))]), (D.val (vI (0 : Int)))])))) ∨
 ((Says C 147 [(D.agg [(D.val (vI n11)), (D.val (vI n12))]), (D.agg [(D.val (vI n5)), (D.val (vI n6))])] [(D.val (.bool false))]) ∧
 (((Says C 147 [(D.agg [(D.val (vI n3)), (D.val (vI n4))]), (D.agg [(D.val (vI n11)), (D.val (vI n12))])] [(D.val (.bool true))]) ∧
 (k [(D.agg [(D.val (vI n5)), (D.val (vI n6)), (D.val (vI n11)), (D.val (vI n12))]), (D.val (vI (0 : Int)))])) ∨
 ((Says C 147 [(D.agg [(D.val (vI n3)), (D.val (vI n4))]), (D.agg [(D.val (vI n11)), (D.val (vI n12))])] [(D.val (.bool false))]) ∧
 (k [(D.agg [(D.val (vI n5)), (D.val (vI n6)), (D.val (vI n3)), (D.val (vI n4))]), (D.val (vI (0 : Int)))]))))))))))))))))))))))))) ∨
 ((Says C 147 [(D.agg [(D.val (vI n5)), (D.val (vI n6))]), (D.agg [(D.val (vI n3)), (D.val (vI n4))])] [(D.val (.bool false))]) ∧
 (((Says C 147 [(D.agg [(D.val (vI n3)), (D.val (vI n4))]), (D.agg [(D.val (vI n5)), (D.val (vI n6))])] [(D.val (.bool true))]) ∧
 (∃ n7 : Int,
 (∃ n8 : Int,
 ((Says C 87 [(D.val (vI a)), (D.val (vI d)), (D.val (vI e)), (D.val (vI x))] [(D.agg [(D.val (vI n7)), (D.val (vI n8))])]) ∧
 (((Says C 147 [(D.agg [(D.val (vI n7)), (D.val (vI n8))]), (D.agg [(D.val (vI n3)), (D.val (vI n4))])] [(D.val (.bool true))]) ∧
 (((Says C 147 [(D.agg [(D.val (vI n5)), (D.val (vI n6))]), (D.agg [(D.val (vI n7)), (D.val (vI n8))])] [(D.val (.bool true))]) ∧
 (∃ n9 : Int,
 (∃ n10 : Int,
 ((Says C 87 [(D.val (vI b)), (D.val (vI c)), (D.val (vI e)), (D.val (vI x))] [(D.agg [(D.val (vI n9)), (D.val (vI n10))])]) ∧
 (((Says C 147 [(D.agg [(D.val (vI n9)), (D.val (vI n10))]), (D.agg [(D.val (vI n7)), (D.val (vI n8))])] [(D.val (.bool true))]) ∧
 (((Says C 147 [(D.agg [(D.val (vI n7)), (D.val (vI n8))]), (D.agg [(D.val (vI n9)), (D.val (vI n10))])] [(D.val (.bool true))]) ∧
 (∃ n11 : Int,
 (∃ n12 : Int,
 ((Says C 87 [(D.val (vI b)), (D.val (vI d)), (D.val (vI e)), (D.val (vI x))] [(D.agg [(D.val (vI n11)), (D.val (vI n12))])]) ∧
 (((Says C 147 [(D.agg [(D.val (vI n11)), (D.val (vI n12))]), (D.agg [(D.val (vI n9)), (D.val (vI n10))])] [(D.val (.bool true))]) ∧
 (((Says C 147 [(D.agg [(D.val (vI n9)), (D.val (vI n10))]), (D.agg [(D.val (vI n11)), (D.val (vI n12))])] [(D.val (.bool true))]) ∧
 (k [(D.agg [(D.val (vI n11)), (D.val (vI n12)), (D.val (vI n11)), (D.val (vI n12))]), (D.val (vI (0 : Int)))])) ∨
 ((Says C 147 [(D.agg [(D.val (vI n9)), (D.val (vI n10))]), (D.agg [(D.val (vI n11)), (D.val (vI n12))])] [(D.val (.bool false))]) ∧
 (k [(D.agg [(D.val (vI n11)), (D.val (vI n12)), (D.val (vI n9)), (D.val (vI n10))]), (D.val (vI (0 : Int)))])))) ∨
 ((Says C 147 [(D.agg [(D.val (vI n11)), (D.val (vI n12))]), (D.agg [(D.val (vI n9)), (D.val (vI n10))])] [(D.val (.bool false))]) ∧
 (((Says C 147 [(D.agg [(D.val (vI n9)), (D.val (vI n10))]), (D.agg [(D.val (vI n11)), (D.val (vI n12))])] [(D.val (.bool true))]) ∧
 (k [(D.agg [(D.val (vI n9)), (D.val (vI n10)), (D.val (vI n11)), (D.val (vI n12))]), (D.val (vI (0 : Int)))])) ∨
 ((Says C 147 [(D.agg [(D.val (vI n9)), (D.val (vI n10))]), (D.agg [(D.val (vI n11)), (D.val (vI n12))])] [(D.val (.bool false))]) ∧
 (k [(D.agg [(D.val (vI n9)), (D.val (vI n10)), (D.val (vI n9)), (D.val (vI n10))]), (D.val (vI (0 : Int)))]))))))))) ∨
 ((Says C 147 [(D.agg [(D.val (vI n7)), (D.val (vI n8))]), (D.agg [(D.val (vI n9)), (D.val (vI n10))])] [(D.val (.bool false))]) ∧
 (∃ n11 : Int,
 (∃ n12 : Int,
 ((Says C 87 [(D.val (vI b)), (D.val (vI d)), (D.val (vI e)), (D.val (vI x))] [(D.agg [(D.val (vI n11)), (D.val (vI n12))])]) ∧
 (((Says C 147 [(D.agg [(D.val (vI n11)), (D.val (vI n12))]), (D.agg [(D.val (vI n9)), (D.val (vI n10))])] [(D.val (.bool true))]) ∧
 (((Says C 147 [(D.agg [(D.val (vI n7)), (D.val (vI n8))]), (D.agg [(D.val (vI n11)), (D.val (vI n12))])] [(D.val (.bool true))]) ∧
 (k [(D.agg [(D.val (vI n11)), (D.val (vI n12)), (D.val (vI n11)), (D.val (vI n12))]), (D.val (vI (0 : Int)))])) ∨
 ((Says C 147 [(D.agg [(D.val (vI n7)), (D.val (vI n8))]), (D.agg [(D.val (vI n11)), (D.val (vI n12))])] [(D.val (.bool false))]) ∧
 (k [(D.agg [(D.val (vI n11)), (D.val (vI n12)), (D.val (vI n7)), (D.val (vI n8))]), (D.val (vI (0 : Int)))])))) ∨
 ((Says C 147 [(D.agg [(D.val (vI n11)), (D.val (vI n12))]), (D.agg [(D.val (vI n9)), (D.val (vI n10))])] [(D.val (.bool false))]) ∧
 (((Says C 147 [(D.agg [(D.val (vI n7)), (D.val (vI n8))]), (D.agg [(D.val (vI n11)), (D.val (vI n12))])] [(D.val (.bool true))]) ∧
 (k [(D.agg [(D.val (vI n9)), (D.val (vI n10)), (D.val (vI n11)), (D.val (vI n12))]), (D.val (vI (0 : Int)))])) ∨
 ((Says C 147 [(D.agg [(D.val (vI n7)), (D.val (vI n8))]), (D.agg [(D.val (vI n11)), (D.val (vI n12))])] [(D.val (.bool false))]) ∧
 (k [(D.agg [(D.val (vI n9)), (D.val (vI n10)), (D.val (vI n7)), (D.val (vI n8))]), (D.val (vI (0 : Int)))]))))))))))) ∨
 ((Says C 147 [(D.agg [(D.val (vI n9)), (D.val (vI n10))]), (D.agg [(D.val (vI n7)), (D.val (vI n8))])] [(D.val (.bool false))]) ∧
 (((Says C 147 [(D.agg [(D.val (vI n7)), (D.val (vI n8))]), (D.agg [(D.val (vI n9)), (D.val (vI n10))])] [(D.val (.bool true))]) ∧
 (∃ n11 : Int,
 (∃ n12 : Int,
 ((Says C 87 [(D.val (vI b)), (D.val (vI d)), (D.val (vI e)), (D.val (vI x))] [(D.agg [(D.val (vI n11)), (D.val (vI n12))])]) ∧
 (((Says C 147 [(D.agg [(D.val (vI n11)), (D.val (vI n12))]), (D.agg [(D.val (vI n7)), (D.val (vI n8))])] [(D.val (.bool true))]) ∧
 (((Says C 147 [(D.agg [(D.val (vI n9)), (D.val (vI n10))]), (D.agg [(D.val (vI n11)), (D.val (vI n12))])] [(D.val (.bool true))]) ∧
 (k [(D.agg [(D.val (vI n11)), (D.val (vI n12)), (D.val (vI n11)), (D.val (vI n12))]), (D.val (vI (0 : Int)))])) ∨
 ((Says C 147 [(D.agg [(D.val (vI n9)), (D.val (vI n10))]), (D.agg [(D.val (vI n11)), (D.val (vI n12))])] [(D.val (.bool false))]) ∧
 (k [(D.agg [(D.val (vI n11)), (D.val (vI n12)), (D.val (vI n9)), (D.val (vI n10))]), (D.val (vI (0 : Int)))])))) ∨
 ((Says C 147 [(D.agg [(D.val (vI n11)), (D.val (vI n12))]), (D.agg [(D.val (vI n7)), (D.val (vI n8))])] [(D.val (.bool false))]) ∧
 (((Says C 147 [(D.agg [(D.val (vI n9)), (D.val (vI n10))]), (D.agg [(D.val (vI n11)), (D.val (vI n12))])] [(D.val (.bool true))]) ∧
 (k [(D.agg [(D.val (vI n7)), (D.val (vI n8)), (D.val (vI n11)), (D.val (vI n12))]), (D.val (vI (0 : Int)))])) ∨
 ((Says C 147 [(D.agg [(D.val (vI n9)), (D.val (vI n10))]), (D.agg [(D.val (vI n11)), (D.val (vI n12))])] [(D.val (.bool false))]) ∧
 (k [(D.agg [(D.val (vI n7)), (D.val (vI n8)), (D.val (vI n9)), (D.val (vI n10))]), (D.val (vI (0 : Int)))]))))))))) ∨
 ((Says C 147 [(D.agg [(D.val (vI n7)), (D.val (vI n8))]), (D.agg [(D.val (vI n9)), (D.val (vI n10))])] [(D.val (.bool false))]) ∧
 (∃ n11 : Int,
 (∃ n12 : Int,
 ((Says C 87 [(D.val (vI b)), (D.val (vI d)), (D.val (vI e)), (D.val (vI x))] [(D.agg [(D.val (vI n11)), (D.val (vI n12))])]) ∧
 (((Says C 147 [(D.agg [(D.val (vI n11)), (D.val (vI n12))]), (D.agg [(D.val (vI n7)), (D.val (vI n8))])] [(D.val (.bool true))]) ∧
 (((Says C 147 [(D.agg [(D.val (vI n7)), (D.val (vI n8))]), (D.agg [(D.val (vI n11)), (D.val (vI n12))])] [(D.val (.bool true))]) ∧
 (k [(D.agg [(D.val (vI n11)), (D.val (vI n12)), (D.val (vI n11)), (D.val (vI n12))]), (D.val (vI (0 : Int)))])) ∨
 ((Says C 147 [(D.agg [(D.val (vI n7)), (D.val (vI n8))]), (D.agg [(D.val (vI n11)), (D.val (vI n12))])] [(D.val (.bool false))]) ∧
 (k [(D.agg [(D.val (vI n11)), (D.val (vI n12)), (D.val (vI n7)), (D.val (vI n8))]), (D.val (vI (0 : Int)))])))) ∨
 ((Says C 147 [(D.agg [(D.val (vI n11)), (D.val (vI n12))]), (D.agg [(D.val (vI n7)), (D.val (vI n8))])] [(D.val (.bool false))]) ∧
 (((Says C 147 [(D.agg [(D.val (vI n7)), (D.val (vI n8))]), (D.agg [(D.val (vI n11)), (D.val (vI n12))])] [(D.val (.bool true))]) ∧
 (k [(D.agg [(D.val (vI n7)), (D.val (vI n8)), (D.val (vI n11)), (D.val (vI n12))]), (D.val (vI (0 : Int)))])) ∨
 ((Says C 147 [(D.agg [(D.val (vI n7)), (D.val (vI n8))]), (D.agg [(D.val (vI n11)), (D.val (vI n12))])] [(D.val (.bool false))]) ∧
 (k [(D.agg [(D.val (vI n7)), (D.val (vI n8)), (D.val (vI n7)), (D.val (vI n8))]), (D.val (vI (0 : Int)))])))))))))))))))) ∨
 ((Says C 147 [(D.agg [(D.val (vI n5)), (D.val (vI n6))]), (D.agg [(D.val (vI n7)), (D.val (vI n8))])] [(D.val (.bool false))]) ∧
 (∃ n9 : Int,
 (∃ n10 : Int,
 ((Says C 87 [(D.val (vI b)), (D.val (vI c)), (D.val (vI e)), (D.val (vI x))] [(D.agg [(D.val (vI n9)), (D.val (vI n10))])]) ∧
 (((Says C 147 [(D.agg [(D.val (vI n9)), (D.val (vI n10))]), (D.agg [(D.val (vI n7)), (D.val (vI n8))])] [(D.val (.bool true))]) ∧
 (((Says C 147 [(D.agg [(D.val (vI n5)), (D.val (vI n6))]), (D.agg [(D.val (vI n9)), (D.val (vI n10))])] [(D.val (.bool true))]) ∧
 (∃ n11 : Int,
 (∃ n12 : Int,
 ((Says C 87 [(D.val (vI b)), (D.val (vI d)), (D.val (vI e)), (D.val (vI x))] [(D.agg [(D.val (vI n11)), (D.val (vI n12))])]) ∧
 (((Says C 147 [(D.agg [(D.val (vI n11)), (D.val (vI n12))]), (D.agg [(D.val (vI n9)), (D.val (vI n10))])] [(D.val (.bool true))]) ∧
 (((Says C 147 [(D.agg [(D.val (vI n9)), (D.val (vI n10))]), (D.agg [(D.val (vI n11)), (D.val (vI n12))])] [(D.val (.bool true))]) ∧
 (k [(D.agg [(D.val (vI n11)), (D.val (vI n12)), (D.val (vI n11)), (D.val (vI n12))]), (D.val (vI (0 : Int)))])) ∨
 ((Says C 147 [(D.agg [(D.val (vI n9)), (D.val (vI n10))]), (D.agg [(D.val (vI n11)), (D.val (vI n12))])] [(D.val (.bool false))]) ∧
 (k [(D.agg [(D.val (vI n11)), (D.val (vI n12)), (D.val (vI n9)), (D.val (vI n10))]), (D.val (vI (0 : Int)))])))) ∨
 ((Says C 147 [(D.agg [(D.val (vI n11)), (D.val (vI n12))]), (D.agg [(D.val (vI n9)), (D.val (vI n10))])] [(D.val (.bool false))]) ∧
 (((Says C 147 [(D.agg [(D.val (vI n9)), (D.val (vI n10))]), (D.agg [(D.val (vI n11)), (D.val (vI n12))])] [(D.val (.bool true))]) ∧
 (k [(D.agg [(D.val (vI n9)), (D.val (vI n10)), (D.val (vI n11)), (D.val (vI n12))]), (D.val (vI (0 : Int)))])) ∨
 ((Says C 147 [(D.agg [(D.val (vI n9)), (D.val (vI n10))]), (D.agg [(D.val (vI n11)), (D.val (vI n12))])] [(D.val (.bool false))]) ∧
 (k [(D.agg [(D.val (vI n9)), (D.val (vI n10)), (D.val (vI n9)), (D.val (vI n10))]), (D.val (vI (0 : Int)))]))))))))) ∨
 ((Says C 147 [(D.agg [(D.val (vI n5)), (D.val (vI n6))]), (D.agg [(D.val (vI n9)), (D.val (vI n10))])] [(D.val (.bool false))]) ∧
 (∃ n11 : Int,
 (∃ n12 : Int,
 ((Says C 87 [(D.val (vI b)), (D.val (vI d)), (D.val (vI e)), (D.val (vI x))] [(D.agg [(D.val (vI n11)), (D.val (vI n12))])]) ∧
 (((Says C 147 [(D.agg [(D.val (vI n11)), (D.val (vI n12))]), (D.agg [(D.val (vI n9)), (D.val (vI n10))])] [(D.val (.bool true))]) ∧
 (((Says C 147 [(D.agg [(D.val (vI n5)), (D.val (vI n6))]), (D.agg [(D.val (vI n11)), (D.val (vI n12))])] [(D.val (.bool true))]) ∧
 (k [(D.agg [(D.val (vI n11)), (D.val (vI n12)), (D.val (vI n11)), (D.val (vI n12))]), (D.val (vI (0 : Int)))])) ∨
 ((Says C 147 [(D.agg [(D.val (vI n5)), (D.val (vI n6))]), (D.agg [(D.val (vI n11)), (D.val (vI n12))])] [(D.val (.bool false))]) ∧
 (k [(D.agg [(D.val (vI n11)), (D.val (vI n12)), (D.val (vI n5)), (D.val (vI n6))]), (D.val (vI (0 : Int)))])))) ∨
 ((Says C 147 [(D.agg [(D.val (vI n11)), (D.val (vI n12))]), (D.agg [(D.val (vI n9)), (D.val (vI n10))])] [(D.val (.bool false))]) ∧
 (((Says C 147 [(D.agg [(D.val (vI n5)), (D.val (vI n6))]), (D.agg [(D.val (vI n11)), (D.val (vI n12))])] [(D.val (.bool true))]) ∧
 (k [(D.agg [(D.val (vI n9)), (D.val (vI n10)), (D.val (vI n11)), (D.val (vI n12))]), (D.val (vI (0 : Int)))])) ∨
 ((Says C 147 [(D.agg [(D.val (vI n5)), (D.val (vI n6))]), (D.agg [(D.val (vI n11)), (D.val (vI n12))])] [(D.val (.bool false))]) ∧
 (k [(D.agg [(D.val (vI n9)), (D.val (vI n10)), (D.val (vI n5)), (D.val (vI n6))]), (D.val (vI (0 : Int)))]))))))))))) ∨
 ((Says C 147 [(D.agg [(D.val (vI n9)), (D.val (vI n10))]), (D.agg [(D.val (vI n7)), (D.val (vI n8))])] [(D.val (.bool false))]) ∧
 (((Says C 147 [(D.agg [(D.val (vI n5)), (D.val (vI n6))]), (D.agg [(D.val (vI n9)), (D.val (vI n10))])] [(D.val (.bool true))]) ∧
 (∃ n11 : Int,
 (∃ n12 : Int,
 ((Says C 87 [(D.val (vI b)), (D.val (vI d)), (D.val (vI e)), (D.val (vI x))] [(D.agg [(D.val (vI n11)), (D.val (vI n12))])]) ∧
 (((Says C 147 [(D.agg [(D.val (vI n11)), (D.val (vI n12))]), (D.agg [(D.val (vI n7)), (D.val (vI n8))])] [(D.val (.bool true))]) ∧
 (((Says C 147 [(D.agg [(D.val (vI n9)), (D.val (vI n10))]), (D.agg [(D.val (vI n11)), (D.val (vI n12))])] [(D.val (.bool true))]) ∧
 (k [(D.agg [(D.val (vI n11)), (D.val (vI n12)), (D.val (vI n11)), (D.val (vI n12))]), (D.val (vI (0 : Int)))])) ∨
 ((Says C 147 [(D.agg [(D.val (vI n9)), (D.val (vI n10))]), (D.agg [(D.val (vI n11)), (D.val (vI n12))])] [(D.val (.bool false))]) ∧
 (k [(D.agg [(D.val (vI n11)), (D.val (vI n12)), (D.val (vI n9)), (D.val (vI n10))]), (D.val (vI (0 : Int)))])))) ∨
 ((Says C 147 [(D.agg [(D.val (vI n11)), (D.val (vI n12))]), (D.agg [(D.val (vI n7)), (D.val (vI n8))])] [(D.val (.bool false))]) ∧
 (((Says C 147 [(D.agg [(D.val (vI n9)), (D.val (vI n10))]), (D.agg [(D.val (vI n11)), (D.val (vI n12))])] [(D.val (.bool true))]) ∧
 (k [(D.agg [(D.val (vI n7)), (D.val (vI n8)), (D.val (vI n11)), (D.val (vI n12))]), (D.val (vI (0 : Int)))])) ∨
 ((Says C 147 [(D.agg [(D.val (vI n9)), (D.val (vI n10))]), (D.agg [(D.val (vI n11)), (D.val (vI n12))])] [(D.val (.bool false))]) ∧
 (k [(D.agg [(D.val (vI n7)), (D.val (vI n8)), (D.val (vI n9)), (D.val (vI n10))]), (D.val (vI (0 : Int)))]))))))))) ∨
 ((Says C 147 [(D.agg [(D.val (vI n5)), (D.val (vI n6))]), (D.agg [(D.val (vI n9)), (D.val (vI n10))])] [(D.val (.bool false))]) ∧
 (∃ n11 : Int,
 (∃ n12 : Int,
 ((Says C 87 [(D.val (vI b)), (D.val (vI d)), (D.val (vI e)), (D.val (vI x))] [(D.agg [(D.val (vI n11)), (D.val (vI n12))])]) ∧
 (((Says C 147 [(D.agg [(D.val (vI n11)), (D.val (vI n12))]), (D.agg [(D.val (vI n7)), (D.val (vI n8))])] [(D.val (.bool true))]) ∧
 (((Says C 147 [(D.agg [(D.val (vI n5)), (D.val (vI n6))]), (D.agg [(D.val (vI n11)), (D.val (vI n12))])] [(D.val (.bool true))]) ∧
 (k [(D.agg [(D.val (vI n11)), (D.val (vI n12)), (D.val (vI n11)), (D.val (vI n12))]), (D.val (vI (0 : Int)))])) ∨
 ((Says C 147 [(D.agg [(D.val (vI n5)), (D.val (vI n6))]), (D.agg [(D.val (vI n11)), (D.val (vI n12))])] [(D.val (.bool false))]) ∧
 (k [(D.agg [(D.val (vI n11)), (D.val (vI n12)), (D.val (vI n5)), (D.val (vI n6))]), (D.val (vI (0 : Int)))])))) ∨
 ((Says C 147 [(D.agg [(D.val (vI n11)), (D.val (vI n12))]), (D.agg [(D.val (vI n7)), (D.val (vI n8))])] [(D.val (.bool false))]) ∧
 (((Says C 147 [(D.agg [(D.val (vI n5)), (D.val (vI n6))]), (D.agg [(D.val (vI n11)), (D.val (vI n12))])] [(D.val (.bool true))]) ∧
 (k [(D.agg [(D.val (vI n7)), (D.val (vI n8)), (D.val (vI n11)), (D.val (vI n12))]), (D.val (vI (0 : Int)))])) ∨
 ((Says C 147 [(D.agg [(D.val (vI n5)), (D.val (vI n6))]), (D.agg [(D.val (vI n11)), (D.val (vI n12))])] [(D.val (.bool false))]) ∧
 (k [(D.agg [(D.val (vI n7)), (D.val (vI n8)), (D.val (vI n5)), (D.val (vI n6))]), (D.val (vI (0 : Int)))])))))))))))))))))) ∨
 ((Says C 147 [(D.agg [(D.val (vI n7)), (D.val (vI n8))]), (D.agg [(D.val (vI n3)), (D.val (vI n4))])] [(D.val (.bool false))]) ∧
 (((Says C 147 [(D.agg [(D.val (vI n5)), (D.val (vI n6))]), (D.agg [(D.val (vI n7)), (D.val (vI n8))])] [(D.val (.bool true))]) ∧
 (∃ n9 : Int,
 (∃ n10 : Int,
 ((Says C 87 [(D.val (vI b)), (D.val (vI c)), (D.val (vI e)), (D.val (vI x))] [(D.agg [(D.val (vI n9)), (D.val (vI n10))])]) ∧
 (((Says C 147 [(D.agg [(D.val (vI n9)), (D.val (vI n10))]), (D.agg [(D.val (vI n3)), (D.val (vI n4))])] [(D.val (.bool true))]) ∧
 (((Says C 147 [(D.agg [(D.val (vI n7)), (D.val (vI n8))]), (D.agg [(D.val (vI n9)), (D.val (vI n10))])] [(D.val (.bool true))]) ∧
 (∃ n11 : Int,
 (∃ n12 : Int,
 ((Says C 87 [(D.val (vI b)), (D.val (vI d)), (D.val (vI e)), (D.val (vI x))] [(D.agg [(D.val (vI n11)), (D.val (vI n12))])]) ∧
 (((Says C 147 [(D.agg [(D.val (vI n11)), (D.val (vI n12))]), (D.agg [(D.val (vI n9)), (D.val (vI n10))])] [(D.val (.bool true))]) ∧
 (((Says C 147 [(D.agg [(D.val (vI n9)), (D.val (vI n10))]), (D.agg [(D.val (vI n11)), (D.val (vI n12))])] [(D.val (.bool true))]) ∧
 (k [(D.agg [(D.val (vI n11)), (D.val (vI n12)), (D.val (vI n11)), (D.val (vI n12))]), (D.val (vI (0 : Int)))])) ∨
 ((Says C 147 [(D.agg [(D.val (vI n9)), (D.val (vI n10))]), (D.agg [(D.val (vI n11)), (D.val (vI n12))])] [(D.val (.bool false))]) ∧
 (k [(D.agg [(D.val (vI n11)), (D.val (vI n12)), (D.val (vI n9)), (D.val (vI n10))]), (D.val (vI (0 : Int)))])))) ∨
 ((Says C 147 [(D.agg [(D.val (vI n11)), (D.val (vI n12))]), (D.agg [(D.val (vI n9)), (D.val (vI n10))])] [(D.val (.bool false))]) ∧
 (((Says C 147 [(D.agg [(D.val (vI n9)), (D.val (vI n10))]), (D.agg [(D.val (vI n11)), (D.val (vI n12))])] [(D.val (.bool true))]) ∧
 (k [(D.agg [(D.val (vI n9)), (D.val (vI n10)), (D.val (vI n11)), (D.val (vI n12))]), (D.val (vI (0 : Int)))])) ∨
 ((Says C 147 [(D.agg [(D.val (vI n9)), (D.val (vI n10))]), (D.agg [(D.val (vI n11)), (D.val (vI n12))])] [(D.val (.bool false))]) ∧
 (k [(D.agg [(D.val (vI n9)), (D.val (vI n10)), (D.val (vI n9)), (D.val (vI n10))]), (D.val (vI (0 : Int)))]))))))))) ∨
 ((Says C 147 [(D.agg [(D.val (vI n7)), (D.val (vI n8))]), (D.agg [(D.val (vI n9)), (D.val (vI n10))])] [(D.val (.bool false))]) ∧
 (∃ n11 : Int,
 (∃ n12 : Int,
 ((Says C 87 [(D.val (vI b)), (D.val (vI d)), (D.val (vI e)), (D.val (vI x))] [(D.agg [(D.val (vI n11)), (D.val (vI n12))])]) ∧
 (((Says C 147 [(D.agg [(D.val (vI n11)), (D.val (vI n12))]), (D.agg [(D.val (vI n9)), (D.val (vI n10))])] [(D.val (.bool true))]) ∧
 (((Says C 147 [(D.agg [(D.val (vI n7)), (D.val (vI n8))]), (D.agg [(D.val (vI n11)), (D.val (vI n12))])] [(D.val (.bool true))]) ∧
 (k [(D.agg [(D.val (vI n11)), (D.val (vI n12)), (D.val (vI n11)), (D.val (vI n12))]), (D.val (vI (0 : Int)))])) ∨
 ((Says C 147 [(D.agg [(D.val (vI n7)), (D.val (vI n8))]), (D.agg [(D.val (vI n11)), (D.val (vI n12))])] [(D.val (.bool false))]) ∧
 (k [(D.agg [(D.val (vI n11)), (D.val (vI n12)), (D.val (vI n7)), (D.val (vI n8))]), (D.val (vI (0 : Int)))])))) ∨
 ((Says C 147 [(D.agg [(D.val (vI n11)), (D.val (vI n12))]), (D.agg [(D.val (vI n9)), (D.val (vI n10))])] [(D.val (.bool false))]) ∧
 (((Says C 147 [(D.agg [(D.val (vI n7)), (D.val (vI n8))]), (D.agg [(D.val (vI n11)), (D.val (vI n12))])] [(D.val (.bool true))]) ∧
 (k [(D.agg [(D.val (vI n9)), (D.val (vI n10)), (D.val (vI n11)), (D.val (vI n12))]), (D.val (vI (0 : Int)))])) ∨
 ((Says C 147 [(D.agg [(D.val (vI n7)), (D.val (vI n8))]), (D.agg [(D.val (vI n11)), (D.val (vI n12))])] [(D.val (.bool false))]) ∧
 (k [(D.agg [(D.val (vI n9)), (D.val (vI n10)), (D.val (vI n7)), (D.val (vI n8))]), (D.val (vI (0 : Int)))]))))))))))) ∨
 ((Says C 147 [(D.agg [(D.val (vI n9)), (D.val (vI n10))]), (D.agg [(D.val (vI n3)), (D.val (vI n4))])] [(D.val (.bool false))]) ∧
 (((Says C 147 [(D.agg [(D.val (vI n7)), (D.val (vI n8))]), (D.agg [(D.val (vI n9)), (D.val (vI n10))])] [(D.val (.bool true))]) ∧
 (∃ n11 : Int,
 (∃ n12 : Int,
 ((Says C 87 [(D.val (vI b)), (D.val (vI d)), (D.val (vI e)), (D.val (vI x))] [(D.agg [(D.val (vI n11)), (D.val (vI n12))])]) ∧
 (((Says C 147 [(D.agg [(D.val (vI n11)), (D.val (vI n12))]), (D.agg [(D.val (vI n3)), (D.val (vI n4))])] [(D.val (.bool true))]) ∧
 (((Says C 147 [(D.agg [(D.val (vI n9)), (D.val (vI n10))]), (D.agg [(D.val (vI n11)), (D.val (vI n12))])] [(D.val (.bool true))]) ∧
 (k [(D.agg [(D.val (vI n11)), (D.val (vI n12)), (D.val (vI n11)), (D.val (vI n12))]), (D.val (vI (0 : Int)))])) ∨
 ((Says C 147 [(D.agg [(D.val (vI n9)), (D.val (vI n10))]), (D.agg [(D.val (vI n11)), (D.val (vI n12))])] [(D.val (.bool false))]) ∧
 (k [(D.agg [(D.val (vI n11)), (D.val (vI n12)), (D.val (vI n9)), (D.val (vI n10))]), (D.val (vI (0 : Int)))])))) ∨
 ((Says C 147 [(D.agg [(D.val (vI n11)), (D.val (vI n12))]), (D.agg [(D.val (vI n3)), (D.val (vI n4))])] [(D.val (.bool false))]) ∧
 (((Says C 147 [(D.agg [(D.val (vI n9)), (D.val (vI n10))]), (D.agg [(D.val (vI n11)), (D.val (vI n12))])] [(D.val (.bool true))]) ∧
 (k [(D.agg [(D.val (vI n3)), (D.val (vI n4)), (D.val (vI n11)), (D.val (vI n12))]), (D.val (vI (0 : Int)))])) ∨
 ((Says C 147 [(D.agg [(D.val (vI n9)), (D.val (vI n10))]), (D.agg [(D.val (vI n11)), (D.val (vI n12))])] [(D.val (.bool false))]) ∧
 (k [(D.agg [(D.val (vI n3)), (D.val (vI n4)), (D.val (vI n9)), (D.val (vI n10))]), (D.val (vI (0 : Int)))]))))))))) ∨
 ((Says C 147 [(D.agg [(D.val (vI n7)), (D.val (vI n8))]), (D.agg [(D.val (vI n9)), (D.val (vI n10))])] [(D.val (.bool false))]) ∧
 (∃ n11 : Int,
 (∃ n12 : Int,
 ((Says C 87 [(D.val (vI b)), (D.val (vI d)), (D.val (vI e)), (D.val (vI x))] [(D.agg [(D.val (vI n11)), (D.val (vI n12))])]) ∧
 (((Says C 147 [(D.agg [(D.val (vI n11)), (D.val (vI n12))]), (D.agg [(D.val (vI n3)), (D.val (vI n4))])] [(D.val (.bool true))]) ∧
 (((Says C 147 [(D.agg [(D.val (vI n7)), (D.val (vI n8))]), (D.agg [(D.val (vI n11)), (D.val (vI n12))])] [(D.val (.bool true))]) ∧
 (k [(D.agg [(D.val (vI n11)), (D.val (vI n12)), (D.val (vI n11)), (D.val (vI n12))]), (D.val (vI (0 : Int)))])) ∨
 ((Says C 147 [(D.agg [(D.val (vI n7)), (D.val (vI n8))]), (D.agg [(D.val (vI n11)), (D.val (vI n12))])] [(D.val (.bool false))]) ∧
 (k [(D.agg [(D.val (vI n11)), (D.val (vI n12)), (D.val (vI n7)), (D.val (vI n8))]), (D.val (vI (0 : Int)))])))) ∨
 ((Says C 147 [(D.agg [(D.val (vI n11)), (D.val (vI n12))]), (D.agg [(D.val (vI n3)), (D.val (vI n4))])] [(D.val (.bool false))]) ∧
 (((Says C 147 [(D.agg [(D.val (vI n7)), (D.val (vI n8))]), (D.agg [(D.val (vI n11)), (D.val (vI n12))])] [(D.val (.bool true))]) ∧
 (k [(D.agg [(D.val (vI n3)), (D.val (vI n4)), (D.val (vI n11)), (D.val (vI n12))]), (D.val (vI (0 : Int)))])) ∨
 ((Says C 147 [(D.agg [(D.val (vI n7)), (D.val (vI n8))]), (D.agg [(D.val (vI n11)), (D.val (vI n12))])] [(D.val (.bool false))]) ∧
 (k [(D.agg [(D.val (vI n3)), (D.val (vI n4)), (D.val (vI n7)), (D.val (vI n8))]), (D.val (vI (0 : Int)))])))))))))))))))) ∨
 ((Says C 147 [(D.agg [(D.val (vI n5)), (D.val (vI n6))]), (D.agg [(D.val (vI n7)), (D.val (vI n8))])] [(D.val (.bool false))]) ∧
 (∃ n9 : Int,
 (∃ n10 : Int,
 ((Says C 87 [(D.val (vI b)), (D.val (vI c)), (D.val (vI e)), (D.val (vI x))] [(D.agg [(D.val (vI n9)), (D.val (vI n10))])]) ∧
 (((Says C 147 [(D.agg [(D.val (vI n9)), (D.val (vI n10))]), (D.agg [(D.val (vI n3)), (D.val (vI n4))])] [(D.val (.bool true))]) ∧
 (((Says C 147 [(D.agg [(D.val (vI n5)), (D.val (vI n6))]), (D.agg [(D.val (vI n9)), (D.val (vI n10))])] [(D.val (.bool true))]) ∧
 (∃ n11 : Int,
 (∃ n12 : Int,
 ((Says C 87 [(D.val (vI b)), (D.val (vI d)), (D.val (vI e)), (D.val (vI x))] [(D.agg [(D.val (vI n11)), (D.val (vI n12))])]) ∧
 (((Says C 147 [(D.agg [(D.val (vI n11)), (D.val (vI n12))]), (D.agg [(D.val (vI n9)), (D.val (vI n10))])] [(D.val (.bool true))]) ∧
 (((Says C 147 [(D.agg [(D.val (vI n9)), (D.val (vI n10))]), (D.agg [(D.val (vI n11)), (D.val (vI n12))])] [(D.val (.bool true))]) ∧
 (k [(D.agg [(D.val (vI n11)), (D.val (vI n12)), (D.val (vI n11)), (D.val (vI n12))]), (D.val (vI (0 : Int)))])) ∨
 ((Says C 147 [(D.agg [(D.val (vI n9)), (D.val (vI n10))]), (D.agg [(D.val (vI n11)), (D.val (vI n12))])] [(D.val (.bool false))]) ∧
 (k [(D.agg [(D.val (vI n11)), (D.val (vI n12)), (D.val (vI n9)), (D.val (vI n10))]), (D.val (vI (0 : Int)))])))) ∨
 ((Says C 147 [(D.agg [(D.val (vI n11)), (D.val (vI n12))]), (D.agg [(D.val (vI n9)), (D.val (vI n10))])] [(D.val (.bool false))]) ∧
 (((Says C 147 [(D.agg [(D.val (vI n9)), (D.val (vI n10))]), (D.agg [(D.val (vI n11)), (D.val (vI n12))])] [(D.val (.bool true))]) ∧
 (k [(D.agg [(D.val (vI n9)), (D.val (vI n10)), (D.val (vI n11)), (D.val (vI n12))]), (D.val (vI (0 : Int)))])) ∨
 ((Says C 147 [(D.agg [(D.val (vI n9)), (D.val (vI n10))]), (D.agg [(D.val (vI n11)), (D.val (vI n12))])] [(D.val (.bool false))]) ∧
 (k [(D.agg [(D.val (vI n9)), (D.val (vI n10)), (D.val (vI n9)), (D.val (vI n10))]), (D.val (vI (0 : Int)))]))))))))) ∨
 ((Says C 147 [(D.agg [(D.val (vI n5)), (D.val (vI n6))]), (D.agg [(D.val (vI n9)), (D.val (vI n10))])] [(D.val (.bool false))]) ∧
 (∃ n11 : Int,
 (∃ n12 : Int,
 ((Says C 87 [(D.val (vI b)), (D.val (vI d)), (D.val (vI e)), (D.val (vI x))] [(D.agg [(D.val (vI n11)), (D.val (vI n12))])]) ∧
 (((Says C 147 [(D.agg [(D.val (vI n11)), (D.val (vI n12))]), (D.agg [(D.val (vI n9)), (D.val (vI n10))])] [(D.val (.bool true))]) ∧
 (((Says C 147 [(D.agg [(D.val (vI n5)), (D.val (vI n6))]), (D.agg [(D.val (vI n11)), (D.val (vI n12))])] [(D.val (.bool true))]) ∧
 (k [(D.agg [(D.val (vI n11)), (D.val (vI n12)), (D.val (vI n11)), (D.val (vI n12))]), (D.val (vI (0 : Int)))])) ∨
 ((Says C 147 [(D.agg [(D.val (vI n5)), (D.val (vI n6))]), (D.agg [(D.val (vI n11)), (D.val (vI n12))])] [(D.val (.bool false))]) ∧
 (k [(D.agg [(D.val (vI n11)), (D.val (vI n12)), (D.val (vI n5)), (D.val (vI n6))]), (D.val (vI (0 : Int)))])))) ∨
 ((Says C 147 [(D.agg [(D.val (vI n11)), (D.val (vI n12))]), (D.agg [(D.val (vI n9)), (D.val (vI n10))])] [(D.val (.bool false))]) ∧
 (((Says C 147 [(D.agg [(D.val (vI n5)), (D.val (vI n6))]), (D.agg [(D.val (vI n11)), (D.val (vI n12))])] [(D.val (.bool true))]) ∧
 (k [(D.agg [(D.val (vI n9)), (D.val (vI n10)), (D.val (vI n11)), (D.val (vI n12))]), (D.val (vI (0 : Int)))])) ∨
 ((Says C 147 [(D.agg [(D.val (vI n5)), (D.val (vI n6))]), (D.agg [(D.val (vI n11)), (D.val (vI n12))])] [(D.val (.bool false))]) ∧
 (k [(D.agg [(D.val (vI n9)), (D.val (vI n10)), (D.val (vI n5)), (D.val (vI n6))]), (D.val (vI (0 : Int)))]))))))))))) ∨
 ((Says C 147 [(D.agg [(D.val (vI n9)), (D.val (vI n10))]), (D.agg [(D.val (vI n3)), (D.val (vI n4))])] [(D.val (.bool false))]) ∧
 (((Says C 147 [(D.agg [(D.val (vI n5)), (D.val (vI n6))]), (D.agg [(D.val (vI n9)), (D.val (vI n10))])] [(D.val (.bool true))]) ∧
 (∃ n11 : Int,
 (∃ n12 : Int,
 ((Says C 87 [(D.val (vI b)), (D.val (vI d)), (D.val (vI e)), (D.val (vI x))] [(D.agg [(D.val (vI n11)), (D.val (vI n12))])]) ∧
 (((Says C 147 [(D.agg [(D.val (vI n11)), (D.val (vI n12))]), (D.agg [(D.val (vI n3)), (D.val (vI n4))])] [(D.val (.bool true))]) ∧
 (((Says C 147 [(D.agg [(D.val (vI n9)), (D.val (vI n10))]), (D.agg [(D.val (vI n11)), (D.val (vI n12))])] [(D.val (.bool true))]) ∧
 (k [(D.agg [(D.val (vI n11)), (D.val (vI n12)), (D.val (vI n11)), (D.val (vI n12))]), (D.val (vI (0 : Int)))])) ∨
 ((Says C 147 [(D.agg [(D.val (vI n9)), (D.val (vI n10))]), (D.agg [(D.val (vI n11)), (D.val (vI n12))])] [(D.val (.bool false))]) ∧
 (k [(D.agg [(D.val (vI n11)), (D.val (vI n12)), (D.val (vI n9)), (D.val (vI n10))]), (D.val (vI (0 : Int)))])))) ∨
 ((Says C 147 [(D.agg [(D.val (vI n11)), (D.val (vI n12))]), (D.agg [(D.val (vI n3)), (D.val (vI n4))])] [(D.val (.bool false))]) ∧
 (((Says C 147 [(D.agg [(D.val (vI n9)), (D.val (vI n10))]), (D.agg [(D.val (vI n11)), (D.val (vI n12))])] [(D.val (.bool true))]) ∧
 (k [(D.agg [(D.val (vI n3)), (D.val (vI n4)), (D.val (vI n11)), (D.val (vI n12))]), (D.val (vI (0 : Int)))])) ∨
 ((Says C 147 [(D.agg [(D.val (vI n9)), (D.val (vI n10))]), (D.agg [(D.val (vI n11)), (D.val (vI n12))])] [(D.val (.bool false))]) ∧
 (k [(D.agg [(D.val (vI n3)), (D.val (vI n4)), (D.val (vI n9)), (D.val (vI n10))]), (D.val (vI (0 : Int)))]))))))))) ∨
 ((Says C 147 [(D.agg [(D.val (vI n5)), (D.val (vI n6))]), (D.agg [(D.val (vI n9)), (D.val (vI n10))])] [(D.val (.bool false))]) ∧
 (∃ n11 : Int,
 (∃ n12 : Int,
 ((Says C 87 [(D.val (vI b)), (D.val (vI d)), (D.val (vI e)), (D.val (vI x))] [(D.agg [(D.val (vI n11)), (D.val (vI n12))])]) ∧
 (((Says C 147 [(D.agg [(D.val (vI n11)), (D.val (vI n12))]), (D.agg [(D.val (vI n3)), (D.val (vI n4))])] [(D.val (.bool true))]) ∧
 (((Says C 147 [(D.agg [(D.val (vI n5)), (D.val (vI n6))]), (D.agg [(D.val (vI n11)), (D.val (vI n12))])] [(D.val (.bool true))]) ∧
 (k [(D.agg [(D.val (vI n11)), (D.val (vI n12)), (D.val (vI n11)), (D.val (vI n12))]), (D.val (vI (0 : Int)))])) ∨
 ((Says C 147 [(D.agg [(D.val (vI n5)), (D.val (vI n6))]), (D.agg [(D.val (vI n11)), (D.val (vI n12))])] [(D.val (.bool false))]) ∧
 (k [(D.agg [(D.val (vI n11)), (D.val (vI n12)), (D.val (vI n5)), (D.val (vI n6))]), (D.val (vI (0 : Int)))])))) ∨
 ((Says C 147 [(D.agg [(D.val (vI n11)), (D.val (vI n12))]), (D.agg [(D.val (vI n3)), (D.val (vI n4))])] [(D.val (.bool false))]) ∧
 (((Says C 147 [(D.agg [(D.val (vI n5)), (D.val (vI n6))]), (D.agg [(D.val (vI n11)), (D.val (vI n12))])] [(D.val (.bool true))]) ∧
 (k [(D.agg [(D.val (vI n3)), (D.val (vI n4)), (D.val (vI n11)), (D.val (vI n12))]), (D.val (vI (0 : Int)))])) ∨
 ((Says C 147 [(D.agg [(D.val (vI n5)), (D.val (vI n6))]), (D.agg [(D.val (vI n11)), (D.val (vI n12))])] [(D.val (.bool false))]) ∧
 (k [(D.agg [(D.val (vI n3)), (D.val (vI n4)), (D.val (vI n5)), (D.val (vI n6))]), (D.val (vI (0 : Int)))]))))))))))))))))))))))) ∨
 ((Says C 147 [(D.agg [(D.val (vI n3)), (D.val (vI n4))]), (D.agg [(D.val (vI n5)), (D.val (vI n6))])] [(D.val (.bool false))]) ∧
 (∃ n7 : Int,
 (∃ n8 : Int,
 ((Says C 87 [(D.val (vI a)), (D.val (vI d)), (D.val (vI e)), (D.val (vI x))] [(D.agg [(D.val (vI n7)), (D.val (vI n8))])]) ∧
 (((Says C 147 [(D.agg [(D.val (vI n7)), (D.val (vI n8))]), (D.agg [(D.val (vI n3)), (D.val (vI n4))])] [(D.val (.bool true))]) ∧
 (((Says C 147 [(D.agg [(D.val (vI n3)), (D.val (vI n4))]), (D.agg [(D.val (vI n7)), (D.val (vI n8))])] [(D.val (.bool true))]) ∧
 (∃ n9 : Int,
 (∃ n10 : Int,
 ((Says C 87 [(D.val (vI b)), (D.val (vI c)), (D.val (vI e)), (D.val (vI x))] [(D.agg [(D.val (vI n9)), (D.val (vI n10))])]) ∧
 (((Says C 147 [(D.agg [(D.val (vI n9)), (D.val (vI n10))]), (D.agg [(D.val (vI n7)), (D.val (vI n8))])] [(D.val (.bool true))]) ∧
 (((Says C 147 [(D.agg [(D.val (vI n7)), (D.val (vI n8))]), (D.agg [(D.val (vI n9)), (D.val (vI n10))])] [(D.val (.bool true))]) ∧
 (∃ n11 : Int,
 (∃ n12 : Int,
 ((Says C 87 [(D.val (vI b)), (D.val (vI d)), (D.val (vI e)), (D.val (vI x))] [(D.agg [(D.val (vI n11)), (D.val (vI n12))])]) ∧
 (((Says C 147 [(D.agg [(D.val (vI n11)), (D.val (vI n12))]), (D.agg [(D.val (vI n9)), (D.val (vI n10))])] [(D.val (.bool true))]) ∧
 (((Says C 147 [(D.agg [(D.val (vI n9)), (D.val (vI n10))]), (D.agg [(D.val (vI n11)), (D.val (vI n12))])] [(D.val (.bool true))]) ∧
 (k [(D.agg [(D.val (vI n11)), (D.val (vI n12)), (D.val (vI n11)), (D.val (vI n12))]), (D.val (vI (0 : Int)))])) ∨
 ((Says C 147 [(D.agg [(D.val (vI n9)), (D.val (vI n10))]), (D.agg [(D.val (vI n11)), (D.val (vI n12))])] [(D.val (.bool false))]) ∧
 (k [(D.agg [(D.val (vI n11)), (D.val (vI n12)), (D.val (vI n9)), (D.val (vI n10))]), (D.val (vI (0 : Int)))])))) ∨
 ((Says C 147 [(D.agg [(D.val (vI n11)), (D.val (vI n12))]), (D.agg [(D.val (vI n9)), (D.val (vI n10))])] [(D.val (.bool false))]) ∧
 (((Says C 147 [(D.agg [(D.val (vI n9)), (D.val (vI n10))]), (D.agg [(D.val (vI n11)), (D.val (vI n12))])] [(D.val (.bool true))]) ∧
 (k [(D.agg [(D.val (vI n9)), (D.val (vI n10)), (D.val (vI n11)), (D.val (vI n12))]), (D.val (vI (0 : Int)))])) ∨
 ((Says C 147 [(D.agg [(D.val (vI n9)), (D.val (vI n10))]), (D.agg [(D.val (vI n11)), (D.val (vI n12))])] [(D.val (.bool false))]) ∧
 (k [(D.agg [(D.val (vI n9)), (D.val (vI n10)), (D.val (vI n9)), (D.val (vI n10))]), (D.val (vI (0 : Int)))]))))))))) ∨
 ((Says C 147 [(D.agg [(D.val (vI n7)), (D.val (vI n8))]), (D.agg [(D.val (vI n9)), (D.val (vI n10))])] [(D.val (.bool false))]) ∧
 (∃ n11 : Int,
 (∃ n12 : Int,
 ((Says C 87 [(D.val (vI b)), (D.val (vI d)), (D.val (vI e)), (D.val (vI x))] [(D.agg [(D.val (vI n11)), (D.val (vI n12))])]) ∧
 (((Says C 147 [(D.agg [(D.val (vI n11)), (D.val (vI n12))]), (D.agg [(D.val (vI n9)), (D.val (vI n10))])] [(D.val (.bool true))]) ∧
 (((Says C 147 [(D.agg [(D.val (vI n7)), (D.val (vI n8))]), (D.agg [(D.val (vI n11)), (D.val (vI n12))])] [(D.val (.bool true))]) ∧
 (k [(D.agg [(D.val (vI n11)), (D.val (vI n12)), (D.val (vI n11)), (D.val (vI n12))]), (D.val (vI (0 : Int)))])) ∨
 ((Says C 147 [(D.agg [(D.val (vI n7)), (D.val (vI n8))]), (D.agg [(D.val (vI n11)), (D.val (vI n12))])] [(D.val (.bool false))]) ∧
 (k [(D.agg [(D.val (vI n11)), (D.val (vI n12)), (D.val (vI n7)), (D.val (vI n8))]), (D.val (vI (0 : Int)))])))) ∨
 ((Says C 147 [(D.agg [(D.val (vI n11)), (D.val (vI n12))]), (D.agg [(D.val (vI n9)), (D.val (vI n10))])] [(D.val (.bool false))]) ∧
 (((Says C 147 [(D.agg [(D.val (vI n7)), (D.val (vI n8))]), (D.agg [(D.val (vI n11)), (D.val (vI n12))])] [(D.val (.bool true))]) ∧
 (k [(D.agg [(D.val (vI n9)), (D.val (vI n10)), (D.val (vI n11)), (D.val (vI n12))]), (D.val (vI (0 : Int)))])) ∨
 ((Says C 147 [(D.agg [(D.val (vI n7)), (D.val (vI n8))]), (D.agg [(D.val (vI n11)), (D.val (vI n12))])] [(D.val (.bool false))]) ∧
 (k [(D.agg [(D.val (vI n9)), (D.val (vI n10)), (D.val (vI n7)), (D.val (vI n8))]), (D.val (vI (0 : Int)))]))))))))))) ∨
 ((Says C 147 [(D.agg [(D.val (vI n9)), (D.val (vI n10))]), (D.agg [(D.val (vI n7)), (D.val (vI n8))])] [(D.val (.bool false))]) ∧
 (((Says C 147 [(D.agg [(D.val (vI n7)), (D.val (vI n8))]), (D.agg [(D.val (vI n9)), (D.val (vI n10))])] [(D.val (.bool true))]) ∧
 (∃ n11 : Int,
 (∃ n12 : Int,
 ((Says C 87 [(D.val (vI b)), (D.val (vI d)), (D.val (vI e)), (D.val (vI x))] [(D.agg [(D.val (vI n11)), (D.val (vI n12))])]) ∧
 (((Says C 147 [(D.agg [(D.val (vI n11)), (D.val (vI n12))]), (D.agg [(D.val (vI n7)), (D.val (vI n8))])] [(D.val (.bool true))]) ∧
 (((Says C 147 [(D.agg [(D.val (vI n9)), (D.val (vI n10))]), (D.agg [(D.val (vI n11)), (D.val (vI n12))])] [(D.val (.bool true))]) ∧
 (k [(D.agg [(D.val (vI n11)), (D.val (vI n12)), (D.val (vI n11)), (D.val (vI n12))]), (D.val (vI (0 : Int)))])) ∨
 ((Says C 147 [(D.agg [(D.val (vI n9)), (D.val (vI n10))]), (D.agg [(D.val (vI n11)), (D.val (vI n12))])] [(D.val (.bool false))]) ∧
 (k [(D.agg [(D.val (vI n11)), (D.val (vI n12)), (D.val (vI n9)), (D.val (vI n10))]), (D.val (vI (0 : Int)))])))) ∨
 ((Says C 147 [(D.agg [(D.val (vI n11)), (D.val (vI n12))]), (D.agg [(D.val (vI n7)), (D.val (vI n8))])] [(D.val (.bool false))]) ∧
 (((Says C 147 [(D.agg [(D.val (vI n9)), (D.val (vI n10))]), (D.agg [(D.val (vI n11)), (D.val (vI n12))])] [(D.val (.bool true))]) ∧
 (k [(D.agg [(D.val (vI n7)), (D.val (vI n8)), (D.val (vI n11)), (D.val (vI n12))]), (D.val (vI (0 : Int)))])) ∨
 ((Says C 147 [(D.agg [(D.val (vI n9)), (D.val (vI n10))]), (D.agg [(D.val (vI n11)), (D.val (vI n12))])] [(D.val (.bool false))]) ∧
 (k [(D.agg [(D.val (vI n7)), (D.val (vI n8)), (D.val (vI n9)), (D.val (vI n10))]), (D.val (vI (0 : Int)))]))))))))) ∨
 ((Says C 147 [(D.agg [(D.val (vI n7)), (D.val (vI n8))]), (D.agg [(D.val (vI n9)), (D.val (vI n10))])] [(D.val (.bool false))]) ∧
 (∃ n11 : Int,
 (∃ n12 : Int,
 ((Says C 87 [(D.val (vI b)), (D.val (vI d)), (D.val (vI e)), (D.val (vI x))] [(D.agg [(D.val (vI n11)), (D.val (vI n12))])]) ∧
 (((Says C 147 [(D.agg [(D.val (vI n11)), (D.val (vI n12))]), (D.agg [(D.val (vI n7)), (D.val (vI n8))])] [(D.val (.bool true))]) ∧
 (((Says C 147 [(D.agg [(D.val (vI n7)), (D.val (vI n8))]), (D.agg [(D.val (vI n11)), (D.val (vI n12))])] [(D.val (.bool true))]) ∧
 (k [(D.agg [(D.val (vI n11)), (D.val (vI n12)), (D.val (vI n11)), (D.val (vI n12))]), (D.val (vI (0 : Int)))])) ∨
 ((Says C 147 [(D.agg [(D.val (vI n7)), (D.val (vI n8))]), (D.agg [(D.val (vI n11)), (D.val (vI n12))])] [(D.val (.bool false))]) ∧
 (k [(D.agg [(D.val (vI n11)), (D.val (vI n12)), (D.val (vI n7)), (D.val (vI n8))]), (D.val (vI (0 : Int)))])))) ∨
 ((Says C 147 [(D.agg [(D.val (vI n11)), (D.val (vI n12))]), (D.agg [(D.val (vI n7)), (D.val (vI n8))])] [(D.val (.bool false))]) ∧
 (((Says C 147 [(D.agg [(D.val (vI n7)), (D.val (vI n8))]), (D.agg [(D.val (vI n11)), (D.val (vI n12))])] [(D.val (.bool true))]) ∧
 (k [(D.agg [(D.val (vI n7)), (D.val (vI n8)), (D.val (vI n11)), (D.val (vI n12))]), (D.val (vI (0 : Int)))])) ∨
 ((Says C 147 [(D.agg [(D.val (vI n7)), (D.val (vI n8))]), (D.agg [(D.val (vI n11)), (D.val (vI n12))])] [(D.val (.bool false))]) ∧
 (k [(D.agg [(D.val (vI n7)), (D.val (vI n8)), (D.val (vI n7)), (D.val (vI n8))]), (D.val (vI (0 : Int)))])))))))))))))))) ∨
 ((Says C 147 [(D.agg [(D.val (vI n3)), (D.val (vI n4))]), (D.agg [(D.val (vI n7)), (D.val (vI n8))])] [(D.val (.bool false))]) ∧
 (∃ n9 : Int,
 (∃ n10 : Int,
 ((Says C 87 [(D.val (vI b)), (D.val (vI c)), (D.val (vI e)), (D.val (vI x))] [(D.agg [(D.val (vI n9)), (D.val (vI n10))])]) ∧
 (((Says C 147 [(D.agg [(D.val (vI n9)), (D.val (vI n10))]), (D.agg [(D.val (vI n7)), (D.val (vI n8))])] [(D.val (.bool true))]) ∧
 (((Says C 147 [(D.agg [(D.val (vI n3)), (D.val (vI n4))]), (D.agg [(D.val (vI n9)), (D.val (vI n10))])] [(D.val (.bool true))]) ∧
 (∃ n11 : Int,
 (∃ n12 : Int,
 ((Says C 87 [(D.val (vI b)), (D.val (vI d)), (D.val (vI e)), (D.val (vI x))] [(D.agg [(D.val (vI n11)), (D.val (vI n12))])]) ∧
 (((Says C 147 [(D.agg [(D.val (vI n11)), (D.val (vI n12))]), (D.agg [(D.val (vI n9)), (D.val (vI n10))])] [(D.val (.bool true))]) ∧
 (((Says C 147 [(D.agg [(D.val (vI n9)), (D.val (vI n10))]), (D.agg [(D.val (vI n11)), (D.val (vI n12))])] [(D.val (.bool true))]) ∧
 (k [(D.agg [(D.val (vI n11)), (D.val (vI n12)), (D.val (vI n11)), (D.val (vI n12))]), (D.val (vI (0 : Int)))])) ∨
 ((Says C 147 [(D.agg [(D.val (vI n9)), (D.val (vI n10))]), (D.agg [(D.val (vI n11)), (D.val (vI n12))])] [(D.val (.bool false))]) ∧
 (k [(D.agg [(D.val (vI n11)), (D.val (vI n12)), (D.val (vI n9)), (D.val (vI n10))]), (D.val (vI (0 : Int)))])))) ∨
 ((Says C 147 [(D.agg [(D.val (vI n11)), (D.val (vI n12))]), (D.agg [(D.val (vI n9)), (D.val (vI n10))])] [(D.val (.bool false))]) ∧
 (((Says C 147 [(D.agg [(D.val (vI n9)), (D.val (vI n10))]), (D.agg [(D.val (vI n11)), (D.val (vI n12))])] [(D.val (.bool true))]) ∧
 (k [(D.agg [(D.val (vI n9)), (D.val (vI n10)), (D.val (vI n11)), (D.val (vI n12))]), (D.val (vI (0 : Int)))])) ∨
 ((Says C 147 [(D.agg [(D.val (vI n9)), (D.val (vI n10))]), (D.agg [(D.val (vI n11)), (D.val (vI n12))])] [(D.val (.bool false))]) ∧
 (k [(D.agg [(D.val (vI n9)), (D.val (vI n10)), (D.val (vI n9)), (D.val (vI n10))]), (D.val (vI (0 : Int)))]))))))))) ∨
 ((Says C 147 [(D.agg [(D.val (vI n3)), (D.val (vI n4))]), (D.agg [(D.val (vI n9)), (D.val (vI n10))])] [(D.val (.bool false))]) ∧
 (∃ n11 : Int,
 (∃ n12 : Int,
 ((Says C 87 [(D.val (vI b)), (D.val (vI d)), (D.val (vI e)), (D.val (vI x))] [(D.agg [(D.val (vI n11)), (D.val (vI n12))])]) ∧
 (((Says C 147 [(D.agg [(D.val (vI n11)), (D.val (vI n12))]), (D.agg [(D.val (vI n9)), (D.val (vI n10))])] [(D.val (.bool true))]) ∧
 (((Says C 147 [(D.agg [(D.val (vI n3)), (D.val (vI n4))]), (D.agg [(D.val (vI n11)), (D.val (vI n12))])] [(D.val (.bool true))]) ∧
 (k [(D.agg [(D.val (vI n11)), (D.val (vI n12)), (D.val (vI n11)), (D.val (vI n12))]), (D.val (vI (0 : Int)))])) ∨
 ((Says C 147 [(D.agg [(D.val (vI n3)), (D.val (vI n4))]), (D.agg [(D.val (vI n11)), (D.val (vI n12))])] [(D.val (.bool false))]) ∧
 (k [(D.agg [(D.val (vI n11)), (D.val (vI n12)), (D.val (vI n3)), (D.val (vI n4))]), (D.val (vI (0 : Int)))])))) ∨
 ((Says C 147 [(D.agg [(D.val (vI n11)), (D.val (vI n12))]), (D.agg [(D.val (vI n9)), (D.val (vI n10))])] [(D.val (.bool false))]) ∧
 (((Says C 147 [(D.agg [(D.val (vI n3)), (D.val (vI n4))]), (D.agg [(D.val (vI n11)), (D.val (vI n12))])] [(D.val (.bool true))]) ∧
 (k [(D.agg [(D.val (vI n9)), (D.val (vI n10)), (D.val (vI n11)), (D.val (vI n12))]), (D.val (vI (0 : Int)))])) ∨
 ((Says C 147 [(D.agg [(D.val (vI n3)), (D.val (vI n4))]), (D.agg [(D.val (vI n11)), (D.val (vI n12))])] [(D.val (.bool false))]) ∧
 (k [(D.agg [(D.val (vI n9)), (D.val (vI n10)), (D.val (vI n3)), (D.val (vI n4))]), (D.val (vI (0 : Int)))]))))))))))) ∨
 ((Says C 147 [(D.agg [(D.val (vI n9)), (D.val (vI n10))]), (D.agg [(D.val (vI n7)), (D.val (vI n8))])] [(D.val (.bool false))]) ∧
 (((Says C 147 [(D.agg [(D.val (vI n3)), (D.val (vI n4))]), (D.agg [(D.val (vI n9)), (D.val (vI n10))])] [(D.val (.bool true))]) ∧
 (∃ n11 : Int,
 (∃ n12 : Int,
 ((Says C 87 [(D.val (vI b)), (D.val (vI d)), (D.val (vI e)), (D.val (vI x))] [(D.agg [(D.val (vI n11)), (D.val (vI n12))])]) ∧
 (((Says C 147 [(D.agg [(D.val (vI n11)), (D.val (vI n12))]), (D.agg [(D.val (vI n7)), (D.val (vI n8))])] [(D.val (.bool true))]) ∧
 (((Says C 147 [(D.agg [(D.val (vI n9)), (D.val (vI n10))]), (D.agg [(D.val (vI n11)), (D.val (vI n12))])] [(D.val (.bool true))]) ∧
 (k [(D.agg [(D.val (vI n11)), (D.val (vI n12)), (D.val (vI n11)), (D.val (vI n12))]), (D.val (vI (0 : Int)))])) ∨
 ((Says C 147 [(D.agg [(D.val (vI n9)), (D.val (vI n10))]), (D.agg [(D.val (vI n11)), (D.val (vI n12))])] [(D.val (.bool false))]) ∧
 (k [(D.agg [(D.val (vI n11)), (D.val (vI n12)), (D.val (vI n9)), (D.val (vI n10))]), (D.val (vI (0 : Int)))])))) ∨
 ((Says C 147 [(D.agg [(D.val (vI n11)), (D.val (vI n12))]), (D.agg [(D.val (vI n7)), (D.val (vI n8))])] [(D.val (.bool false))]) ∧
 (((Says C 147 [(D.agg [(D.val (vI n9)), (D.val (vI n10))]), (D.agg [(D.val (vI n11)), (D.val (vI n12))])] [(D.val (.bool true))]) ∧
 (k [(D.agg [(D.val (vI n7)), (D.val (vI n8)), (D.val (vI n11)), (D.val (vI n12))]), (D.val (vI (0 : Int)))])) ∨
 ((Says C 147 [(D.agg [(D.val (vI n9)), (D.val (vI n10))]), (D.agg [(D.val (vI n11)), (D.val (vI n12))])] [(D.val (.bool false))]) ∧
 (k [(D.agg [(D.val (vI n7)), (D.val (vI n8)), (D.val (vI n9)), (D.val (vI n10))]), (D.val (vI (0 : Int)))]))))))))) ∨
 ((Says C 147 [(D.agg [(D.val (vI n3)), (D.val (vI n4))]), (D.agg [(D.val (vI n9)), (D.val (vI n10))])] [(D.val (.bool false))]) ∧
 (∃ n11 : Int,
 (∃ n12 : Int,
 ((Says C 87 [(D.val (vI b)), (D.val (vI d)), (D.val (vI e)), (D.val (vI x))] [(D.agg [(D.val (vI n11)), (D.val (vI n12))])]) ∧
 (((Says C 147 [(D.agg [(D.val (vI n11)), (D.val (vI n12))]), (D.agg [(D.val (vI n7)), (D.val (vI n8))])] [(D.val (.bool true))]) ∧
 (((Says C 147 [(D.agg [(D.val (vI n3)), (D.val (vI n4))]), (D.agg [(D.val (vI n11)), (D.val (vI n12))])] [(D.val (.bool true))]) ∧
 (k [(D.agg [(D.val (vI n11)), (D.val (vI n12)), (D.val (vI n11)), (D.val (vI n12))]), (D.val (vI (0 : Int)))])) ∨
 ((Says C 147 [(D.agg [(D.val (vI n3)), (D.val (vI n4))]), (D.agg [(D.val (vI n11)), (D.val (vI n12))])] [(D.val (.bool false))]) ∧
 (k [(D.agg [(D.val (vI n11)), (D.val (vI n12)), (D.val (vI n3)), (D.val (vI n4))]), (D.val (vI (0 : Int)))])))) ∨
 ((Says C 147 [(D.agg [(D.val (vI n11)), (D.val (vI n12))]), (D.agg [(D.val (vI n7)), (D.val (vI n8))])] [(D.val (.bool false))]) ∧
 (((Says C 147 [(D.agg [(D.val (vI n3)), (D.val (vI n4))]), (D.agg [(D.val (vI n11)), (D.val (vI n12))])] [(D.val (.bool true))]) ∧
 (k [(D.agg [(D.val (vI n7)), (D.val (vI n8)), (D.val (vI n11)), (D.val (vI n12))]), (D.val (vI (0 : Int)))])) ∨
 ((Says C 147 [(D.agg [(D.val (vI n3)), (D.val (vI n4))]), (D.agg [(D.val (vI n11)), (D.val (vI n12))])] [(D.val (.bool false))]) ∧
 (k [(D.agg [(D.val (vI n7)), (D.val (vI n8)), (D.val (vI n3)), (D.val (vI n4))]), (D.val (vI (0 : Int)))])))))))))))))))))) ∨
 ((Says C 147 [(D.agg [(D.val (vI n7)), (D.val (vI n8))]), (D.agg [(D.val (vI n3)), (D.val (vI n4))])] [(D.val (.bool false))]) ∧
 (((Says C 147 [(D.agg [(D.val (vI n3)), (D.val (vI n4))]), (D.agg [(D.val (vI n7)), (D.val (vI n8))])] [(D.val (.bool true))]) ∧
 (∃ n9 : Int,
 (∃ n10 : Int,
 ((Says C 87 [(D.val (vI b)), (D.val (vI c)), (D.val (vI e)), (D.val (vI x))] [(D.agg [(D.val (vI n9)), (D.val (vI n10))])]) ∧
 (((Says C 147 [(D.agg [(D.val (vI n9)), (D.val (vI n10))]), (D.agg [(D.val (vI n3)), (D.val (vI n4))])] [(D.val (.bool true))]) ∧
 (((Says C 147 [(D.agg [(D.val (vI n7)), (D.val (vI n8))]), (D.agg [(D.val (vI n9)), (D.val (vI n10))])] [(D.val (.bool true))]) ∧
 (∃ n11 : Int,
 (∃ n12 : Int,
 ((Says C 87 [(D.val (vI b)), (D.val (vI d)), (D.val (vI e)), (D.val (vI x))] [(D.agg [(D.val (vI n11)), (D.val (vI n12))])]) ∧
 (((Says C 147 [(D.agg [(D.val (vI n11)), (D.val (vI n12))]), (D.agg [(D.val (vI n9)), (D.val (vI n10))])] [(D.val (.bool true))]) ∧
 (((Says C 147 [(D.agg [(D.val (vI n9)), (D.val (vI n10))]), (D.agg [(D.val (vI n11)), (D.val (vI n12))])] [(D.val (.bool true))]) ∧
 (k [(D.agg [(D.val (vI n11)), (D.val (vI n12)), (D.val (vI n11)), (D.val (vI n12))]), (D.val (vI (0 : Int)))])) ∨
 ((Says C 147 [(D.agg [(D.val (vI n9)), (D.val (vI n10))]), (D.agg [(D.val (vI n11)), (D.val (vI n12))])] [(D.val (.bool false))]) ∧
 (k [(D.agg [(D.val (vI n11)), (D.val (vI n12)), (D.val (vI n9)), (D.val (vI n10))]), (D.val (vI (0 : Int)))])))) ∨
 ((Says C 147 [(D.agg [(D.val (vI n11)), (D.val (vI n12))]), (D.agg [(D.val (vI n9)), (D.val (vI n10))])] [(D.val (.bool false))]) ∧
 (((Says C 147 [(D.agg [(D.val (vI n9)), (D.val (vI n10))]), (D.agg [(D.val (vI n11)), (D.val (vI n12))])] [(D.val (.bool true))]) ∧
 (k [(D.agg [(D.val (vI n9)), (D.val (vI n10)), (D.val (vI n11)), (D.val (vI n12))]), (D.val (vI (0 : Int)))])) ∨
 ((Says C 147 [(D.agg [(D.val (vI n9)), (D.val (vI n10))]), (D.agg [(D.val (vI n11)), (D.val (vI n12))])] [(D.val (.bool false))]) ∧
 (k [(D.agg [(D.val (vI n9)), (D.val (vI n10)), (D.val (vI n9)), (D.val (vI n10))]), (D.val (vI (0 : Int)))]))))))))) ∨
 ((Says C 147 [(D.agg [(D.val (vI n7)), (D.val (vI n8))]), (D.agg [(D.val (vI n9)), (D.val (vI n10))])] [(D.val (.bool false))]) ∧
 (∃ n11 : Int,
 (∃ n12 : Int,
 ((Says C 87 [(D.val (vI b)), (D.val (vI d)), (D.val (vI e)), (D.val (vI x))] [(D.agg [(D.val (vI n11)), (D.val (vI n12))])]) ∧
 (((Says C 147 [(D.agg [(D.val (vI n11)), (D.val (vI n12))]), (D.agg [(D.val (vI n9)), (D.val (vI n10))])] [(D.val (.bool true))]) ∧
 (((Says C 147 [(D.agg [(D.val (vI n7)), (D.val (vI n8))]), (D.agg [(D.val (vI n11)), (D.val (vI n12))])] [(D.val (.bool true))]) ∧
 (k [(D.agg [(D.val (vI n11)), (D.val (vI n12)), (D.val (vI n11)), (D.val (vI n12))]), (D.val (vI (0 : Int)))])) ∨
 ((Says C 147 [(D.agg [(D.val (vI n7)), (D.val (vI n8))]), (D.agg [(D.val (vI n11)), (D.val (vI n12))])] [(D.val (.bool false))]) ∧
 (k [(D.agg [(D.val (vI n11)), (D.val (vI n12)), (D.val (vI n7)), (D.val (vI n8))]), (D.val (vI (0 : Int)))])))) ∨
 ((Says C 147 [(D.agg [(D.val (vI n11)), (D.val (vI n12))]), (D.agg [(D.val (vI n9)), (D.val (vI n10))])] [(D.val (.bool false))]) ∧
 (((Says C 147 [(D.agg [(D.val (vI n7)), (D.val (vI n8))]), (D.agg [(D.val (vI n11)), (D.val (vI n12))])] [(D.val (.bool true))]) ∧
 (k [(D.agg [(D.val (vI n9)), (D.val (vI n10)), (D.val (vI n11)), (D.val (vI n12))]), (D.val (vI (0 : Int)))])) ∨
 ((Says C 147 [(D.agg [(D.val (vI n7)), (D.val (vI n8))]), (D.agg [(D.val (vI n11)), (D.val (vI n12))])] [(D.val (.bool false))]) ∧
 (k [(D.agg [(D.val (vI n9)), (D.val (vI n10)), (D.val (vI n7)), (D.val (vI n8))]), (D.val (vI (0 : Int)))]))))))))))) ∨
 ((Says C 147 [(D.agg [(D.val (vI n9)), (D.val (vI n10))]), (D.agg [(D.val (vI n3)), (D.val (vI n4))])] [(D.val (.bool false))]) ∧
 (((Says C 147 [(D.agg [(D.val (vI n7)), (D.val (vI n8))]), (D.agg [(D.val (vI n9)), (D.val (vI n10))])] [(D.val (.bool true))]) ∧
 (∃ n11 : Int,
 (∃ n12 : Int,
 ((Says C 87 [(D.val (vI b)), (D.val (vI d)), (D.val (vI e)), (D.val (vI x))] [(D.agg [(D.val (vI n11)), (D.val (vI n12))])]) ∧
 (((Says C 147 [(D.agg [(D.val (vI n11)), (D.val (vI n12))]), (D.agg [(D.val (vI n3)), (D.val (vI n4))])] [(D.val (.bool true))]) ∧
 (((Says C 147 [(D.agg [(D.val (vI n9)), (D.val (vI n10))]), (D.agg [(D.val (vI n11)), (D.val (vI n12))])] [(D.val (.bool true))]) ∧
 (k [(D.agg [(D.val (vI n11)), (D.val (vI n12)), (D.val (vI n11)), (D.val (vI n12))]), (D.val (vI (0 : Int)))])) ∨
 ((Says C 147 [(D.agg [(D.val (vI n9)), (D.val (vI n10))]), (D.agg [(D.val (vI n11)), (D.val (vI n12))])] [(D.val (.bool false))]) ∧
 (k [(D.agg [(D.val (vI n11)), (D.val (vI n12)), (D.val (vI n9)), (D.val (vI n10))]), (D.val (vI (0 : Int)))])))) ∨
 ((Says C 147 [(D.agg [(D.val (vI n11)), (D.val (vI n12))]), (D.agg [(D.val (vI n3)), (D.val (vI n4))])] [(D.val (.bool false))]) ∧
 (((Says C 147 [(D.agg [(D.val (vI n9)), (D.val (vI n10))]), (D.agg [(D.val (vI n11)), (D.val (vI n12))])] [(D.val (.bool true))]) ∧
 (k [(D.agg [(D.val (vI n3)), (D.val (vI n4)), (D.val (vI n11)), (D.val (vI n12))]), (D.val (vI (0 : Int)))])) ∨
 ((Says C 147 [(D.agg [(D.val (vI n9)), (D.val (vI n10))]), (D.agg [(D.val (vI n11)), (D.val (vI n12))])] [(D.val (.bool false))]) ∧
 (k [(D.agg [(D.val (vI n3)), (D.val (vI n4)), (D.val (vI n9)), (D.val (vI n10))]), (D.val (vI (0 : Int)))]))))))))) ∨
 ((Says C 147 [(D.agg [(D.val (vI n7)), (D.val (vI n8))]), (D.agg [(D.val (vI n9)), (D.val (vI n10))])] [(D.val (.bool false))]) ∧
 (∃ n11 : Int,
 (∃ n12 : Int,
 ((Says C 87 [(D.val (vI b)), (D.val (vI d)), (D.val (vI e)), (D.val (vI x))] [(D.agg [(D.val (vI n11)), (D.val (vI n12))])]) ∧
 (((Says C 147 [(D.agg [(D.val (vI n11)), (D.val (vI n12))]), (D.agg [(D.val (vI n3)), (D.val (vI n4))])] [(D.val (.bool true))]) ∧
 (((Says C 147 [(D.agg [(D.val (vI n7)), (D.val (vI n8))]), (D.agg [(D.val (vI n11)), (D.val (vI n12))])] [(D.val (.bool true))]) ∧
 (k [(D.agg [(D.val (vI n11)), (D.val (vI n12)), (D.val (vI n11)), (D.val (vI n12))]), (D.val (vI (0 : Int)))])) ∨
 ((Says C 147 [(D.agg [(D.val (vI n7)), (D.val (vI n8))]), (D.agg [(D.val (vI n11)), (D.val (vI n12))])] [(D.val (.bool false))]) ∧
 (k [(D.agg [(D.val (vI n11)), (D.val (vI n12)), (D.val (vI n7)), (D.val (vI n8))]), (D.val (vI (0 : Int)))])))) ∨
 ((Says C 147 [(D.agg [(D.val (vI n11)), (D.val (vI n12))]), (D.agg [(D.val (vI n3)), (D.val (vI n4))])] [(D.val (.bool false))]) ∧
 (((Says C 147 [(D.agg [(D.val (vI n7)), (D.val (vI n8))]), (D.agg [(D.val (vI n11)), (D.val (vI n12))])] [(D.val (.bool true))]) ∧
 (k [(D.agg [(D.val (vI n3)), (D.val (vI n4)), (D.val (vI n11)), (D.val (vI n12))]), (D.val (vI (0 : Int)))])) ∨
 ((Says C 147 [(D.agg [(D.val (vI n7)), (D.val (vI n8))]), (D.agg [(D.val (vI n11)), (D.val (vI n12))])] [(D.val (.bool false))]) ∧
 (k [(D.agg [(D.val (vI n3)), (D.val (vI n4)), (D.val (vI n7)), (D.val (vI n8))]), (D.val (vI (0 : Int)))])))))))))))))))) ∨
 ((Says C 147 [(D.agg [(D.val (vI n3)), (D.val (vI n4))]), (D.agg [(D.val (vI n7)), (D.val (vI n8))])] [(D.val (.bool false))]) ∧
 (∃ n9 : Int,
 (∃ n10 : Int,
 ((Says C 87 [(D.val (vI b)), (D.val (vI c)), (D.val (vI e)), (D.val (vI x))] [(D.agg [(D.val (vI n9)), (D.val (vI n10))])]) ∧
 (((Says C 147 [(D.agg [(D.val (vI n9)), (D.val (vI n10))]), (D.agg [(D.val (vI n3)), (D.val (vI n4))])] [(D.val (.bool true))]) ∧
 (((Says C 147 [(D.agg [(D.val (vI n3)), (D.val (vI n4))]), (D.agg [(D.val (vI n9)), (D.val (vI n10))])] [(D.val (.bool true))]) ∧
 (∃ n11 : Int,
 (∃ n12 : Int,
 ((Says C 87 [(D.val (vI b)), (D.val (vI d)), (D.val (vI e)), (D.val (vI x))] [(D.agg [(D.val (vI n11)), (D.val (vI n12))])]) ∧
 (((Says C 147 [(D.agg [(D.val (vI n11)), (D.val (vI n12))]), (D.agg [(D.val (vI n9)), (D.val (vI n10))])] [(D.val (.bool true))]) ∧
 (((Says C 147 [(D.agg [(D.val (vI n9)), (D.val (vI n10))]), (D.agg [(D.val (vI n11)), (D.val (vI n12))])] [(D.val (.bool true))]) ∧
 (k [(D.agg [(D.val (vI n11)), (D.val (vI n12)), (D.val (vI n11)), (D.val (vI n12))]), (D.val (vI (0 : Int)))])) ∨
 ((Says C 147 [(D.agg [(D.val (vI n9)), (D.val (vI n10))]), (D.agg [(D.val (vI n11)), (D.val (vI n12))])] [(D.val (.bool false))]) ∧
 (k [(D.agg [(D.val (vI n11)), (D.val (vI n12)), (D.val (vI n9)), (D.val (vI n10))]), (D.val (vI (0 : Int)))])))) ∨
 ((Says C 147 [(D.agg [(D.val (vI n11)), (D.val (vI n12))]), (D.agg [(D.val (vI n9)), (D.val (vI n10))])] [(D.val (.bool false))]) ∧
 (((Says C 147 [(D.agg [(D.val (vI n9)), (D.val (vI n10))]), (D.agg [(D.val (vI n11)), (D.val (vI n12))])] [(D.val (.bool true))]) ∧
 (k [(D.agg [(D.val (vI n9)), (D.val (vI n10)), (D.val (vI n11)), (D.val (vI n12))]), (D.val (vI (0 : Int)))])) ∨
 ((Says C 147 [(D.agg [(D.val (vI n9)), (D.val (vI n10))]), (D.agg [(D.val (vI n11)), (D.val (vI n12))])] [(D.val (.bool false))]) ∧
 (k [(D.agg [(D.val (vI n9)), (D.val (vI n10)), (D.val (vI n9)), (D.val (vI n10))]), (D.val (vI (0 : Int)))]))))))))) ∨
 ((Says C 147 [(D.agg [(D.val (vI n3)), (D.val (vI n4))]), (D.agg [(D.val (vI n9)), (D.val (vI n10))])] [(D.val (.bool false))]) ∧
 (∃ n11 : Int,
 (∃ n12 : Int,
 ((Says C 87 [(D.val (vI b)), (D.val (vI d)), (D.val (vI e)), (D.val (vI x))] [(D.agg [(D.val (vI n11)), (D.val (vI n12))])]) ∧
 (((Says C 147 [(D.agg [(D.val (vI n11)), (D.val (vI n12))]), (D.agg [(D.val (vI n9)), (D.val (vI n10))])] [(D.val (.bool true))]) ∧
 (((Says C 147 [(D.agg [(D.val (vI n3)), (D.val (vI n4))]), (D.agg [(D.val (vI n11)), (D.val (vI n12))])] [(D.val (.bool true))]) ∧
 (k [(D.agg [(D.val (vI n11)), (D.val (vI n12)), (D.val (vI n11)), (D.val (vI n12))]), (D.val (vI (0 : Int)))])) ∨
 ((Says C 147 [(D.agg [(D.val (vI n3)), (D.val (vI n4))]), (D.agg [(D.val (vI n11)), (D.val (vI n12))])] [(D.val (.bool false))]) ∧
 (k [(D.agg [(D.val (vI n11)), (D.val (vI n12)), (D.val (vI n3)), (D.val (vI n4))]), (D.val (vI (0 : Int)))])))) ∨
 ((Says C 147 [(D.agg [(D.val (vI n11)), (D.val (vI n12))]), (D.agg [(D.val (vI n9)), (D.val (vI n10))])] [(D.val (.bool false))]) ∧
 (((Says C 147 [(D.agg [(D.val (vI n3)), (D.val (vI n4))]), (D.agg [(D.val (vI n11)), (D.val (vI n12))])] [(D.val (.bool true))]) ∧
 (k [(D.agg [(D.val (vI n9)), (D.val (vI n10)), (D.val (vI n11)), (D.val (vI n12))]), (D.val (vI (0 : Int)))])) ∨
 ((Says C 147 [(D.agg [(D.val (vI n3)), (D.val (vI n4))]), (D.agg [(D.val (vI n11)), (D.val (vI n12))])] [(D.val (.bool false))]) ∧
 (k [(D.agg [(D.val (vI n9)), (D.val (vI n10)), (D.val (vI n3)), (D.val (vI n4))]), (D.val (vI (0 : Int)))]))))))))))) ∨
 ((Says C 147 [(D.agg [(D.val (vI n9)), (D.val (vI n10))]), (D.agg [(D.val (vI n3)), (D.val (vI n4))])] [(D.val (.bool false))]) ∧
 (((Says C 147 [(D.agg [(D.val (vI n3)), (D.val (vI n4))]), (D.agg [(D.val (vI n9)), (D.val (vI n10))])] [(D.val (.bool true))]) ∧
 (∃ n11 : Int,
 (∃ n12 : Int,
 ((Says C 87 [(D.val (vI b)), (D.val (vI d)), (D.val (vI e)), (D.val (vI x))] [(D.agg [(D.val (vI n11)), (D.val (vI n12))])]) ∧
 (((Says C 147 [(D.agg [(D.val (vI n11)), (D.val (vI n12))]), (D.agg [(D.val (vI n3)), (D.val (vI n4))])] [(D.val (.bool true))]) ∧
 (((Says C 147 [(D.agg [(D.val (vI n9)), (D.val (vI n10))]), (D.agg [(D.val (vI n11)), (D.val (vI n12))])] [(D.val (.bool true))]) ∧
 (k [(D.agg [(D.val (vI n11)), (D.val (vI n12)), (D.val (vI n11)), (D.val (vI n12))]), (D.val (vI (0 : Int)))])) ∨
 ((Says C 147 [(D.agg [(D.val (vI n9)), (D.val (vI n10))]), (D.agg [(D.val (vI n11)), (D.val (vI n12))])] [(D.val (.bool false))]) ∧
 (k [(D.agg [(D.val (vI n11)), (D.val (vI n12)), (D.val (vI n9)), (D.val (vI n10))]), (D.val (vI (0 : Int)))])))) ∨
 ((Says C 147 [(D.agg [(D.val (vI n11)), (D.val (vI n12))]), (D.agg [(D.val (vI n3)), (D.val (vI n4))])] [(D.val (.bool false))]) ∧
 (((Says C 147 [(D.agg [(D.val (vI n9)), (D.val (vI n10))]), (D.agg [(D.val (vI n11)), (D.val (vI n12))])] [(D.val (.bool true))]) ∧
 (k [(D.agg [(D.val (vI n3)), (D.val (vI n4)), (D.val (vI n11)), (D.val (vI n12))]), (D.val (vI (0 : Int)))])) ∨
 ((Says C 147 [(D.agg [(D.val (vI n9)), (D.val (vI n10))]), (D.agg [(D.val (vI n11)), (D.val (vI n12))])] [(D.val (.bool false))]) ∧
 (k [(D.agg [(D.val (vI n3)), (D.val (vI n4)), (D.val (vI n9)), (D.val (vI n10))]), (D.val (vI (0 : Int)))]))))))))) ∨
 ((Says C 147 [(D.agg [(D.val (vI n3)), (D.val (vI n4))]), (D.agg [(D.val (vI n9)), (D.val (vI n10))])] [(D.val (.bool false))]) ∧
 (∃ n11 : Int,
 (∃ n12 : Int,
 ((Says C 87 [(D.val (vI b)), (D.val (vI d)), (D.val (vI e)), (D.val (vI x))] [(D.agg [(D.val (vI n11)), (D.val (vI n12))])]) ∧
 (((Says C 147 [(D.agg [(D.val (vI n11)), (D.val (vI n12))]), (D.agg [(D.val (vI n3)), (D.val (vI n4))])] [(D.val (.bool true))]) ∧
 (((Says C 147 [(D.agg [(D.val (vI n3)), (D.val (vI n4))]), (D.agg [(D.val (vI n11)), (D.val (vI n12))])] [(D.val (.bool true))]) ∧
 (k [(D.agg [(D.val (vI n11)), (D.val (vI n12)), (D.val (vI n11)), (D.val (vI n12))]), (D.val (vI (0 : Int)))])) ∨
 ((Says C 147 [(D.agg [(D.val (vI n3)), (D.val (vI n4))]), (D.agg [(D.val (vI n11)), (D.val (vI n12))])] [(D.val (.bool false))]) ∧
 (k [(D.agg [(D.val (vI n11)), (D.val (vI n12)), (D.val (vI n3)), (D.val (vI n4))]), (D.val (vI (0 : Int)))])))) ∨
 ((Says C 147 [(D.agg [(D.val (vI n11)), (D.val (vI n12))]), (D.agg [(D.val (vI n3)), (D.val (vI n4))])] [(D.val (.bool false))]) ∧
 (((Says C 147 [(D.agg [(D.val (vI n3)), (D.val (vI n4))]), (D.agg [(D.val (vI n11)), (D.val (vI n12))])] [(D.val (.bool true))]) ∧
 (k [(D.agg [(D.val (vI n3)), (D.val (vI n4)), (D.val (vI n11)), (D.val (vI n12))]), (D.val (vI (0 : Int)))])) ∨
 ((Says C 147 [(D.agg [(D.val (vI n3)), (D.val (vI n4))]), (D.agg [(D.val (vI n11)), (D.val (vI n12))])] [(D.val (.bool false))]) ∧
 (k [(D.agg [(D.val (vI n3)), (D.val (vI n4)), (D.val (vI n3)), (D.val (vI n4))]), (D.val (vI (0 : Int)))]))))))))))))))))))))))))))))))))))))))))))))) := by kernel_rfl
def gRS (C : Ct) (L : AtLoop) (a b c d g e : Int) (k : List D → Prop) : Prop := wpFn Tryz.prog (hS C) L 0 21 #[vA a b c d, vB g e] (heapOf []) (dataK k)
theorem gRS_text (C : Ct) (L : AtLoop) (a : Int) (b : Int) (c : Int) (d : Int) (g : Int) (e : Int) (k : List D → Prop) : gRS C L a b c d g e k =
 ((((Go.Value.agg [(vI g), (vI e)].toArray) = (Go.Value.agg [(vI g), (vI e)].toArray)) ∧
 (((vI d) = (vI d)) ∧
 (((Go.Value.pointer (Option.some (Go.Addr.mk 1000 3 Option.none))) = (Go.Value.pointer (Option.some (Go.Addr.mk 1000 3 Option.none)))) ∧
 (((Go.Value.pointer (Option.some (Go.Addr.mk 1000 2 Option.none))) = (Go.Value.pointer (Option.some (Go.Addr.mk 1000 2 Option.none)))) ∧
 (((vI b) = (vI b)) ∧
 (((Go.Value.pointer (Option.some (Go.Addr.mk 1000 1 Option.none))) = (Go.Value.pointer (Option.some (Go.Addr.mk 1000 1 Option.none)))) ∧
 (((Go.Value.pointer (Option.some (Go.Addr.mk 1000 0 Option.none))) = (Go.Value.pointer (Option.some (Go.Addr.mk 1000 0 Option.none)))) ∧
 (((Go.Value.agg [(vI g), (vI e)].toArray) = (Go.Value.agg [(vI g), (vI e)].toArray)) ∧
 (((vI c) = (vI c)) ∧
 (((Go.Value.pointer (Option.some (Go.Addr.mk 1000 2 Option.none))) = (Go.Value.pointer (Option.some (Go.Addr.mk 1000 2 Option.none)))) ∧
 (((Go.Value.pointer (Option.some (Go.Addr.mk 1000 2 Option.none))) = (Go.Value.pointer (Option.some (Go.Addr.mk 1000 2 Option.none)))) ∧
 (((vI b) = (vI b)) ∧
 (((Go.Value.pointer (Option.some (Go.Addr.mk 1000 1 Option.none))) = (Go.Value.pointer (Option.some (Go.Addr.mk 1000 1 Option.none)))) ∧
 (((Go.Value.pointer (Option.some (Go.Addr.mk 1000 0 Option.none))) = (Go.Value.pointer (Option.some (Go.Addr.mk 1000 0 Option.none)))) ∧
 (((Go.Value.agg [(vI g), (vI e)].toArray) = (Go.Value.agg [(vI g), (vI e)].toArray)) ∧
 (((vI d) = (vI d)) ∧
 (((Go.Value.pointer (Option.some (Go.Addr.mk 1000 3 Option.none))) = (Go.Value.pointer (Option.some (Go.Addr.mk 1000 3 Option.none)))) ∧
 (((Go.Value.pointer (Option.some (Go.Addr.mk 1000 2 Option.none))) = (Go.Value.pointer (Option.some (Go.Addr.mk 1000 2 Option.none)))) ∧
 (((vI a) = (vI a)) ∧
 (((Go.Value.pointer (Option.some (Go.Addr.mk 1000 0 Option.none))) = (Go.Value.pointer (Option.some (Go.Addr.mk 1000 0 Option.none)))) ∧
 (((Go.Value.pointer (Option.some (Go.Addr.mk 1000 0 Option.none))) = (Go.Value.pointer (Option.some (Go.Addr.mk 1000 0 Option.none)))) ∧
 (((Go.Value.agg [(vI g), (vI e)].toArray) = (Go.Value.agg [(vI g), (vI e)].toArray)) ∧
 (((vI c) = (vI c)) ∧
 (((Go.Value.pointer (Option.some (Go.Addr.mk 1000 2 Option.none))) = (Go.Value.pointer (Option.some (Go.Addr.mk 1000 2 Option.none)))) ∧
 (((Go.Value.pointer (Option.some (Go.Addr.mk 1000 2 Option.none))) = (Go.Value.pointer (Option.some (Go.Addr.mk 1000 2 Option.none)))) ∧
 (((vI a) = (vI a)) ∧
 (((Go.Value.pointer (Option.some (Go.Addr.mk 1000 0 Option.none))) = (Go.Value.pointer (Option.some (Go.Addr.mk 1000 0 Option.none)))) ∧
 (((Go.Value.pointer (Option.some (Go.Addr.mk 1000 0 Option.none))) = (Go.Value.pointer (Option.some (Go.Addr.mk 1000 0 Option.none)))) ∧
 True)))))))))))))))))))))))))))) ∧
 (∃ n1 : Int,
 (∃ n2 : Int,
 ((Says C 18 [(D.val (vI a)), (D.val (vI c)), (D.agg [(D.val (vI g)), (D.val (vI e))])] [(D.agg [(D.val (vI n1)), (D.val (vI n2))])]) ∧
 ((((Go.Value.agg [(vI g), (vI e)].toArray) = (Go.Value.agg [(vI g), (vI e)].toArray)) ∧
 (((vI d) = (vI d)) ∧
 (((Go.Value.pointer (Option.some (Go.Addr.mk 1000 3 Option.none))) = (Go.Value.pointer (Option.some (Go.Addr.mk 1000 3 Option.none)))) ∧
 (((Go.Value.pointer (Option.some (Go.Addr.mk 1000 2 Option.none))) = (Go.Value.pointer (Option.some (Go.Addr.mk 1000 2 Option.none)))) ∧
 (((vI b) = (vI b)) ∧
 (((Go.Value.pointer (Option.some (Go.Addr.mk 1000 1 Option.none))) = (Go.Value.pointer (Option.some (Go.Addr.mk 1000 1 Option.none)))) ∧
 (((Go.Value.pointer (Option.some (Go.Addr.mk 1000 0 Option.none))) = (Go.Value.pointer (Option.some (Go.Addr.mk 1000 0 Option.none)))) ∧
 (((Go.Value.agg [(vI g), (vI e)].toArray) = (Go.Value.agg [(vI g), (vI e)].toArray)) ∧
 (((vI c) = (vI c)) ∧
 (((Go.Value.pointer (Option.some (Go.Addr.mk 1000 2 Option.none))) = (Go.Value.pointer (Option.some (Go.Addr.mk 1000 2 Option.none)))) ∧
 (((Go.Value.pointer (Option.some (Go.Addr.mk 1000 2 Option.none))) = (Go.Value.pointer (Option.some (Go.Addr.mk 1000 2 Option.none)))) ∧
 (((vI b) = (vI b)) ∧
 (((Go.Value.pointer (Option.some (Go.Addr.mk 1000 1 Option.none))) = (Go.Value.pointer (Option.some (Go.Addr.mk 1000 1 Option.none)))) ∧
 (((Go.Value.pointer (Option.some (Go.Addr.mk 1000 0 Option.none))) = (Go.Value.pointer (Option.some (Go.Addr.mk 1000 0 Option.none)))) ∧
 (((Go.Value.agg [(vI g), (vI e)].toArray) = (Go.Value.agg [(vI g), (vI e)].toArray)) ∧
 (((vI d) = (vI d)) ∧
 (((Go.Value.pointer (Option.some (Go.Addr.mk 1000 3 Option.none))) = (Go.Value.pointer (Option.some (Go.Addr.mk 1000 3 Option.none)))) ∧
 (((Go.Value.pointer (Option.some (Go.Addr.mk 1000 2 Option.none))) = (Go.Value.pointer (Option.some (Go.Addr.mk 1000 2 Option.none)))) ∧
 (((vI a) = (vI a)) ∧
 (((Go.Value.pointer (Option.some (Go.Addr.mk 1000 0 Option.none))) = (Go.Value.pointer (Option.some (Go.Addr.mk 1000 0 Option.none)))) ∧
 (((Go.Value.pointer (Option.some (Go.Addr.mk 1000 0 Option.none))) = (Go.Value.pointer (Option.some (Go.Addr.mk 1000 0 Option.none)))) ∧
 (((Go.Value.pointer (Option.some (Go.Addr.mk 1000 2 Option.none))) = (Go.Value.pointer (Option.some (Go.Addr.mk 1000 2 Option.none)))) ∧
 (((Go.Value.pointer (Option.some (Go.Addr.mk 1000 2 Option.none))) = (Go.Value.pointer (Option.some (Go.Addr.mk 1000 2 Option.none)))) ∧
 (((Go.Value.pointer (Option.some (Go.Addr.mk 1000 0 Option.none))) = (Go.Value.pointer (Option.some (Go.Addr.mk 1000 0 Option.none)))) ∧
 (((Go.Value.pointer (Option.some (Go.Addr.mk 1000 0 Option.none))) = (Go.Value.pointer (Option.some (Go.Addr.mk 1000 0 Option.none)))) ∧
 True))))))))))))))))))))))))) ∧
 (∃ n3 : Int,
 (∃ n4 : Int,
 ((Says C 18 [(D.val (vI a)), (D.val (vI d)), (D.agg [(D.val (vI g)), (D.val (vI e))])] [(D.agg [(D.val (vI n3)), (D.val (vI n4))])]) ∧
 ((((Go.Value.agg [(vI g), (vI e)].toArray) = (Go.Value.agg [(vI g), (vI e)].toArray)) ∧
 (((vI d) = (vI d)) ∧
 (((Go.Value.pointer (Option.some (Go.Addr.mk 1000 3 Option.none))) = (Go.Value.pointer (Option.some (Go.Addr.mk 1000 3 Option.none)))) ∧
 (((Go.Value.pointer (Option.some (Go.Addr.mk 1000 2 Option.none))) = (Go.Value.pointer (Option.some (Go.Addr.mk 1000 2 Option.none)))) ∧
 (((vI b) = (vI b)) ∧
 (((Go.Value.pointer (Option.some (Go.Addr.mk 1000 1 Option.none))) = (Go.Value.pointer (Option.some (Go.Addr.mk 1000 1 Option.none)))) ∧
 (((Go.Value.pointer (Option.some (Go.Addr.mk 1000 0 Option.none))) = (Go.Value.pointer (Option.some (Go.Addr.mk 1000 0 Option.none)))) ∧
 (((Go.Value.agg [(vI g), (vI e)].toArray) = (Go.Value.agg [(vI g), (vI e)].toArray)) ∧
 (((vI c) = (vI c)) ∧
 (((Go.Value.pointer (Option.some (Go.Addr.mk 1000 2 Option.none))) = (Go.Value.pointer (Option.some (Go.Addr.mk 1000 2 Option.none)))) ∧
 (((Go.Value.pointer (Option.some (Go.Addr.mk 1000 2 Option.none))) = (Go.Value.pointer (Option.some (Go.Addr.mk 1000 2 Option.none)))) ∧
 (((vI b) = (vI b)) ∧
 (((Go.Value.pointer (Option.some (Go.Addr.mk 1000 1 Option.none))) = (Go.Value.pointer (Option.some (Go.Addr.mk 1000 1 Option.none)))) ∧
 (((Go.Value.pointer (Option.some (Go.Addr.mk 1000 0 Option.none))) = (Go.Value.pointer (Option.some (Go.Addr.mk 1000 0 Option.none)))) ∧
 (((Go.Value.pointer (Option.some (Go.Addr.mk 1000 3 Option.none))) = (Go.Value.pointer (Option.some (Go.Addr.mk 1000 3 Option.none)))) ∧
 (((Go.Value.pointer (Option.some (Go.Addr.mk 1000 2 Option.none))) = (Go.Value.pointer (Option.some (Go.Addr.mk 1000 2 Option.none)))) ∧
 (((Go.Value.pointer (Option.some (Go.Addr.mk 1000 0 Option.none))) = (Go.Value.pointer (Option.some (Go.Addr.mk 1000 0 Option.none)))) ∧
 (((Go.Value.pointer (Option.some (Go.Addr.mk 1000 0 Option.none))) = (Go.Value.pointer (Option.some (Go.Addr.mk 1000 0 Option.none)))) ∧
 (((Go.Value.pointer (Option.some (Go.Addr.mk 1000 2 Option.none))) = (Go.Value.pointer (Option.some (Go.Addr.mk 1000 2 Option.none)))) ∧
 (((Go.Value.pointer (Option.some (Go.Addr.mk 1000 2 Option.none))) = (Go.Value.pointer (Option.some (Go.Addr.mk 1000 2 Option.none)))) ∧
 (((Go.Value.pointer (Option.some (Go.Addr.mk 1000 0 Option.none))) = (Go.Value.pointer (Option.some (Go.Addr.mk 1000 0 Option.none)))) ∧
 (((Go.Value.pointer (Option.some (Go.Addr.mk 1000 0 Option.none))) = (Go.Value.pointer (Option.some (Go.Addr.mk 1000 0 Option.none)))) ∧
 True)))))))))))))))))))))) ∧
 (∃ n5 : Int,
 (∃ n6 : Int,
 ((Says C 18 [(D.val (vI b)), (D.val (vI c)), (D.agg [(D.val (vI g)), (D.val (vI e))])] [(D.agg [(D.val (vI n5)), (D.val (vI n6))])]) ∧
 ((((Go.Value.agg [(vI g), (vI e)].toArray) = (Go.Value.agg [(vI g), (vI e)].toArray)) ∧
 (((vI d) = (vI d)) ∧
 (((Go.Value.pointer (Option.some (Go.Addr.mk 1000 3 Option.none))) = (Go.Value.pointer (Option.some (Go.Addr.mk 1000 3 Option.none)))) ∧
 (((Go.Value.pointer (Option.some (Go.Addr.mk 1000 2 Option.none))) = (Go.Value.pointer (Option.some (Go.Addr.mk 1000 2 Option.none)))) ∧
 (((vI b) = (vI b)) ∧
 (((Go.Value.pointer (Option.some (Go.Addr.mk 1000 1 Option.none))) = (Go.Value.pointer (Option.some (Go.Addr.mk 1000 1 Option.none)))) ∧
 (((Go.Value.pointer (Option.some (Go.Addr.mk 1000 0 Option.none))) = (Go.Value.pointer (Option.some (Go.Addr.mk 1000 0 Option.none)))) ∧
 (((Go.Value.pointer (Option.some (Go.Addr.mk 1000 2 Option.none))) = (Go.Value.pointer (Option.some (Go.Addr.mk 1000 2 Option.none)))) ∧
 (((Go.Value.pointer (Option.some (Go.Addr.mk 1000 2 Option.none))) = (Go.Value.pointer (Option.some (Go.Addr.mk 1000 2 Option.none)))) ∧
 (((Go.Value.pointer (Option.some (Go.Addr.mk 1000 1 Option.none))) = (Go.Value.pointer (Option.some (Go.Addr.mk 1000 1 Option.none)))) ∧
 (((Go.Value.pointer (Option.some (Go.Addr.mk 1000 0 Option.none))) = (Go.Value.pointer (Option.some (Go.Addr.mk 1000 0 Option.none)))) ∧
 (((Go.Value.pointer (Option.some (Go.Addr.mk 1000 3 Option.none))) = (Go.Value.pointer (Option.some (Go.Addr.mk 1000 3 Option.none)))) ∧
 (((Go.Value.pointer (Option.some (Go.Addr.mk 1000 2 Option.none))) = (Go.Value.pointer (Option.some (Go.Addr.mk 1000 2 Option.none)))) ∧
 (((Go.Value.pointer (Option.some (Go.Addr.mk 1000 0 Option.none))) = (Go.Value.pointer (Option.some (Go.Addr.mk 1000 0 Option.none)))) ∧
 (((Go.Value.pointer (Option.some (Go.Addr.mk 1000 0 Option.none))) = (Go.Value.pointer (Option.some (Go.Addr.mk 1000 0 Option.none)))) ∧
 (((Go.Value.pointer (Option.some (Go.Addr.mk 1000 2 Option.none))) = (Go.Value.pointer (Option.some (Go.Addr.mk 1000 2 Option.none)))) ∧
 (((Go.Value.pointer (Option.some (Go.Addr.mk 1000 2 Option.none))) = (Go.Value.pointer (Option.some (Go.Addr.mk 1000 2 Option.none)))) ∧
 (((Go.Value.pointer (Option.some (Go.Addr.mk 1000 0 Option.none))) = (Go.Value.pointer (Option.some (Go.Addr.mk 1000 0 Option.none)))) ∧
 (((Go.Value.pointer (Option.some (Go.Addr.mk 1000 0 Option.none))) = (Go.Value.pointer (Option.some (Go.Addr.mk 1000 0 Option.none)))) ∧
 True))))))))))))))))))) ∧
 (∃ n7 : Int,
 (∃ n8 : Int,
 ((Says C 18 [(D.val (vI b)), (D.val (vI d)), (D.agg [(D.val (vI g)), (D.val (vI e))])] [(D.agg [(D.val (vI n7)), (D.val (vI n8))])]) ∧
 (((((Go.Value.slice (Option.some (Go.Addr.mk 1003 0 Option.none)) 4 4) = (Go.Value.slice (Option.some (Go.Addr.mk 1003 0 Option.none)) 4 4)) ∧
 ((Option.some (AObj.cells [(vI n1), (vI n2), (vI n3), (vI n4), (vI n5), (vI n6), (vI n7), (vI n8)] 32 false 2)) = (Option.some (AObj.cells [(vI n1), (vI n2), (vI n3), (vI n4), (vI n5), (vI n6), (vI n7), (vI n8)] 32 false 2)))) ∧
 (((Go.Value.pointer (Option.some (Go.Addr.mk 1000 3 Option.none))) = (Go.Value.pointer (Option.some (Go.Addr.mk 1000 3 Option.none)))) ∧
 (((Go.Value.pointer (Option.some (Go.Addr.mk 1000 2 Option.none))) = (Go.Value.pointer (Option.some (Go.Addr.mk 1000 2 Option.none)))) ∧
 (((Go.Value.pointer (Option.some (Go.Addr.mk 1000 1 Option.none))) = (Go.Value.pointer (Option.some (Go.Addr.mk 1000 1 Option.none)))) ∧
 (((Go.Value.pointer (Option.some (Go.Addr.mk 1000 0 Option.none))) = (Go.Value.pointer (Option.some (Go.Addr.mk 1000 0 Option.none)))) ∧
 (((Go.Value.pointer (Option.some (Go.Addr.mk 1000 2 Option.none))) = (Go.Value.pointer (Option.some (Go.Addr.mk 1000 2 Option.none)))) ∧
 (((Go.Value.pointer (Option.some (Go.Addr.mk 1000 2 Option.none))) = (Go.Value.pointer (Option.some (Go.Addr.mk 1000 2 Option.none)))) ∧
 (((Go.Value.pointer (Option.some (Go.Addr.mk 1000 1 Option.none))) = (Go.Value.pointer (Option.some (Go.Addr.mk 1000 1 Option.none)))) ∧
 (((Go.Value.pointer (Option.some (Go.Addr.mk 1000 0 Option.none))) = (Go.Value.pointer (Option.some (Go.Addr.mk 1000 0 Option.none)))) ∧
 (((Go.Value.pointer (Option.some (Go.Addr.mk 1000 3 Option.none))) = (Go.Value.pointer (Option.some (Go.Addr.mk 1000 3 Option.none)))) ∧
 (((Go.Value.pointer (Option.some (Go.Addr.mk 1000 2 Option.none))) = (Go.Value.pointer (Option.some (Go.Addr.mk 1000 2 Option.none)))) ∧
 (((Go.Value.pointer (Option.some (Go.Addr.mk 1000 0 Option.none))) = (Go.Value.pointer (Option.some (Go.Addr.mk 1000 0 Option.none)))) ∧
 (((Go.Value.pointer (Option.some (Go.Addr.mk 1000 0 Option.none))) = (Go.Value.pointer (Option.some (Go.Addr.mk 1000 0 Option.none)))) ∧
 (((Go.Value.pointer (Option.some (Go.Addr.mk 1000 2 Option.none))) = (Go.Value.pointer (Option.some (Go.Addr.mk 1000 2 Option.none)))) ∧
 (((Go.Value.pointer (Option.some (Go.Addr.mk 1000 2 Option.none))) = (Go.Value.pointer (Option.some (Go.Addr.mk 1000 2 Option.none)))) ∧
 (((Go.Value.pointer (Option.some (Go.Addr.mk 1000 0 Option.none))) = (Go.Value.pointer (Option.some (Go.Addr.mk 1000 0 Option.none)))) ∧
 (((Go.Value.pointer (Option.some (Go.Addr.mk 1000 0 Option.none))) = (Go.Value.pointer (Option.some (Go.Addr.mk 1000 0 Option.none)))) ∧
 True))))))))))))))))) ∧
 (∃ n9 : Int,
 (∃ n10 : Int,
 (∃ n11 : Int,
 (∃ n12 : Int,
 ((Says C 89 [(D.sl 4 2 [(vI n1), (vI n2), (vI n3), (vI n4), (vI n5), (vI n6), (vI n7), (vI n8)])] [(D.agg [(D.val (vI n9)), (D.val (vI n10)), (D.val (vI n11)), (D.val (vI n12))])]) ∧
 ((((Go.Value.pointer (Option.some (Go.Addr.mk 1000 3 Option.none))) = (Go.Value.pointer (Option.some (Go.Addr.mk 1000 3 Option.none)))) ∧
 (((Go.Value.pointer (Option.some (Go.Addr.mk 1000 2 Option.none))) = (Go.Value.pointer (Option.some (Go.Addr.mk 1000 2 Option.none)))) ∧
 (((Go.Value.pointer (Option.some (Go.Addr.mk 1000 1 Option.none))) = (Go.Value.pointer (Option.some (Go.Addr.mk 1000 1 Option.none)))) ∧
 (((Go.Value.pointer (Option.some (Go.Addr.mk 1000 0 Option.none))) = (Go.Value.pointer (Option.some (Go.Addr.mk 1000 0 Option.none)))) ∧
 (((Go.Value.pointer (Option.some (Go.Addr.mk 1000 2 Option.none))) = (Go.Value.pointer (Option.some (Go.Addr.mk 1000 2 Option.none)))) ∧
 (((Go.Value.pointer (Option.some (Go.Addr.mk 1000 2 Option.none))) = (Go.Value.pointer (Option.some (Go.Addr.mk 1000 2 Option.none)))) ∧
 (((Go.Value.pointer (Option.some (Go.Addr.mk 1000 1 Option.none))) = (Go.Value.pointer (Option.some (Go.Addr.mk 1000 1 Option.none)))) ∧
 (((Go.Value.pointer (Option.some (Go.Addr.mk 1000 0 Option.none))) = (Go.Value.pointer (Option.some (Go.Addr.mk 1000 0 Option.none)))) ∧
 (((Go.Value.pointer (Option.some (Go.Addr.mk 1000 3 Option.none))) = (Go.Value.pointer (Option.some (Go.Addr.mk 1000 3 Option.none)))) ∧
 (((Go.Value.pointer (Option.some (Go.Addr.mk 1000 2 Option.none))) = (Go.Value.pointer (Option.some (Go.Addr.mk 1000 2 Option.none)))) ∧
 (((Go.Value.pointer (Option.some (Go.Addr.mk 1000 0 Option.none))) = (Go.Value.pointer (Option.some (Go.Addr.mk 1000 0 Option.none)))) ∧
 (((Go.Value.pointer (Option.some (Go.Addr.mk 1000 0 Option.none))) = (Go.Value.pointer (Option.some (Go.Addr.mk 1000 0 Option.none)))) ∧
 (((Go.Value.pointer (Option.some (Go.Addr.mk 1000 2 Option.none))) = (Go.Value.pointer (Option.some (Go.Addr.mk 1000 2 Option.none)))) ∧
 (((Go.Value.pointer (Option.some (Go.Addr.mk 1000 2 Option.none))) = (Go.Value.pointer (Option.some (Go.Addr.mk 1000 2 Option.none)))) ∧
 (((Go.Value.pointer (Option.some (Go.Addr.mk 1000 0 Option.none))) = (Go.Value.pointer (Option.some (Go.Addr.mk 1000 0 Option.none)))) ∧
 (((Go.Value.pointer (Option.some (Go.Addr.mk 1000 0 Option.none))) = (Go.Value.pointer (Option.some (Go.Addr.mk 1000 0 Option.none)))) ∧
 True)))))))))))))))) ∧
 (True ∧
 (k [(D.agg [(D.val (vI n9)), (D.val (vI n10)), (D.val (vI n11)), (D.val (vI n12))])]))))))))))))))))))))))))) := by kernel_rfl
def gRT (C : Ct) (L : AtLoop) (a b c d e x : Int) (k : List D → Prop) : Prop := wpFn Tryz.prog (hS C) L 0 23 #[vA a b c d, vI e, vI x] (heapOf []) (dataK k)
theorem gRT_text (C : Ct) (L : AtLoop) (a : Int) (b : Int) (c : Int) (d : Int) (e : Int) (x : Int) (k : List D → Prop) : gRT C L a b c d e x k =
 ((((vI x) = (vI x)) ∧
 (((vI e) = (vI e)) ∧
 (((vI d) = (vI d)) ∧
 (((Go.Value.pointer (Option.some (Go.Addr.mk 1000 3 Option.none))) = (Go.Value.pointer (Option.some (Go.Addr.mk 1000 3 Option.none)))) ∧
 (((Go.Value.pointer (Option.some (Go.Addr.mk 1000 2 Option.none))) = (Go.Value.pointer (Option.some (Go.Addr.mk 1000 2 Option.none)))) ∧
 (((vI b) = (vI b)) ∧
 (((Go.Value.pointer (Option.some (Go.Addr.mk 1000 1 Option.none))) = (Go.Value.pointer (Option.some (Go.Addr.mk 1000 1 Option.none)))) ∧
 (((Go.Value.pointer (Option.some (Go.Addr.mk 1000 0 Option.none))) = (Go.Value.pointer (Option.some (Go.Addr.mk 1000 0 Option.none)))) ∧
 (((vI x) = (vI x)) ∧
 (((vI e) = (vI e)) ∧
 (((vI c) = (vI c)) ∧
 (((Go.Value.pointer (Option.some (Go.Addr.mk 1000 2 Option.none))) = (Go.Value.pointer (Option.some (Go.Addr.mk 1000 2 Option.none)))) ∧
 (((Go.Value.pointer (Option.some (Go.Addr.mk 1000 2 Option.none))) = (Go.Value.pointer (Option.some (Go.Addr.mk 1000 2 Option.none)))) ∧
 (((vI b) = (vI b)) ∧
 (((Go.Value.pointer (Option.some (Go.Addr.mk 1000 1 Option.none))) = (Go.Value.pointer (Option.some (Go.Addr.mk 1000 1 Option.none)))) ∧
 (((Go.Value.pointer (Option.some (Go.Addr.mk 1000 0 Option.none))) = (Go.Value.pointer (Option.some (Go.Addr.mk 1000 0 Option.none)))) ∧
 (((vI x) = (vI x)) ∧
 (((vI e) = (vI e)) ∧
 (((vI d) = (vI d)) ∧
 (((Go.Value.pointer (Option.some (Go.Addr.mk 1000 3 Option.none))) = (Go.Value.pointer (Option.some (Go.Addr.mk 1000 3 Option.none)))) ∧
 (((Go.Value.pointer (Option.some (Go.Addr.mk 1000 2 Option.none))) = (Go.Value.pointer (Option.some (Go.Addr.mk 1000 2 Option.none)))) ∧
 (((vI a) = (vI a)) ∧
 (((Go.Value.pointer (Option.some (Go.Addr.mk 1000 0 Option.none))) = (Go.Value.pointer (Option.some (Go.Addr.mk 1000 0 Option.none)))) ∧
 (((Go.Value.pointer (Option.some (Go.Addr.mk 1000 0 Option.none))) = (Go.Value.pointer (Option.some (Go.Addr.mk 1000 0 Option.none)))) ∧
 (((vI x) = (vI x)) ∧
 (((vI e) = (vI e)) ∧
 (((vI c) = (vI c)) ∧
 (((Go.Value.pointer (Option.some (Go.Addr.mk 1000 2 Option.none))) = (Go.Value.pointer (Option.some (Go.Addr.mk 1000 2 Option.none)))) ∧
 (((Go.Value.pointer (Option.some (Go.Addr.mk 1000 2 Option.none))) = (Go.Value.pointer (Option.some (Go.Addr.mk 1000 2 Option.none)))) ∧
 (((vI a) = (vI a)) ∧
 (((Go.Value.pointer (Option.some (Go.Addr.mk 1000 0 Option.none))) = (Go.Value.pointer (Option.some (Go.Addr.mk 1000 0 Option.none)))) ∧
 (((Go.Value.pointer (Option.some (Go.Addr.mk 1000 0 Option.none))) = (Go.Value.pointer (Option.some (Go.Addr.mk 1000 0 Option.none)))) ∧
 True)))))))))))))))))))))))))))))))) ∧
 (∃ n1 : Int,
 (∃ n2 : Int,
 ((Says C 90 [(D.val (vI a)), (D.val (vI c)), (D.val (vI e)), (D.val (vI x))] [(D.agg [(D.val (vI n1)), (D.val (vI n2))])]) ∧
 ((((vI x) = (vI x)) ∧
 (((vI e) = (vI e)) ∧
 (((vI d) = (vI d)) ∧
 (((Go.Value.pointer (Option.some (Go.Addr.mk 1000 3 Option.none))) = (Go.Value.pointer (Option.some (Go.Addr.mk 1000 3 Option.none)))) ∧
 (((Go.Value.pointer (Option.some (Go.Addr.mk 1000 2 Option.none))) = (Go.Value.pointer (Option.some (Go.Addr.mk 1000 2 Option.none)))) ∧
 (((vI b) = (vI b)) ∧
 (((Go.Value.pointer (Option.some (Go.Addr.mk 1000 1 Option.none))) = (Go.Value.pointer (Option.some (Go.Addr.mk 1000 1 Option.none)))) ∧
 (((Go.Value.pointer (Option.some (Go.Addr.mk 1000 0 Option.none))) = (Go.Value.pointer (Option.some (Go.Addr.mk 1000 0 Option.none)))) ∧
 (((vI x) = (vI x)) ∧
 (((vI e) = (vI e)) ∧
 (((vI c) = (vI c)) ∧
 (((Go.Value.pointer (Option.some (Go.Addr.mk 1000 2 Option.none))) = (Go.Value.pointer (Option.some (Go.Addr.mk 1000 2 Option.none)))) ∧
 (((Go.Value.pointer (Option.some (Go.Addr.mk 1000 2 Option.none))) = (Go.Value.pointer (Option.some (Go.Addr.mk 1000 2 Option.none)))) ∧
 (((vI b) = (vI b)) ∧
 (((Go.Value.pointer (Option.some (Go.Addr.mk 1000 1 Option.none))) = (Go.Value.pointer (Option.some (Go.Addr.mk 1000 1 Option.none)))) ∧
 (((Go.Value.pointer (Option.some (Go.Addr.mk 1000 0 Option.none))) = (Go.Value.pointer (Option.some (Go.Addr.mk 1000 0 Option.none)))) ∧
 (((vI x) = (vI x)) ∧
 (((vI e) = (vI e)) ∧
 (((vI d) = (vI d)) ∧
 (((Go.Value.pointer (Option.some (Go.Addr.mk 1000 3 Option.none))) = (Go.Value.pointer (Option.some (Go.Addr.mk 1000 3 Option.none)))) ∧
 (((Go.Value.pointer (Option.some (Go.Addr.mk 1000 2 Option.none))) = (Go.Value.pointer (Option.some (Go.Addr.mk 1000 2 Option.none)))) ∧
 (((vI a) = (vI a)) ∧
 (((Go.Value.pointer (Option.some (Go.Addr.mk 1000 0 Option.none))) = (Go.Value.pointer (Option.some (Go.Addr.mk 1000 0 Option.none)))) ∧
 (((Go.Value.pointer (Option.some (Go.Addr.mk 1000 0 Option.none))) = (Go.Value.pointer (Option.some (Go.Addr.mk 1000 0 Option.none)))) ∧
 (((Go.Value.pointer (Option.some (Go.Addr.mk 1000 2 Option.none))) = (Go.Value.pointer (Option.some (Go.Addr.mk 1000 2 Option.none)))) ∧
 (((Go.Value.pointer (Option.some (Go.Addr.mk 1000 2 Option.none))) = (Go.Value.pointer (Option.some (Go.Addr.mk 1000 2 Option.none)))) ∧
 (((Go.Value.pointer (Option.some (Go.Addr.mk 1000 0 Option.none))) = (Go.Value.pointer (Option.some (Go.Addr.mk 1000 0 Option.none)))) ∧
 (((Go.Value.pointer (Option.some (Go.Addr.mk 1000 0 Option.none))) = (Go.Value.pointer (Option.some (Go.Addr.mk 1000 0 Option.none)))) ∧
 True)))))))))))))))))))))))))))) ∧
 (∃ n3 : Int,
 (∃ n4 : Int,
 ((Says C 90 [(D.val (vI a)), (D.val (vI d)), (D.val (vI e)), (D.val (vI x))] [(D.agg [(D.val (vI n3)), (D.val (vI n4))])]) ∧
 ((((vI x) = (vI x)) ∧
 (((vI e) = (vI e)) ∧
 (((vI d) = (vI d)) ∧
 (((Go.Value.pointer (Option.some (Go.Addr.mk 1000 3 Option.none))) = (Go.Value.pointer (Option.some (Go.Addr.mk 1000 3 Option.none)))) ∧
 (((Go.Value.pointer (Option.some (Go.Addr.mk 1000 2 Option.none))) = (Go.Value.pointer (Option.some (Go.Addr.mk 1000 2 Option.none)))) ∧
 (((vI b) = (vI b)) ∧
 (((Go.Value.pointer (Option.some (Go.Addr.mk 1000 1 Option.none))) = (Go.Value.pointer (Option.some (Go.Addr.mk 1000 1 Option.none)))) ∧
 (((Go.Value.pointer (Option.some (Go.Addr.mk 1000 0 Option.none))) = (Go.Value.pointer (Option.some (Go.Addr.mk 1000 0 Option.none)))) ∧
 (((vI x) = (vI x)) ∧
 (((vI e) = (vI e)) ∧
 (((vI c) = (vI c)) ∧
 (((Go.Value.pointer (Option.some (Go.Addr.mk 1000 2 Option.none))) = (Go.Value.pointer (Option.some (Go.Addr.mk 1000 2 Option.none)))) ∧
 (((Go.Value.pointer (Option.some (Go.Addr.mk 1000 2 Option.none))) = (Go.Value.pointer (Option.some (Go.Addr.mk 1000 2 Option.none)))) ∧
 (((vI b) = (vI b)) ∧
 (((Go.Value.pointer (Option.some (Go.Addr.mk 1000 1 Option.none))) = (Go.Value.pointer (Option.some (Go.Addr.mk 1000 1 Option.none)))) ∧
 (((Go.Value.pointer (Option.some (Go.Addr.mk 1000 0 Option.none))) = (Go.Value.pointer (Option.some (Go.Addr.mk 1000 0 Option.none)))) ∧
 (((Go.Value.pointer (Option.some (Go.Addr.mk 1000 3 Option.none))) = (Go.Value.pointer (Option.some (Go.Addr.mk 1000 3 Option.none)))) ∧
 (((Go.Value.pointer (Option.some (Go.Addr.mk 1000 2 Option.none))) = (Go.Value.pointer (Option.some (Go.Addr.mk 1000 2 Option.none)))) ∧
 (((Go.Value.pointer (Option.some (Go.Addr.mk 1000 0 Option.none))) = (Go.Value.pointer (Option.some (Go.Addr.mk 1000 0 Option.none)))) ∧
 (((Go.Value.pointer (Option.some (Go.Addr.mk 1000 0 Option.none))) = (Go.Value.pointer (Option.some (Go.Addr.mk 1000 0 Option.none)))) ∧
 (((Go.Value.pointer (Option.some (Go.Addr.mk 1000 2 Option.none))) = (Go.Value.pointer (Option.some (Go.Addr.mk 1000 2 Option.none)))) ∧
 (((Go.Value.pointer (Option.some (Go.Addr.mk 1000 2 Option.none))) = (Go.Value.pointer (Option.some (Go.Addr.mk 1000 2 Option.none)))) ∧
 (((Go.Value.pointer (Option.some (Go.Addr.mk 1000 0 Option.none))) = (Go.Value.pointer (Option.some (Go.Addr.mk 1000 0 Option.none)))) ∧
 (((Go.Value.pointer (Option.some (Go.Addr.mk 1000 0 Option.none))) = (Go.Value.pointer (Option.some (Go.Addr.mk 1000 0 Option.none)))) ∧
 True)))))))))))))))))))))))) ∧
 (∃ n5 : Int,
 (∃ n6 : Int,
 ((Says C 90 [(D.val (vI b)), (D.val (vI c)), (D.val (vI e)), (D.val (vI x))] [(D.agg [(D.val (vI n5)), (D.val (vI n6))])]) ∧
 ((((vI x) = (vI x)) ∧
 (((vI e) = (vI e)) ∧
 (((vI d) = (vI d)) ∧
 (((Go.Value.pointer (Option.some (Go.Addr.mk 1000 3 Option.none))) = (Go.Value.pointer (Option.some (Go.Addr.mk 1000 3 Option.none)))) ∧
 (((Go.Value.pointer (Option.some (Go.Addr.mk 1000 2 Option.none))) = (Go.Value.pointer (Option.some (Go.Addr.mk 1000 2 Option.none)))) ∧
 (((vI b) = (vI b)) ∧
 (((Go.Value.pointer (Option.some (Go.Addr.mk 1000 1 Option.none))) = (Go.Value.pointer (Option.some (Go.Addr.mk 1000 1 Option.none)))) ∧
 (((Go.Value.pointer (Option.some (Go.Addr.mk 1000 0 Option.none))) = (Go.Value.pointer (Option.some (Go.Addr.mk 1000 0 Option.none)))) ∧
 (((Go.Value.pointer (Option.some (Go.Addr.mk 1000 2 Option.none))) = (Go.Value.pointer (Option.some (Go.Addr.mk 1000 2 Option.none)))) ∧
 (((Go.Value.pointer (Option.some (Go.Addr.mk 1000 2 Option.none))) = (Go.Value.pointer (Option.some (Go.Addr.mk 1000 2 Option.none)))) ∧
 (((Go.Value.pointer (Option.some (Go.Addr.mk 1000 1 Option.none))) = (Go.Value.pointer (Option.some (Go.Addr.mk 1000 1 Option.none)))) ∧
 (((Go.Value.pointer (Option.some (Go.Addr.mk 1000 0 Option.none))) = (Go.Value.pointer (Option.some (Go.Addr.mk 1000 0 Option.none)))) ∧
 (((Go.Value.pointer (Option.some (Go.Addr.mk 1000 3 Option.none))) = (Go.Value.pointer (Option.some (Go.Addr.mk 1000 3 Option.none)))) ∧
 (((Go.Value.pointer (Option.some (Go.Addr.mk 1000 2 Option.none))) = (Go.Value.pointer (Option.some (Go.Addr.mk 1000 2 Option.none)))) ∧
 (((Go.Value.pointer (Option.some (Go.Addr.mk 1000 0 Option.none))) = (Go.Value.pointer (Option.some (Go.Addr.mk 1000 0 Option.none)))) ∧
 (((Go.Value.pointer (Option.some (Go.Addr.mk 1000 0 Option.none))) = (Go.Value.pointer (Option.some (Go.Addr.mk 1000 0 Option.none)))) ∧
 (((Go.Value.pointer (Option.some (Go.Addr.mk 1000 2 Option.none))) = (Go.Value.pointer (Option.some (Go.Addr.mk 1000 2 Option.none)))) ∧
 (((Go.Value.pointer (Option.some (Go.Addr.mk 1000 2 Option.none))) = (Go.Value.pointer (Option.some (Go.Addr.mk 1000 2 Option.none)))) ∧
 (((Go.Value.pointer (Option.some (Go.Addr.mk 1000 0 Option.none))) = (Go.Value.pointer (Option.some (Go.Addr.mk 1000 0 Option.none)))) ∧
 (((Go.Value.pointer (Option.some (Go.Addr.mk 1000 0 Option.none))) = (Go.Value.pointer (Option.some (Go.Addr.mk 1000 0 Option.none)))) ∧
 True)))))))))))))))))))) ∧
 (∃ n7 : Int,
 (∃ n8 : Int,
 ((Says C 90 [(D.val (vI b)), (D.val (vI d)), (D.val (vI e)), (D.val (vI x))] [(D.agg [(D.val (vI n7)), (D.val (vI n8))])]) ∧
 (((((Go.Value.slice (Option.some (Go.Addr.mk 1002 0 Option.none)) 4 4) = (Go.Value.slice (Option.some (Go.Addr.mk 1002 0 Option.none)) 4 4)) ∧
 ((Option.some (AObj.cells [(vI n1), (vI n2), (vI n3), (vI n4), (vI n5), (vI n6), (vI n7), (vI n8)] 32 false 2)) = (Option.some (AObj.cells [(vI n1), (vI n2), (vI n3), (vI n4), (vI n5), (vI n6), (vI n7), (vI n8)] 32 false 2)))) ∧
 (((Go.Value.pointer (Option.some (Go.Addr.mk 1000 3 Option.none))) = (Go.Value.pointer (Option.some (Go.Addr.mk 1000 3 Option.none)))) ∧
 (((Go.Value.pointer (Option.some (Go.Addr.mk 1000 2 Option.none))) = (Go.Value.pointer (Option.some (Go.Addr.mk 1000 2 Option.none)))) ∧
 (((Go.Value.pointer (Option.some (Go.Addr.mk 1000 1 Option.none))) = (Go.Value.pointer (Option.some (Go.Addr.mk 1000 1 Option.none)))) ∧
 (((Go.Value.pointer (Option.some (Go.Addr.mk 1000 0 Option.none))) = (Go.Value.pointer (Option.some (Go.Addr.mk 1000 0 Option.none)))) ∧
 (((Go.Value.pointer (Option.some (Go.Addr.mk 1000 2 Option.none))) = (Go.Value.pointer (Option.some (Go.Addr.mk 1000 2 Option.none)))) ∧
 (((Go.Value.pointer (Option.some (Go.Addr.mk 1000 2 Option.none))) = (Go.Value.pointer (Option.some (Go.Addr.mk 1000 2 Option.none)))) ∧
 (((Go.Value.pointer (Option.some (Go.Addr.mk 1000 1 Option.none))) = (Go.Value.pointer (Option.some (Go.Addr.mk 1000 1 Option.none)))) ∧
 (((Go.Value.pointer (Option.some (Go.Addr.mk 1000 0 Option.none))) = (Go.Value.pointer (Option.some (Go.Addr.mk 1000 0 Option.none)))) ∧
 (((Go.Value.pointer (Option.some (Go.Addr.mk 1000 3 Option.none))) = (Go.Value.pointer (Option.some (Go.Addr.mk 1000 3 Option.none)))) ∧
 (((Go.Value.pointer (Option.some (Go.Addr.mk 1000 2 Option.none))) = (Go.Value.pointer (Option.some (Go.Addr.mk 1000 2 Option.none)))) ∧
 (((Go.Value.pointer (Option.some (Go.Addr.mk 1000 0 Option.none))) = (Go.Value.pointer (Option.some (Go.Addr.mk 1000 0 Option.none)))) ∧
 (((Go.Value.pointer (Option.some (Go.Addr.mk 1000 0 Option.none))) = (Go.Value.pointer (Option.some (Go.Addr.mk 1000 0 Option.none)))) ∧
 (((Go.Value.pointer (Option.some (Go.Addr.mk 1000 2 Option.none))) = (Go.Value.pointer (Option.some (Go.Addr.mk 1000 2 Option.none)))) ∧
 (((Go.Value.pointer (Option.some (Go.Addr.mk 1000 2 Option.none))) = (Go.Value.pointer (Option.some (Go.Addr.mk 1000 2 Option.none)))) ∧
 (((Go.Value.pointer (Option.some (Go.Addr.mk 1000 0 Option.none))) = (Go.Value.pointer (Option.some (Go.Addr.mk 1000 0 Option.none)))) ∧
 (((Go.Value.pointer (Option.some (Go.Addr.mk 1000 0 Option.none))) = (Go.Value.pointer (Option.some (Go.Addr.mk 1000 0 Option.none)))) ∧
 True))))))))))))))))) ∧
 (∃ n9 : Int,
 (∃ n10 : Int,
 (∃ n11 : Int,
 (∃ n12 : Int,
 ((Says C 89 [(D.sl 4 2 [(vI n1), (vI n2), (vI n3), (vI n4), (vI n5), (vI n6), (vI n7), (vI n8)])] [(D.agg [(D.val (vI n9)), (D.val (vI n10)), (D.val (vI n11)), (D.val (vI n12))])]) ∧
 ((((Go.Value.pointer (Option.some (Go.Addr.mk 1000 3 Option.none))) = (Go.Value.pointer (Option.some (Go.Addr.mk 1000 3 Option.none)))) ∧
 (((Go.Value.pointer (Option.some (Go.Addr.mk 1000 2 Option.none))) = (Go.Value.pointer (Option.some (Go.Addr.mk 1000 2 Option.none)))) ∧
 (((Go.Value.pointer (Option.some (Go.Addr.mk 1000 1 Option.none))) = (Go.Value.pointer (Option.some (Go.Addr.mk 1000 1 Option.none)))) ∧
 (((Go.Value.pointer (Option.some (Go.Addr.mk 1000 0 Option.none))) = (Go.Value.pointer (Option.some (Go.Addr.mk 1000 0 Option.none)))) ∧
 (((Go.Value.pointer (Option.some (Go.Addr.mk 1000 2 Option.none))) = (Go.Value.pointer (Option.some (Go.Addr.mk 1000 2 Option.none)))) ∧
 (((Go.Value.pointer (Option.some (Go.Addr.mk 1000 2 Option.none))) = (Go.Value.pointer (Option.some (Go.Addr.mk 1000 2 Option.none)))) ∧
 (((Go.Value.pointer (Option.some (Go.Addr.mk 1000 1 Option.none))) = (Go.Value.pointer (Option.some (Go.Addr.mk 1000 1 Option.none)))) ∧
 (((Go.Value.pointer (Option.some (Go.Addr.mk 1000 0 Option.none))) = (Go.Value.pointer (Option.some (Go.Addr.mk 1000 0 Option.none)))) ∧
 (((Go.Value.pointer (Option.some (Go.Addr.mk 1000 3 Option.none))) = (Go.Value.pointer (Option.some (Go.Addr.mk 1000 3 Option.none)))) ∧
 (((Go.Value.pointer (Option.some (Go.Addr.mk 1000 2 Option.none))) = (Go.Value.pointer (Option.some (Go.Addr.mk 1000 2 Option.none)))) ∧
 (((Go.Value.pointer (Option.some (Go.Addr.mk 1000 0 Option.none))) = (Go.Value.pointer (Option.some (Go.Addr.mk 1000 0 Option.none)))) ∧
 (((Go.Value.pointer (Option.some (Go.Addr.mk 1000 0 Option.none))) = (Go.Value.pointer (Option.some (Go.Addr.mk 1000 0 Option.none)))) ∧
 (((Go.Value.pointer (Option.some (Go.Addr.mk 1000 2 Option.none))) = (Go.Value.pointer (Option.some (Go.Addr.mk 1000 2 Option.none)))) ∧
 (((Go.Value.pointer (Option.some (Go.Addr.mk 1000 2 Option.none))) = (Go.Value.pointer (Option.some (Go.Addr.mk 1000 2 Option.none)))) ∧
 (((Go.Value.pointer (Option.some (Go.Addr.mk 1000 0 Option.none))) = (Go.Value.pointer (Option.some (Go.Addr.mk 1000 0 Option.none)))) ∧
 (((Go.Value.pointer (Option.some (Go.Addr.mk 1000 0 Option.none))) = (Go.Value.pointer (Option.some (Go.Addr.mk 1000 0 Option.none)))) ∧
 True)))))))))))))))) ∧
 (True ∧
 (k [(D.agg [(D.val (vI n9)), (D.val (vI n10)), (D.val (vI n11)), (D.val (vI n12))])]))))))))))))))))))))))))) := by kernel_rfl
end Go.Proofs.G5z
