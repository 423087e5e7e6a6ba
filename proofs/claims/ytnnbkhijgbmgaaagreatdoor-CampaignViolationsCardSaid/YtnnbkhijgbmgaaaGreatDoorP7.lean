/- Texts of the proof, put together: C1U4, C1W10, C1W11, C1W12, C1U5, C1W13, C1W14, C1W15. -/
import Derived.Test.YtnnbkhijgbmgaaaGreatDoorP6
/- What is left to show of each function, written out; the kernel reckons it. -/
namespace Go.Proofs.C1R
open Go Go.Abs Go.Proofs Go.Proofs.C1
set_option maxRecDepth 100000
set_option linter.unusedVariables false
def mixOut (C : Ct) (a b c d e f g h i : Int) (n cap : Nat) (l : List Value) (m cap2 : Nat) (q : List Value) (K : Value → Blocks → Prop) : Prop := bcase (decide (m ≤ cap2)) (∃ er : Int, Says C 43 [.agg [.val (.int .i64 a), .val (.int .i64 b), .val (.int .i64 c), .val (.int .i64 d), .val (.int .i64 e), .val (.int .i64 f), .val (.int .i64 g), .val (.int .i64 h), .val (.int .i64 i)], .sl n 4 l, .sl m 1 q] [.val (.int .i64 er)] ∧ bcase (er == 0) (K (.tuple #[.agg #[.int .i64 a, .int .i64 b, .int .i64 c, .int .i64 d, .int .i64 e, .int .i64 f, .int .i64 g, .int .i64 h, .int .i64 i, .slice (some ⟨500, 0, none⟩) n cap], .int .i64 0]) [(500, .sym l false 4)]) (K (.tuple #[.agg #[.int .i64 0, .int .i64 0, .int .i64 0, .int .i64 0, .int .i64 0, .int .i64 0, .int .i64 0, .int .i64 0, .int .i64 0, .slice none 0 0], .int .i64 er]) [])) False
def mixSpec (C : Ct) : SpecS := fun args bs K => match args, bs with | [.agg cs, .slice (some ⟨x, 0, none⟩) n cap, .slice (some ⟨y, 0, none⟩) m cap2], [(x', .sym l o1 es1), (y', .sym q o2 es2)] => (match cs.toList with | [.int .i64 a, .int .i64 b, .int .i64 c, .int .i64 d, .int .i64 e, .int .i64 f, .int .i64 g, .int .i64 h, .int .i64 i] => if (x == 500 && x' == 500 && y == 501 && y' == 501 && o1 == false && o2 == false && es1 == 4 && es2 == 1) = true then mixOut C a b c d e f g h i n cap l m cap2 q K else False | _ => False) | _, _ => False
def preY (C D : Ct) : FuncId → Option Handler := fun g => if g == 43 then some (stateH (mixSpec D)) else preV C g
abbrev hY (C D : Ct) : Handler := handlerX Tryz.prog (preY C D) 8 6
def g16 (C E : Ct) (L : AtLoop) (a b c d e f g h i : Int) (n cap : Nat) (l : List Value) (m cap2 : Nat) (q : List Value) (k : List D → Prop) : Prop := wpFn Tryz.prog (hY C E) L 0 16 #[vRu a b c d e f g h i, S500 n cap, S501 m cap2] (heapOf [I500 l, Q501 q]) (dataK k)
theorem g16_text (C : Ct) (E : Ct) (L : AtLoop) (a : Int) (b : Int) (c : Int) (d : Int) (e : Int) (f : Int) (g : Int) (h : Int) (i : Int) (n : Nat) (cap : Nat) (l : List Go.Value) (m : Nat) (cap2 : Nat) (q : List Go.Value) (k : List D → Prop) : g16 C E L a b c d e f g h i n cap l m cap2 q k =
 (bcase (decide (m ≤ cap2))
 (∃ er1 : Int,
 ((Says E 43 [(D.agg [(D.val (Go.Value.int Go.IntKind.i64 (a))), (D.val (Go.Value.int Go.IntKind.i64 (b))), (D.val (Go.Value.int Go.IntKind.i64 (c))), (D.val (Go.Value.int Go.IntKind.i64 (d))), (D.val (Go.Value.int Go.IntKind.i64 (e))), (D.val (Go.Value.int Go.IntKind.i64 (f))), (D.val (Go.Value.int Go.IntKind.i64 (g))), (D.val (Go.Value.int Go.IntKind.i64 (h))), (D.val (Go.Value.int Go.IntKind.i64 (i)))]), (D.sl (n) 4 (l)), (D.sl (m) 1 (q))] [(D.val (Go.Value.int Go.IntKind.i64 (er1)))]) ∧
 (bcase (er1 == 0)
 (bcase (decide (0 + n * 4 ≤ List.length l))
 (bcase (decide (0 + m * 1 ≤ List.length q))
 (∃ n1 : Int,
 (∃ n2 : Int,
 (((Says C 44 [(D.agg [(D.val (Go.Value.int Go.IntKind.i64 (a))), (D.val (Go.Value.int Go.IntKind.i64 (b))), (D.val (Go.Value.int Go.IntKind.i64 (c))), (D.val (Go.Value.int Go.IntKind.i64 (d))), (D.val (Go.Value.int Go.IntKind.i64 (e))), (D.val (Go.Value.int Go.IntKind.i64 (f))), (D.val (Go.Value.int Go.IntKind.i64 (g))), (D.val (Go.Value.int Go.IntKind.i64 (h))), (D.val (Go.Value.int Go.IntKind.i64 (i))), (D.sl (n) 4 (List.take (n * 4) (List.drop 0 l)))]), (D.sl (m) 1 (List.take (m * 1) (List.drop 0 q))), (D.val (Go.Value.int Go.IntKind.i64 (0 : Int)))] [(D.agg [(D.val (Go.Value.int Go.IntKind.i64 (n1))), (D.val (Go.Value.int Go.IntKind.i64 (n2)))]), (D.val (Go.Value.bool true))]) ∧
 (k [(D.agg [(D.val (Go.Value.int Go.IntKind.i64 (n1))), (D.val (Go.Value.int Go.IntKind.i64 (n2)))]), (D.val (Go.Value.int Go.IntKind.i64 (0 : Int)))])) ∨
 ((Says C 44 [(D.agg [(D.val (Go.Value.int Go.IntKind.i64 (a))), (D.val (Go.Value.int Go.IntKind.i64 (b))), (D.val (Go.Value.int Go.IntKind.i64 (c))), (D.val (Go.Value.int Go.IntKind.i64 (d))), (D.val (Go.Value.int Go.IntKind.i64 (e))), (D.val (Go.Value.int Go.IntKind.i64 (f))), (D.val (Go.Value.int Go.IntKind.i64 (g))), (D.val (Go.Value.int Go.IntKind.i64 (h))), (D.val (Go.Value.int Go.IntKind.i64 (i))), (D.sl (n) 4 (List.take (n * 4) (List.drop 0 l)))]), (D.sl (m) 1 (List.take (m * 1) (List.drop 0 q))), (D.val (Go.Value.int Go.IntKind.i64 (0 : Int)))] [(D.agg [(D.val (Go.Value.int Go.IntKind.i64 (n1))), (D.val (Go.Value.int Go.IntKind.i64 (n2)))]), (D.val (Go.Value.bool false))]) ∧
 (k [(D.agg [(D.val (Go.Value.int Go.IntKind.i64 (0 : Int))), (D.val (Go.Value.int Go.IntKind.i64 (0 : Int)))]), (D.val (Go.Value.int Go.IntKind.i64 (12 : Int)))])))))
 False)
 False)
 (bcase (er1 != 0)
 (k [(D.agg [(D.val (Go.Value.int Go.IntKind.i64 (0 : Int))), (D.val (Go.Value.int Go.IntKind.i64 (0 : Int)))]), (D.val (Go.Value.int Go.IntKind.i64 (er1)))])
 (bcase (decide (0 + m * 1 ≤ List.length q))
 (∃ n1 : Int,
 (∃ n2 : Int,
 (((Says C 44 [(D.agg [(D.val (Go.Value.int Go.IntKind.i64 (0 : Int))), (D.val (Go.Value.int Go.IntKind.i64 (0 : Int))), (D.val (Go.Value.int Go.IntKind.i64 (0 : Int))), (D.val (Go.Value.int Go.IntKind.i64 (0 : Int))), (D.val (Go.Value.int Go.IntKind.i64 (0 : Int))), (D.val (Go.Value.int Go.IntKind.i64 (0 : Int))), (D.val (Go.Value.int Go.IntKind.i64 (0 : Int))), (D.val (Go.Value.int Go.IntKind.i64 (0 : Int))), (D.val (Go.Value.int Go.IntKind.i64 (0 : Int))), D.nil]), (D.sl (m) 1 (List.take (m * 1) (List.drop 0 q))), (D.val (Go.Value.int Go.IntKind.i64 (0 : Int)))] [(D.agg [(D.val (Go.Value.int Go.IntKind.i64 (n1))), (D.val (Go.Value.int Go.IntKind.i64 (n2)))]), (D.val (Go.Value.bool true))]) ∧
 (k [(D.agg [(D.val (Go.Value.int Go.IntKind.i64 (n1))), (D.val (Go.Value.int Go.IntKind.i64 (n2)))]), (D.val (Go.Value.int Go.IntKind.i64 (0 : Int)))])) ∨
 ((Says C 44 [(D.agg [(D.val (Go.Value.int Go.IntKind.i64 (0 : Int))), (D.val (Go.Value.int Go.IntKind.i64 (0 : Int))), (D.val (Go.Value.int Go.IntKind.i64 (0 : Int))), (D.val (Go.Value.int Go.IntKind.i64 (0 : Int))), (D.val (Go.Value.int Go.IntKind.i64 (0 : Int))), (D.val (Go.Value.int Go.IntKind.i64 (0 : Int))), (D.val (Go.Value.int Go.IntKind.i64 (0 : Int))), (D.val (Go.Value.int Go.IntKind.i64 (0 : Int))), (D.val (Go.Value.int Go.IntKind.i64 (0 : Int))), D.nil]), (D.sl (m) 1 (List.take (m * 1) (List.drop 0 q))), (D.val (Go.Value.int Go.IntKind.i64 (0 : Int)))] [(D.agg [(D.val (Go.Value.int Go.IntKind.i64 (n1))), (D.val (Go.Value.int Go.IntKind.i64 (n2)))]), (D.val (Go.Value.bool false))]) ∧
 (k [(D.agg [(D.val (Go.Value.int Go.IntKind.i64 (0 : Int))), (D.val (Go.Value.int Go.IntKind.i64 (0 : Int)))]), (D.val (Go.Value.int Go.IntKind.i64 (12 : Int)))])))))
 False)))))
 False) := by kernel_rfl
def g19 (C E : Ct) (L : AtLoop) (a b c d e f g h i : Int) (n cap : Nat) (l : List Value) (m cap2 : Nat) (q : List Value) (k : List D → Prop) : Prop := wpFn Tryz.prog (hY C E) L 0 19 #[vRu a b c d e f g h i, S500 n cap, S501 m cap2] (heapOf [I500 l, Q501 q]) (dataK k)
theorem g19_text (C : Ct) (E : Ct) (L : AtLoop) (a : Int) (b : Int) (c : Int) (d : Int) (e : Int) (f : Int) (g : Int) (h : Int) (i : Int) (n : Nat) (cap : Nat) (l : List Go.Value) (m : Nat) (cap2 : Nat) (q : List Go.Value) (k : List D → Prop) : g19 C E L a b c d e f g h i n cap l m cap2 q k =
 (bcase (decide (m ≤ cap2))
 (∃ er1 : Int,
 ((Says E 43 [(D.agg [(D.val (Go.Value.int Go.IntKind.i64 (a))), (D.val (Go.Value.int Go.IntKind.i64 (b))), (D.val (Go.Value.int Go.IntKind.i64 (c))), (D.val (Go.Value.int Go.IntKind.i64 (d))), (D.val (Go.Value.int Go.IntKind.i64 (e))), (D.val (Go.Value.int Go.IntKind.i64 (f))), (D.val (Go.Value.int Go.IntKind.i64 (g))), (D.val (Go.Value.int Go.IntKind.i64 (h))), (D.val (Go.Value.int Go.IntKind.i64 (i)))]), (D.sl (n) 4 (l)), (D.sl (m) 1 (q))] [(D.val (Go.Value.int Go.IntKind.i64 (er1)))]) ∧
 (bcase (er1 == 0)
 (bcase (decide (0 + n * 4 ≤ List.length l))
 (bcase (decide (0 + m * 1 ≤ List.length q))
 (∃ n1 : Int,
 ((Says C 45 [(D.agg [(D.val (Go.Value.int Go.IntKind.i64 (a))), (D.val (Go.Value.int Go.IntKind.i64 (b))), (D.val (Go.Value.int Go.IntKind.i64 (c))), (D.val (Go.Value.int Go.IntKind.i64 (d))), (D.val (Go.Value.int Go.IntKind.i64 (e))), (D.val (Go.Value.int Go.IntKind.i64 (f))), (D.val (Go.Value.int Go.IntKind.i64 (g))), (D.val (Go.Value.int Go.IntKind.i64 (h))), (D.val (Go.Value.int Go.IntKind.i64 (i))), (D.sl (n) 4 (List.take (n * 4) (List.drop 0 l)))]), (D.sl (m) 1 (List.take (m * 1) (List.drop 0 q)))] [(D.val (Go.Value.int Go.IntKind.i64 (n1)))]) ∧
 (k [(D.val (Go.Value.int Go.IntKind.i64 (n1))), (D.val (Go.Value.int Go.IntKind.i64 (0 : Int)))])))
 False)
 False)
 (bcase (er1 != 0)
 (k [(D.val (Go.Value.int Go.IntKind.i64 (0 : Int))), (D.val (Go.Value.int Go.IntKind.i64 (er1)))])
 (bcase (decide (0 + m * 1 ≤ List.length q))
 (∃ n1 : Int,
 ((Says C 45 [(D.agg [(D.val (Go.Value.int Go.IntKind.i64 (0 : Int))), (D.val (Go.Value.int Go.IntKind.i64 (0 : Int))), (D.val (Go.Value.int Go.IntKind.i64 (0 : Int))), (D.val (Go.Value.int Go.IntKind.i64 (0 : Int))), (D.val (Go.Value.int Go.IntKind.i64 (0 : Int))), (D.val (Go.Value.int Go.IntKind.i64 (0 : Int))), (D.val (Go.Value.int Go.IntKind.i64 (0 : Int))), (D.val (Go.Value.int Go.IntKind.i64 (0 : Int))), (D.val (Go.Value.int Go.IntKind.i64 (0 : Int))), D.nil]), (D.sl (m) 1 (List.take (m * 1) (List.drop 0 q)))] [(D.val (Go.Value.int Go.IntKind.i64 (n1)))]) ∧
 (k [(D.val (Go.Value.int Go.IntKind.i64 (n1))), (D.val (Go.Value.int Go.IntKind.i64 (0 : Int)))])))
 False)))))
 False) := by kernel_rfl
def g43X (C : Ct) (L : AtLoop) (a b c d e f g h i : Int) (n cap : Nat) (l : List Value) (m cap2 : Nat) (q : List Value) (K : Value → Blocks → Prop) : Prop := wpFn Tryz.prog (hX C) L 0 43 #[vRu a b c d e f g h i, S500 n cap, S501 m cap2] (heapOf [I500 l, Q501 q]) (stateK K)
theorem g43X_text (C : Ct) (L : AtLoop) (a : Int) (b : Int) (c : Int) (d : Int) (e : Int) (f : Int) (g : Int) (h : Int) (i : Int) (n : Nat) (cap : Nat) (l : List Go.Value) (m : Nat) (cap2 : Nat) (q : List Go.Value) (K : Go.Value → Blocks → Prop) : g43X C L a b c d e f g h i n cap l m cap2 q K =
 (∃ n1 : Int,
 ((Says C 21 [(D.agg [(D.val (Go.Value.int Go.IntKind.i64 (a))), (D.val (Go.Value.int Go.IntKind.i64 (b))), (D.val (Go.Value.int Go.IntKind.i64 (c))), (D.val (Go.Value.int Go.IntKind.i64 (d))), (D.val (Go.Value.int Go.IntKind.i64 (e))), (D.val (Go.Value.int Go.IntKind.i64 (f))), (D.val (Go.Value.int Go.IntKind.i64 (g))), (D.val (Go.Value.int Go.IntKind.i64 (h))), (D.val (Go.Value.int Go.IntKind.i64 (i)))])] [(D.val (Go.Value.int Go.IntKind.i64 (n1)))]) ∧
 (bcase (decide (0 + n * 4 ≤ List.length l))
 (∃ n2 : Int,
 ((Says C 85 [(D.sl (n) 4 (List.take (n * 4) (List.drop 0 l)))] [(D.val (Go.Value.int Go.IntKind.i64 (n2)))]) ∧
 (bcase (n1 != 0)
 (bcase (n1 != 0)
 (bcase (n1 != 0)
 (K (Go.Value.tuple [(Go.Value.agg [(Go.Value.int Go.IntKind.i64 (0 : Int)), (Go.Value.int Go.IntKind.i64 (0 : Int)), (Go.Value.int Go.IntKind.i64 (0 : Int)), (Go.Value.int Go.IntKind.i64 (0 : Int)), (Go.Value.int Go.IntKind.i64 (0 : Int)), (Go.Value.int Go.IntKind.i64 (0 : Int)), (Go.Value.int Go.IntKind.i64 (0 : Int)), (Go.Value.int Go.IntKind.i64 (0 : Int)), (Go.Value.int Go.IntKind.i64 (0 : Int)), (Go.Value.slice Option.none 0 0)].toArray), (Go.Value.int Go.IntKind.i64 (n1))].toArray) [])
 (L 0 [(Prod.mk 1 (Go.Value.slice (Option.some (Go.Addr.mk 500 0 Option.none)) (n) (cap))), (Prod.mk 2 (Go.Value.slice (Option.some (Go.Addr.mk 501 0 Option.none)) (m) (cap2))), (Prod.mk 6 (Go.Value.pointer (Option.some (Go.Addr.mk 1000 0 Option.none)))), (Prod.mk 8 (Go.Value.pointer (Option.some (Go.Addr.mk 1001 0 Option.none)))), (Prod.mk 22 (Go.Value.slice (Option.some (Go.Addr.mk 501 0 Option.none)) (m) (cap2))), (Prod.mk 23 (Go.Value.int Go.IntKind.i64 ((↑m : Int)))), (Prod.mk 24 (Go.Value.int Go.IntKind.i64 (0 : Int)))] [(Prod.mk 500 (AObj.sym (l) false 4)), (Prod.mk 501 (AObj.sym (q) false 1)), (Prod.mk 1000 (AObj.cells [(Go.Value.int Go.IntKind.i64 (0 : Int)), (Go.Value.int Go.IntKind.i64 (0 : Int)), (Go.Value.int Go.IntKind.i64 (0 : Int)), (Go.Value.int Go.IntKind.i64 (0 : Int)), (Go.Value.int Go.IntKind.i64 (0 : Int)), (Go.Value.int Go.IntKind.i64 (0 : Int)), (Go.Value.int Go.IntKind.i64 (0 : Int)), (Go.Value.int Go.IntKind.i64 (0 : Int)), (Go.Value.int Go.IntKind.i64 (0 : Int)), (Go.Value.slice Option.none 0 0)] 82 false 10)), (Prod.mk 1001 (AObj.cells [(Go.Value.int Go.IntKind.i64 (0 : Int)), (Go.Value.int Go.IntKind.i64 (0 : Int)), (Go.Value.int Go.IntKind.i64 (0 : Int)), (Go.Value.int Go.IntKind.i64 (0 : Int)), (Go.Value.int Go.IntKind.i64 (0 : Int)), (Go.Value.int Go.IntKind.i64 (0 : Int)), (Go.Value.int Go.IntKind.i64 (0 : Int)), (Go.Value.int Go.IntKind.i64 (0 : Int)), (Go.Value.int Go.IntKind.i64 (0 : Int)), (Go.Value.slice Option.none 0 0)] 82 false 10))]))
 (L 0 [(Prod.mk 1 (Go.Value.slice (Option.some (Go.Addr.mk 500 0 Option.none)) (n) (cap))), (Prod.mk 2 (Go.Value.slice (Option.some (Go.Addr.mk 501 0 Option.none)) (m) (cap2))), (Prod.mk 6 (Go.Value.pointer (Option.some (Go.Addr.mk 1000 0 Option.none)))), (Prod.mk 8 (Go.Value.pointer (Option.some (Go.Addr.mk 1001 0 Option.none)))), (Prod.mk 22 (Go.Value.slice (Option.some (Go.Addr.mk 501 0 Option.none)) (m) (cap2))), (Prod.mk 23 (Go.Value.int Go.IntKind.i64 ((↑m : Int)))), (Prod.mk 24 (Go.Value.int Go.IntKind.i64 (0 : Int)))] [(Prod.mk 500 (AObj.sym (l) false 4)), (Prod.mk 501 (AObj.sym (q) false 1)), (Prod.mk 1000 (AObj.cells [(Go.Value.int Go.IntKind.i64 (0 : Int)), (Go.Value.int Go.IntKind.i64 (0 : Int)), (Go.Value.int Go.IntKind.i64 (0 : Int)), (Go.Value.int Go.IntKind.i64 (0 : Int)), (Go.Value.int Go.IntKind.i64 (0 : Int)), (Go.Value.int Go.IntKind.i64 (0 : Int)), (Go.Value.int Go.IntKind.i64 (0 : Int)), (Go.Value.int Go.IntKind.i64 (0 : Int)), (Go.Value.int Go.IntKind.i64 (0 : Int)), (Go.Value.slice Option.none 0 0)] 82 false 10)), (Prod.mk 1001 (AObj.cells [(Go.Value.int Go.IntKind.i64 (a)), (Go.Value.int Go.IntKind.i64 (b)), (Go.Value.int Go.IntKind.i64 (c)), (Go.Value.int Go.IntKind.i64 (d)), (Go.Value.int Go.IntKind.i64 (e)), (Go.Value.int Go.IntKind.i64 (f)), (Go.Value.int Go.IntKind.i64 (g)), (Go.Value.int Go.IntKind.i64 (h)), (Go.Value.int Go.IntKind.i64 (i)), (Go.Value.slice (Option.some (Go.Addr.mk 500 0 Option.none)) (n) (cap))] 82 false 10))]))
 (bcase (n2 != 0)
 (bcase (n2 != 0)
 (bcase (n2 != 0)
 (K (Go.Value.tuple [(Go.Value.agg [(Go.Value.int Go.IntKind.i64 (0 : Int)), (Go.Value.int Go.IntKind.i64 (0 : Int)), (Go.Value.int Go.IntKind.i64 (0 : Int)), (Go.Value.int Go.IntKind.i64 (0 : Int)), (Go.Value.int Go.IntKind.i64 (0 : Int)), (Go.Value.int Go.IntKind.i64 (0 : Int)), (Go.Value.int Go.IntKind.i64 (0 : Int)), (Go.Value.int Go.IntKind.i64 (0 : Int)), (Go.Value.int Go.IntKind.i64 (0 : Int)), (Go.Value.slice Option.none 0 0)].toArray), (Go.Value.int Go.IntKind.i64 (n2))].toArray) [])
 (L 0 [(Prod.mk 1 (Go.Value.slice (Option.some (Go.Addr.mk 500 0 Option.none)) (n) (cap))), (Prod.mk 2 (Go.Value.slice (Option.some (Go.Addr.mk 501 0 Option.none)) (m) (cap2))), (Prod.mk 6 (Go.Value.pointer (Option.some (Go.Addr.mk 1000 0 Option.none)))), (Prod.mk 8 (Go.Value.pointer (Option.some (Go.Addr.mk 1001 0 Option.none)))), (Prod.mk 22 (Go.Value.slice (Option.some (Go.Addr.mk 501 0 Option.none)) (m) (cap2))), (Prod.mk 23 (Go.Value.int Go.IntKind.i64 ((↑m : Int)))), (Prod.mk 24 (Go.Value.int Go.IntKind.i64 (0 : Int)))] [(Prod.mk 500 (AObj.sym (l) false 4)), (Prod.mk 501 (AObj.sym (q) false 1)), (Prod.mk 1000 (AObj.cells [(Go.Value.int Go.IntKind.i64 (0 : Int)), (Go.Value.int Go.IntKind.i64 (0 : Int)), (Go.Value.int Go.IntKind.i64 (0 : Int)), (Go.Value.int Go.IntKind.i64 (0 : Int)), (Go.Value.int Go.IntKind.i64 (0 : Int)), (Go.Value.int Go.IntKind.i64 (0 : Int)), (Go.Value.int Go.IntKind.i64 (0 : Int)), (Go.Value.int Go.IntKind.i64 (0 : Int)), (Go.Value.int Go.IntKind.i64 (0 : Int)), (Go.Value.slice Option.none 0 0)] 82 false 10)), (Prod.mk 1001 (AObj.cells [(Go.Value.int Go.IntKind.i64 (0 : Int)), (Go.Value.int Go.IntKind.i64 (0 : Int)), (Go.Value.int Go.IntKind.i64 (0 : Int)), (Go.Value.int Go.IntKind.i64 (0 : Int)), (Go.Value.int Go.IntKind.i64 (0 : Int)), (Go.Value.int Go.IntKind.i64 (0 : Int)), (Go.Value.int Go.IntKind.i64 (0 : Int)), (Go.Value.int Go.IntKind.i64 (0 : Int)), (Go.Value.int Go.IntKind.i64 (0 : Int)), (Go.Value.slice Option.none 0 0)] 82 false 10))]))
 (L 0 [(Prod.mk 1 (Go.Value.slice (Option.some (Go.Addr.mk 500 0 Option.none)) (n) (cap))), (Prod.mk 2 (Go.Value.slice (Option.some (Go.Addr.mk 501 0 Option.none)) (m) (cap2))), (Prod.mk 6 (Go.Value.pointer (Option.some (Go.Addr.mk 1000 0 Option.none)))), (Prod.mk 8 (Go.Value.pointer (Option.some (Go.Addr.mk 1001 0 Option.none)))), (Prod.mk 22 (Go.Value.slice (Option.some (Go.Addr.mk 501 0 Option.none)) (m) (cap2))), (Prod.mk 23 (Go.Value.int Go.IntKind.i64 ((↑m : Int)))), (Prod.mk 24 (Go.Value.int Go.IntKind.i64 (0 : Int)))] [(Prod.mk 500 (AObj.sym (l) false 4)), (Prod.mk 501 (AObj.sym (q) false 1)), (Prod.mk 1000 (AObj.cells [(Go.Value.int Go.IntKind.i64 (0 : Int)), (Go.Value.int Go.IntKind.i64 (0 : Int)), (Go.Value.int Go.IntKind.i64 (0 : Int)), (Go.Value.int Go.IntKind.i64 (0 : Int)), (Go.Value.int Go.IntKind.i64 (0 : Int)), (Go.Value.int Go.IntKind.i64 (0 : Int)), (Go.Value.int Go.IntKind.i64 (0 : Int)), (Go.Value.int Go.IntKind.i64 (0 : Int)), (Go.Value.int Go.IntKind.i64 (0 : Int)), (Go.Value.slice Option.none 0 0)] 82 false 10)), (Prod.mk 1001 (AObj.cells [(Go.Value.int Go.IntKind.i64 (a)), (Go.Value.int Go.IntKind.i64 (b)), (Go.Value.int Go.IntKind.i64 (c)), (Go.Value.int Go.IntKind.i64 (d)), (Go.Value.int Go.IntKind.i64 (e)), (Go.Value.int Go.IntKind.i64 (f)), (Go.Value.int Go.IntKind.i64 (g)), (Go.Value.int Go.IntKind.i64 (h)), (Go.Value.int Go.IntKind.i64 (i)), (Go.Value.slice (Option.some (Go.Addr.mk 500 0 Option.none)) (n) (cap))] 82 false 10))]))
 (L 0 [(Prod.mk 1 (Go.Value.slice (Option.some (Go.Addr.mk 500 0 Option.none)) (n) (cap))), (Prod.mk 2 (Go.Value.slice (Option.some (Go.Addr.mk 501 0 Option.none)) (m) (cap2))), (Prod.mk 6 (Go.Value.pointer (Option.some (Go.Addr.mk 1000 0 Option.none)))), (Prod.mk 8 (Go.Value.pointer (Option.some (Go.Addr.mk 1001 0 Option.none)))), (Prod.mk 22 (Go.Value.slice (Option.some (Go.Addr.mk 501 0 Option.none)) (m) (cap2))), (Prod.mk 23 (Go.Value.int Go.IntKind.i64 ((↑m : Int)))), (Prod.mk 24 (Go.Value.int Go.IntKind.i64 (0 : Int)))] [(Prod.mk 500 (AObj.sym (l) false 4)), (Prod.mk 501 (AObj.sym (q) false 1)), (Prod.mk 1000 (AObj.cells [(Go.Value.int Go.IntKind.i64 (0 : Int)), (Go.Value.int Go.IntKind.i64 (0 : Int)), (Go.Value.int Go.IntKind.i64 (0 : Int)), (Go.Value.int Go.IntKind.i64 (0 : Int)), (Go.Value.int Go.IntKind.i64 (0 : Int)), (Go.Value.int Go.IntKind.i64 (0 : Int)), (Go.Value.int Go.IntKind.i64 (0 : Int)), (Go.Value.int Go.IntKind.i64 (0 : Int)), (Go.Value.int Go.IntKind.i64 (0 : Int)), (Go.Value.slice Option.none 0 0)] 82 false 10)), (Prod.mk 1001 (AObj.cells [(Go.Value.int Go.IntKind.i64 (a)), (Go.Value.int Go.IntKind.i64 (b)), (Go.Value.int Go.IntKind.i64 (c)), (Go.Value.int Go.IntKind.i64 (d)), (Go.Value.int Go.IntKind.i64 (e)), (Go.Value.int Go.IntKind.i64 (f)), (Go.Value.int Go.IntKind.i64 (g)), (Go.Value.int Go.IntKind.i64 (h)), (Go.Value.int Go.IntKind.i64 (i)), (Go.Value.slice (Option.some (Go.Addr.mk 500 0 Option.none)) (n) (cap))] 82 false 10))])))))
 False))) := by kernel_rfl
def Mx (b : Nat) (a1 b1 c d e f g h i : Int) (s : Value) : Nat × AObj := (b, .cells [.int .i64 a1, .int .i64 b1, .int .i64 c, .int .i64 d, .int .i64 e, .int .i64 f, .int .i64 g, .int .i64 h, .int .i64 i, s] 82 false 10)
def s43 (n cap m cap2 : Nat) (j : Int) : Slots := [(1, S500 n cap), (2, S501 m cap2), (6, P0 1000), (8, P0 1001), (22, S501 m cap2), (23, .int .i64 (m : Int)), (24, .int .i64 j)]
def r43 (C : Ct) (L : AtLoop) (a b c d e f g h i : Int) (n cap : Nat) (l : List Value) (m cap2 : Nat) (q : List Value) (j : Int) (B : Bx) (X : Xx) (K : Value → Blocks → Prop) : Prop := wpRound Tryz.prog (hX C) L 43 0 (s43 n cap m cap2 j) [I500 l, Q501 q, Mx 1000 0 0 0 0 0 0 0 0 0 (.slice none 0 0), Mx 1001 a b c d e f g h i (S500 n cap)] B X (stateK K)
theorem r43_text (C : Ct) (L : AtLoop) (a : Int) (b : Int) (c : Int) (d : Int) (e : Int) (f : Int) (g : Int) (h : Int) (i : Int) (n : Nat) (cap : Nat) (l : List Go.Value) (m : Nat) (cap2 : Nat) (q : List Go.Value) (j : Int) (B : Bx) (X : Xx) (K : Go.Value → Blocks → Prop) : r43 C L a b c d e f g h i n cap l m cap2 q j B X K =
 (bcase (decide (j < (↑m : Int)))
 (bcase (decide (0 ≤ j))
 (bcase (decide (j < (↑m : Int)))
 (∃ n1 : Int,
 ((At (q) (0 + Int.toNat j * 1) 1 [(Go.Value.int Go.IntKind.i64 (n1))]) ∧
 (bcase (decide (n1 < 0))
 (K (Go.Value.tuple [(Go.Value.agg [(Go.Value.int Go.IntKind.i64 (0 : Int)), (Go.Value.int Go.IntKind.i64 (0 : Int)), (Go.Value.int Go.IntKind.i64 (0 : Int)), (Go.Value.int Go.IntKind.i64 (0 : Int)), (Go.Value.int Go.IntKind.i64 (0 : Int)), (Go.Value.int Go.IntKind.i64 (0 : Int)), (Go.Value.int Go.IntKind.i64 (0 : Int)), (Go.Value.int Go.IntKind.i64 (0 : Int)), (Go.Value.int Go.IntKind.i64 (0 : Int)), (Go.Value.slice Option.none 0 0)].toArray), (Go.Value.int Go.IntKind.i64 (6 : Int))].toArray) [])
 (bcase (decide (n1 > Go.IntKind.wrap Go.IntKind.i64 ((↑n : Int) - 1)))
 (K (Go.Value.tuple [(Go.Value.agg [(Go.Value.int Go.IntKind.i64 (0 : Int)), (Go.Value.int Go.IntKind.i64 (0 : Int)), (Go.Value.int Go.IntKind.i64 (0 : Int)), (Go.Value.int Go.IntKind.i64 (0 : Int)), (Go.Value.int Go.IntKind.i64 (0 : Int)), (Go.Value.int Go.IntKind.i64 (0 : Int)), (Go.Value.int Go.IntKind.i64 (0 : Int)), (Go.Value.int Go.IntKind.i64 (0 : Int)), (Go.Value.int Go.IntKind.i64 (0 : Int)), (Go.Value.slice Option.none 0 0)].toArray), (Go.Value.int Go.IntKind.i64 (6 : Int))].toArray) [])
 (bcase (decide (0 ≤ j))
 (bcase (decide (j ≤ (↑cap2 : Int)))
 (bcase (decide (0 + (Int.toNat j - 0) * 1 ≤ List.length q))
 (((Says C 69 [(D.sl (Int.toNat j - 0) 1 (List.take ((Int.toNat j - 0) * 1) (List.drop 0 q))), (D.val (Go.Value.int Go.IntKind.i64 (n1)))] [(D.val (Go.Value.bool true))]) ∧
 (K (Go.Value.tuple [(Go.Value.agg [(Go.Value.int Go.IntKind.i64 (0 : Int)), (Go.Value.int Go.IntKind.i64 (0 : Int)), (Go.Value.int Go.IntKind.i64 (0 : Int)), (Go.Value.int Go.IntKind.i64 (0 : Int)), (Go.Value.int Go.IntKind.i64 (0 : Int)), (Go.Value.int Go.IntKind.i64 (0 : Int)), (Go.Value.int Go.IntKind.i64 (0 : Int)), (Go.Value.int Go.IntKind.i64 (0 : Int)), (Go.Value.int Go.IntKind.i64 (0 : Int)), (Go.Value.slice Option.none 0 0)].toArray), (Go.Value.int Go.IntKind.i64 (23 : Int))].toArray) [])) ∨
 ((Says C 69 [(D.sl (Int.toNat j - 0) 1 (List.take ((Int.toNat j - 0) * 1) (List.drop 0 q))), (D.val (Go.Value.int Go.IntKind.i64 (n1)))] [(D.val (Go.Value.bool false))]) ∧
 (B [(Prod.mk 1 (Go.Value.slice (Option.some (Go.Addr.mk 500 0 Option.none)) (n) (cap))), (Prod.mk 2 (Go.Value.slice (Option.some (Go.Addr.mk 501 0 Option.none)) (m) (cap2))), (Prod.mk 6 (Go.Value.pointer (Option.some (Go.Addr.mk 1000 0 Option.none)))), (Prod.mk 8 (Go.Value.pointer (Option.some (Go.Addr.mk 1001 0 Option.none)))), (Prod.mk 22 (Go.Value.slice (Option.some (Go.Addr.mk 501 0 Option.none)) (m) (cap2))), (Prod.mk 23 (Go.Value.int Go.IntKind.i64 ((↑m : Int)))), (Prod.mk 24 (Go.Value.int Go.IntKind.i64 (Go.IntKind.wrap Go.IntKind.i64 (j + 1))))] [(Prod.mk 500 (AObj.sym (l) false 4)), (Prod.mk 501 (AObj.sym (q) false 1)), (Prod.mk 1000 (AObj.cells [(Go.Value.int Go.IntKind.i64 (0 : Int)), (Go.Value.int Go.IntKind.i64 (0 : Int)), (Go.Value.int Go.IntKind.i64 (0 : Int)), (Go.Value.int Go.IntKind.i64 (0 : Int)), (Go.Value.int Go.IntKind.i64 (0 : Int)), (Go.Value.int Go.IntKind.i64 (0 : Int)), (Go.Value.int Go.IntKind.i64 (0 : Int)), (Go.Value.int Go.IntKind.i64 (0 : Int)), (Go.Value.int Go.IntKind.i64 (0 : Int)), (Go.Value.slice Option.none 0 0)] 82 false 10)), (Prod.mk 1001 (AObj.cells [(Go.Value.int Go.IntKind.i64 (a)), (Go.Value.int Go.IntKind.i64 (b)), (Go.Value.int Go.IntKind.i64 (c)), (Go.Value.int Go.IntKind.i64 (d)), (Go.Value.int Go.IntKind.i64 (e)), (Go.Value.int Go.IntKind.i64 (f)), (Go.Value.int Go.IntKind.i64 (g)), (Go.Value.int Go.IntKind.i64 (h)), (Go.Value.int Go.IntKind.i64 (i)), (Go.Value.slice (Option.some (Go.Addr.mk 500 0 Option.none)) (n) (cap))] 82 false 10))])))
 False)
 False)
 False)))))
 False)
 False)
 (X 0 [(Prod.mk 6 (Go.Value.pointer (Option.some (Go.Addr.mk 1000 0 Option.none)))), (Prod.mk 8 (Go.Value.pointer (Option.some (Go.Addr.mk 1001 0 Option.none))))] [(Prod.mk 1000 (AObj.cells [(Go.Value.int Go.IntKind.i64 (0 : Int)), (Go.Value.int Go.IntKind.i64 (0 : Int)), (Go.Value.int Go.IntKind.i64 (0 : Int)), (Go.Value.int Go.IntKind.i64 (0 : Int)), (Go.Value.int Go.IntKind.i64 (0 : Int)), (Go.Value.int Go.IntKind.i64 (0 : Int)), (Go.Value.int Go.IntKind.i64 (0 : Int)), (Go.Value.int Go.IntKind.i64 (0 : Int)), (Go.Value.int Go.IntKind.i64 (0 : Int)), (Go.Value.slice Option.none 0 0)] 82 false 10)), (Prod.mk 1001 (AObj.cells [(Go.Value.int Go.IntKind.i64 (a)), (Go.Value.int Go.IntKind.i64 (b)), (Go.Value.int Go.IntKind.i64 (c)), (Go.Value.int Go.IntKind.i64 (d)), (Go.Value.int Go.IntKind.i64 (e)), (Go.Value.int Go.IntKind.i64 (f)), (Go.Value.int Go.IntKind.i64 (g)), (Go.Value.int Go.IntKind.i64 (h)), (Go.Value.int Go.IntKind.i64 (i)), (Go.Value.slice (Option.some (Go.Addr.mk 500 0 Option.none)) (n) (cap))] 82 false 10)), (Prod.mk 500 (AObj.sym (l) false 4))])) := by kernel_rfl
def n43 (C : Ct) (L : AtLoop) (a b c d e f g h i : Int) (n cap : Nat) (l : List Value) (K : Value → Blocks → Prop) : Prop := wpNext Tryz.prog (hX C) L 43 0 .normal [(6, P0 1000), (8, P0 1001)] [Mx 1000 0 0 0 0 0 0 0 0 0 (.slice none 0 0), Mx 1001 a b c d e f g h i (S500 n cap), I500 l] (stateK K)
theorem n43_text (C : Ct) (L : AtLoop) (a : Int) (b : Int) (c : Int) (d : Int) (e : Int) (f : Int) (g : Int) (h : Int) (i : Int) (n : Nat) (cap : Nat) (l : List Go.Value) (K : Go.Value → Blocks → Prop) : n43 C L a b c d e f g h i n cap l K =
 (K (Go.Value.tuple [(Go.Value.agg [(Go.Value.int Go.IntKind.i64 (a)), (Go.Value.int Go.IntKind.i64 (b)), (Go.Value.int Go.IntKind.i64 (c)), (Go.Value.int Go.IntKind.i64 (d)), (Go.Value.int Go.IntKind.i64 (e)), (Go.Value.int Go.IntKind.i64 (f)), (Go.Value.int Go.IntKind.i64 (g)), (Go.Value.int Go.IntKind.i64 (h)), (Go.Value.int Go.IntKind.i64 (i)), (Go.Value.slice (Option.some (Go.Addr.mk 500 0 Option.none)) (n) (cap))].toArray), (Go.Value.int Go.IntKind.i64 (0 : Int))].toArray) [(Prod.mk 500 (AObj.sym (l) false 4))]) := by kernel_rfl
def copyIts : List D → Option (List D) := fun ds => match ds with | [.nil] => some [.sl 0 4 []] | [.sl n es cs] => some [.sl n es cs] | _ => none
def preL (C : Ct) : FuncId → Option Handler := fun g => if g == 17 then some (fixH C copyIts) else if g == 18 then some (fixH C copyInts) else if [6, 16, 19, 20, 21, 22, 23, 24, 25].contains g then some (saidH Tryz.prog C) else none
abbrev hL (C : Ct) : Handler := handlerX Tryz.prog (preL C) 8 6
def g5 (C : Ct) (L : AtLoop) (a b c d e f g h i : Int) (n cap : Nat) (l : List Value) (m cap2 : Nat) (q : List Value) (k : List D → Prop) : Prop := wpFn Tryz.prog (hL C) L 0 5 #[vRu a b c d e f g h i, S500 n cap, S501 m cap2] (heapOf [I500 l, Q501 q]) (dataK k)
theorem g5_text (C : Ct) (L : AtLoop) (a : Int) (b : Int) (c : Int) (d : Int) (e : Int) (f : Int) (g : Int) (h : Int) (i : Int) (n : Nat) (cap : Nat) (l : List Go.Value) (m : Nat) (cap2 : Nat) (q : List Go.Value) (k : List D → Prop) : g5 C L a b c d e f g h i n cap l m cap2 q k =
 (((Says C 6 [] [(D.val (Go.Value.bool true))]) ∧
 (bcase (decide ((↑n : Int) ≤ 9))
 (bcase (decide ((↑m : Int) > 10))
 (k [(D.val (Go.Value.bool true))])
 (((((Go.Value.pointer (Option.some (Go.Addr.mk 1001 0 Option.none))) = (Go.Value.pointer (Option.some (Go.Addr.mk 1001 0 Option.none)))) ∧
 ((Option.some (AObj.cells [(Go.Value.int Go.IntKind.i64 (0 : Int)), (Go.Value.int Go.IntKind.i64 (0 : Int))] 47 false 2)) = (Option.some (AObj.cells [(Go.Value.int Go.IntKind.i64 (0 : Int)), (Go.Value.int Go.IntKind.i64 (0 : Int))] 47 false 2)))) ∧
 (((Go.Value.slice (Option.some (Go.Addr.mk 501 0 Option.none)) (m) (cap2)) = (Go.Value.slice (Option.some (Go.Addr.mk 501 0 Option.none)) (m) (cap2))) ∧
 (((Go.Value.slice (Option.some (Go.Addr.mk 500 0 Option.none)) (n) (cap)) = (Go.Value.slice (Option.some (Go.Addr.mk 500 0 Option.none)) (n) (cap))) ∧
 (((Go.Value.agg [(Go.Value.int Go.IntKind.i64 (a)), (Go.Value.int Go.IntKind.i64 (b)), (Go.Value.int Go.IntKind.i64 (c)), (Go.Value.int Go.IntKind.i64 (d)), (Go.Value.int Go.IntKind.i64 (e)), (Go.Value.int Go.IntKind.i64 (f)), (Go.Value.int Go.IntKind.i64 (g)), (Go.Value.int Go.IntKind.i64 (h)), (Go.Value.int Go.IntKind.i64 (i))].toArray) = (Go.Value.agg [(Go.Value.int Go.IntKind.i64 (a)), (Go.Value.int Go.IntKind.i64 (b)), (Go.Value.int Go.IntKind.i64 (c)), (Go.Value.int Go.IntKind.i64 (d)), (Go.Value.int Go.IntKind.i64 (e)), (Go.Value.int Go.IntKind.i64 (f)), (Go.Value.int Go.IntKind.i64 (g)), (Go.Value.int Go.IntKind.i64 (h)), (Go.Value.int Go.IntKind.i64 (i))].toArray)) ∧
 True)))) ∧
 (bcase (decide (0 + n * 4 ≤ List.length l))
 ((Says C 17 [(D.sl (n) 4 (List.take (n * 4) (List.drop 0 l)))] [(D.sl (n) 4 (List.take (n * 4) (List.drop 0 l)))]) ∧
 (((((Go.Value.pointer (Option.some (Go.Addr.mk 1001 0 Option.none))) = (Go.Value.pointer (Option.some (Go.Addr.mk 1001 0 Option.none)))) ∧
 ((Option.some (AObj.cells [(Go.Value.int Go.IntKind.i64 (0 : Int)), (Go.Value.int Go.IntKind.i64 (0 : Int))] 47 false 2)) = (Option.some (AObj.cells [(Go.Value.int Go.IntKind.i64 (0 : Int)), (Go.Value.int Go.IntKind.i64 (0 : Int))] 47 false 2)))) ∧
 (((Go.Value.slice (Option.some (Go.Addr.mk 501 0 Option.none)) (m) (cap2)) = (Go.Value.slice (Option.some (Go.Addr.mk 501 0 Option.none)) (m) (cap2))) ∧
 (((Go.Value.agg [(Go.Value.int Go.IntKind.i64 (a)), (Go.Value.int Go.IntKind.i64 (b)), (Go.Value.int Go.IntKind.i64 (c)), (Go.Value.int Go.IntKind.i64 (d)), (Go.Value.int Go.IntKind.i64 (e)), (Go.Value.int Go.IntKind.i64 (f)), (Go.Value.int Go.IntKind.i64 (g)), (Go.Value.int Go.IntKind.i64 (h)), (Go.Value.int Go.IntKind.i64 (i))].toArray) = (Go.Value.agg [(Go.Value.int Go.IntKind.i64 (a)), (Go.Value.int Go.IntKind.i64 (b)), (Go.Value.int Go.IntKind.i64 (c)), (Go.Value.int Go.IntKind.i64 (d)), (Go.Value.int Go.IntKind.i64 (e)), (Go.Value.int Go.IntKind.i64 (f)), (Go.Value.int Go.IntKind.i64 (g)), (Go.Value.int Go.IntKind.i64 (h)), (Go.Value.int Go.IntKind.i64 (i))].toArray)) ∧
 True))) ∧
 (bcase (decide (0 + m * 1 ≤ List.length q))
 ((Says C 18 [(D.sl (m) 1 (List.take (m * 1) (List.drop 0 q)))] [(D.sl (m) 1 (List.take (m * 1) (List.drop 0 q)))]) ∧
 (((((Go.Value.pointer (Option.some (Go.Addr.mk 1001 0 Option.none))) = (Go.Value.pointer (Option.some (Go.Addr.mk 1001 0 Option.none)))) ∧
 ((Option.some (AObj.cells [(Go.Value.int Go.IntKind.i64 (0 : Int)), (Go.Value.int Go.IntKind.i64 (0 : Int))] 47 false 2)) = (Option.some (AObj.cells [(Go.Value.int Go.IntKind.i64 (0 : Int)), (Go.Value.int Go.IntKind.i64 (0 : Int))] 47 false 2)))) ∧
 (((Go.Value.agg [(Go.Value.int Go.IntKind.i64 (a)), (Go.Value.int Go.IntKind.i64 (b)), (Go.Value.int Go.IntKind.i64 (c)), (Go.Value.int Go.IntKind.i64 (d)), (Go.Value.int Go.IntKind.i64 (e)), (Go.Value.int Go.IntKind.i64 (f)), (Go.Value.int Go.IntKind.i64 (g)), (Go.Value.int Go.IntKind.i64 (h)), (Go.Value.int Go.IntKind.i64 (i))].toArray) = (Go.Value.agg [(Go.Value.int Go.IntKind.i64 (a)), (Go.Value.int Go.IntKind.i64 (b)), (Go.Value.int Go.IntKind.i64 (c)), (Go.Value.int Go.IntKind.i64 (d)), (Go.Value.int Go.IntKind.i64 (e)), (Go.Value.int Go.IntKind.i64 (f)), (Go.Value.int Go.IntKind.i64 (g)), (Go.Value.int Go.IntKind.i64 (h)), (Go.Value.int Go.IntKind.i64 (i))].toArray)) ∧
 True)) ∧
 (bcase (decide (0 + n * 4 ≤ List.length (List.take (n * 4) (List.drop 0 l))))
 (bcase (decide (0 + m * 1 ≤ List.length (List.take (m * 1) (List.drop 0 q))))
 (∃ n1 : Int,
 (∃ n2 : Int,
 (∃ n3 : Int,
 ((Says C 16 [(D.agg [(D.val (Go.Value.int Go.IntKind.i64 (a))), (D.val (Go.Value.int Go.IntKind.i64 (b))), (D.val (Go.Value.int Go.IntKind.i64 (c))), (D.val (Go.Value.int Go.IntKind.i64 (d))), (D.val (Go.Value.int Go.IntKind.i64 (e))), (D.val (Go.Value.int Go.IntKind.i64 (f))), (D.val (Go.Value.int Go.IntKind.i64 (g))), (D.val (Go.Value.int Go.IntKind.i64 (h))), (D.val (Go.Value.int Go.IntKind.i64 (i)))]), (D.sl (n) 4 (List.take (n * 4) (List.drop 0 (List.take (n * 4) (List.drop 0 l))))), (D.sl (m) 1 (List.take (m * 1) (List.drop 0 (List.take (m * 1) (List.drop 0 q)))))] [(D.agg [(D.val (Go.Value.int Go.IntKind.i64 (n1))), (D.val (Go.Value.int Go.IntKind.i64 (n2)))]), (D.val (Go.Value.int Go.IntKind.i64 (n3)))]) ∧
 ((((Go.Value.int Go.IntKind.i64 (n3)) = (Go.Value.int Go.IntKind.i64 (n3))) ∧
 (((Go.Value.agg [(Go.Value.int Go.IntKind.i64 (n1)), (Go.Value.int Go.IntKind.i64 (n2))].toArray) = (Go.Value.agg [(Go.Value.int Go.IntKind.i64 (n1)), (Go.Value.int Go.IntKind.i64 (n2))].toArray)) ∧
 (((Go.Value.tuple [(Go.Value.agg [(Go.Value.int Go.IntKind.i64 (n1)), (Go.Value.int Go.IntKind.i64 (n2))].toArray), (Go.Value.int Go.IntKind.i64 (n3))].toArray) = (Go.Value.tuple [(Go.Value.agg [(Go.Value.int Go.IntKind.i64 (n1)), (Go.Value.int Go.IntKind.i64 (n2))].toArray), (Go.Value.int Go.IntKind.i64 (n3))].toArray)) ∧
 ((((Go.Value.pointer (Option.some (Go.Addr.mk 1001 0 Option.none))) = (Go.Value.pointer (Option.some (Go.Addr.mk 1001 0 Option.none)))) ∧
 ((Option.some (AObj.cells [(Go.Value.int Go.IntKind.i64 (0 : Int)), (Go.Value.int Go.IntKind.i64 (0 : Int))] 47 false 2)) = (Option.some (AObj.cells [(Go.Value.int Go.IntKind.i64 (0 : Int)), (Go.Value.int Go.IntKind.i64 (0 : Int))] 47 false 2)))) ∧
 True)))) ∧
 ((((Go.Value.int Go.IntKind.i64 (n3)) = (Go.Value.int Go.IntKind.i64 (n3))) ∧
 True) ∧
 (True ∧
 ((((Go.Value.slice (Option.some (Go.Addr.mk 501 0 Option.none)) (m) (cap2)) = (Go.Value.slice (Option.some (Go.Addr.mk 501 0 Option.none)) (m) (cap2))) ∧
 (((Go.Value.slice (Option.some (Go.Addr.mk 500 0 Option.none)) (n) (cap)) = (Go.Value.slice (Option.some (Go.Addr.mk 500 0 Option.none)) (n) (cap))) ∧
 (((Go.Value.agg [(Go.Value.int Go.IntKind.i64 (a)), (Go.Value.int Go.IntKind.i64 (b)), (Go.Value.int Go.IntKind.i64 (c)), (Go.Value.int Go.IntKind.i64 (d)), (Go.Value.int Go.IntKind.i64 (e)), (Go.Value.int Go.IntKind.i64 (f)), (Go.Value.int Go.IntKind.i64 (g)), (Go.Value.int Go.IntKind.i64 (h)), (Go.Value.int Go.IntKind.i64 (i))].toArray) = (Go.Value.agg [(Go.Value.int Go.IntKind.i64 (a)), (Go.Value.int Go.IntKind.i64 (b)), (Go.Value.int Go.IntKind.i64 (c)), (Go.Value.int Go.IntKind.i64 (d)), (Go.Value.int Go.IntKind.i64 (e)), (Go.Value.int Go.IntKind.i64 (f)), (Go.Value.int Go.IntKind.i64 (g)), (Go.Value.int Go.IntKind.i64 (h)), (Go.Value.int Go.IntKind.i64 (i))].toArray)) ∧
 True))) ∧
 (bcase (decide (0 + n * 4 ≤ List.length l))
 ((Says C 17 [(D.sl (n) 4 (List.take (n * 4) (List.drop 0 l)))] [(D.sl (n) 4 (List.take (n * 4) (List.drop 0 l)))]) ∧
 ((((Go.Value.slice (Option.some (Go.Addr.mk 501 0 Option.none)) (m) (cap2)) = (Go.Value.slice (Option.some (Go.Addr.mk 501 0 Option.none)) (m) (cap2))) ∧
 (((Go.Value.agg [(Go.Value.int Go.IntKind.i64 (a)), (Go.Value.int Go.IntKind.i64 (b)), (Go.Value.int Go.IntKind.i64 (c)), (Go.Value.int Go.IntKind.i64 (d)), (Go.Value.int Go.IntKind.i64 (e)), (Go.Value.int Go.IntKind.i64 (f)), (Go.Value.int Go.IntKind.i64 (g)), (Go.Value.int Go.IntKind.i64 (h)), (Go.Value.int Go.IntKind.i64 (i))].toArray) = (Go.Value.agg [(Go.Value.int Go.IntKind.i64 (a)), (Go.Value.int Go.IntKind.i64 (b)), (Go.Value.int Go.IntKind.i64 (c)), (Go.Value.int Go.IntKind.i64 (d)), (Go.Value.int Go.IntKind.i64 (e)), (Go.Value.int Go.IntKind.i64 (f)), (Go.Value.int Go.IntKind.i64 (g)), (Go.Value.int Go.IntKind.i64 (h)), (Go.Value.int Go.IntKind.i64 (i))].toArray)) ∧
 True)) ∧
 (bcase (decide (0 + m * 1 ≤ List.length q))
 ((Says C 18 [(D.sl (m) 1 (List.take (m * 1) (List.drop 0 q)))] [(D.sl (m) 1 (List.take (m * 1) (List.drop 0 q)))]) ∧
 ((((Go.Value.agg [(Go.Value.int Go.IntKind.i64 (a)), (Go.Value.int Go.IntKind.i64 (b)), (Go.Value.int Go.IntKind.i64 (c)), (Go.Value.int Go.IntKind.i64 (d)), (Go.Value.int Go.IntKind.i64 (e)), (Go.Value.int Go.IntKind.i64 (f)), (Go.Value.int Go.IntKind.i64 (g)), (Go.Value.int Go.IntKind.i64 (h)), (Go.Value.int Go.IntKind.i64 (i))].toArray) = (Go.Value.agg [(Go.Value.int Go.IntKind.i64 (a)), (Go.Value.int Go.IntKind.i64 (b)), (Go.Value.int Go.IntKind.i64 (c)), (Go.Value.int Go.IntKind.i64 (d)), (Go.Value.int Go.IntKind.i64 (e)), (Go.Value.int Go.IntKind.i64 (f)), (Go.Value.int Go.IntKind.i64 (g)), (Go.Value.int Go.IntKind.i64 (h)), (Go.Value.int Go.IntKind.i64 (i))].toArray)) ∧
 True) ∧
 (bcase (decide (0 + n * 4 ≤ List.length (List.take (n * 4) (List.drop 0 l))))
 (bcase (decide (0 + m * 1 ≤ List.length (List.take (m * 1) (List.drop 0 q))))
 (∃ n4 : Int,
 (∃ n5 : Int,
 ((Says C 19 [(D.agg [(D.val (Go.Value.int Go.IntKind.i64 (a))), (D.val (Go.Value.int Go.IntKind.i64 (b))), (D.val (Go.Value.int Go.IntKind.i64 (c))), (D.val (Go.Value.int Go.IntKind.i64 (d))), (D.val (Go.Value.int Go.IntKind.i64 (e))), (D.val (Go.Value.int Go.IntKind.i64 (f))), (D.val (Go.Value.int Go.IntKind.i64 (g))), (D.val (Go.Value.int Go.IntKind.i64 (h))), (D.val (Go.Value.int Go.IntKind.i64 (i)))]), (D.sl (n) 4 (List.take (n * 4) (List.drop 0 (List.take (n * 4) (List.drop 0 l))))), (D.sl (m) 1 (List.take (m * 1) (List.drop 0 (List.take (m * 1) (List.drop 0 q)))))] [(D.val (Go.Value.int Go.IntKind.i64 (n4))), (D.val (Go.Value.int Go.IntKind.i64 (n5)))]) ∧
 ((((Go.Value.int Go.IntKind.i64 (n5)) = (Go.Value.int Go.IntKind.i64 (n5))) ∧
 (((Go.Value.int Go.IntKind.i64 (n4)) = (Go.Value.int Go.IntKind.i64 (n4))) ∧
 (((Go.Value.tuple [(Go.Value.int Go.IntKind.i64 (n4)), (Go.Value.int Go.IntKind.i64 (n5))].toArray) = (Go.Value.tuple [(Go.Value.int Go.IntKind.i64 (n4)), (Go.Value.int Go.IntKind.i64 (n5))].toArray)) ∧
 True))) ∧
 ((((Go.Value.int Go.IntKind.i64 (n5)) = (Go.Value.int Go.IntKind.i64 (n5))) ∧
 True) ∧
 (True ∧
 (∃ n6 : Int,
 ((Says C 20 [(D.agg [(D.val (Go.Value.int Go.IntKind.i64 (a))), (D.val (Go.Value.int Go.IntKind.i64 (b))), (D.val (Go.Value.int Go.IntKind.i64 (c))), (D.val (Go.Value.int Go.IntKind.i64 (d))), (D.val (Go.Value.int Go.IntKind.i64 (e))), (D.val (Go.Value.int Go.IntKind.i64 (f))), (D.val (Go.Value.int Go.IntKind.i64 (g))), (D.val (Go.Value.int Go.IntKind.i64 (h))), (D.val (Go.Value.int Go.IntKind.i64 (i)))])] [(D.val (Go.Value.int Go.IntKind.i64 (n6)))]) ∧
 (∃ n7 : Int,
 ((Says C 21 [(D.agg [(D.val (Go.Value.int Go.IntKind.i64 (a))), (D.val (Go.Value.int Go.IntKind.i64 (b))), (D.val (Go.Value.int Go.IntKind.i64 (c))), (D.val (Go.Value.int Go.IntKind.i64 (d))), (D.val (Go.Value.int Go.IntKind.i64 (e))), (D.val (Go.Value.int Go.IntKind.i64 (f))), (D.val (Go.Value.int Go.IntKind.i64 (g))), (D.val (Go.Value.int Go.IntKind.i64 (h))), (D.val (Go.Value.int Go.IntKind.i64 (i)))])] [(D.val (Go.Value.int Go.IntKind.i64 (n7)))]) ∧
 (bcase (n7 != n6)
 (k [(D.val (Go.Value.bool false))])
 (bcase (decide (0 + n * 4 ≤ List.length l))
 (∃ n8 : Int,
 ((Says C 22 [(D.agg [(D.val (Go.Value.int Go.IntKind.i64 (a))), (D.val (Go.Value.int Go.IntKind.i64 (b))), (D.val (Go.Value.int Go.IntKind.i64 (c))), (D.val (Go.Value.int Go.IntKind.i64 (d))), (D.val (Go.Value.int Go.IntKind.i64 (e))), (D.val (Go.Value.int Go.IntKind.i64 (f))), (D.val (Go.Value.int Go.IntKind.i64 (g))), (D.val (Go.Value.int Go.IntKind.i64 (h))), (D.val (Go.Value.int Go.IntKind.i64 (i)))]), (D.sl (n) 4 (List.take (n * 4) (List.drop 0 l)))] [(D.val (Go.Value.int Go.IntKind.i64 (n8)))]) ∧
 (bcase (n8 == 0)
 (bcase (decide (0 + n * 4 ≤ List.length l))
 (bcase (decide (0 + m * 1 ≤ List.length q))
 (∃ n9 : Int,
 ((Says C 23 [(D.sl (n) 4 (List.take (n * 4) (List.drop 0 l))), (D.sl (m) 1 (List.take (m * 1) (List.drop 0 q)))] [(D.val (Go.Value.int Go.IntKind.i64 (n9)))]) ∧
 (bcase (n9 != 0)
 (bcase (n3 == n9)
 (bcase (n5 == n9)
 (bcase (if Bool.false = Bool.true then !(n1 == 0 && (n2 == 0 && Bool.true)) else n1 == 0 && (n2 == 0 && Bool.true))
 (bcase (n4 == 0)
 (k [(D.val (Go.Value.bool true))])
 (k [(D.val (Go.Value.bool false))]))
 (k [(D.val (Go.Value.bool false))]))
 (k [(D.val (Go.Value.bool false))]))
 (k [(D.val (Go.Value.bool false))]))
 (bcase (decide (0 + n * 4 ≤ List.length l))
 (bcase (decide (0 + m * 1 ≤ List.length q))
 (∃ n10 : Int,
 (∃ n11 : Int,
 (((Says C 24 [(D.agg [(D.val (Go.Value.int Go.IntKind.i64 (a))), (D.val (Go.Value.int Go.IntKind.i64 (b))), (D.val (Go.Value.int Go.IntKind.i64 (c))), (D.val (Go.Value.int Go.IntKind.i64 (d))), (D.val (Go.Value.int Go.IntKind.i64 (e))), (D.val (Go.Value.int Go.IntKind.i64 (f))), (D.val (Go.Value.int Go.IntKind.i64 (g))), (D.val (Go.Value.int Go.IntKind.i64 (h))), (D.val (Go.Value.int Go.IntKind.i64 (i)))]), (D.sl (n) 4 (List.take (n * 4) (List.drop 0 l))), (D.sl (m) 1 (List.take (m * 1) (List.drop 0 q)))] [(D.agg [(D.val (Go.Value.int Go.IntKind.i64 (n10))), (D.val (Go.Value.int Go.IntKind.i64 (n11)))]), (D.val (Go.Value.bool true))]) ∧
 (bcase (n5 != 0)
 (k [(D.val (Go.Value.bool false))])
 (bcase (decide (0 + n * 4 ≤ List.length l))
 (bcase (decide (0 + m * 1 ≤ List.length q))
 (∃ n12 : Int,
 ((Says C 25 [(D.agg [(D.val (Go.Value.int Go.IntKind.i64 (a))), (D.val (Go.Value.int Go.IntKind.i64 (b))), (D.val (Go.Value.int Go.IntKind.i64 (c))), (D.val (Go.Value.int Go.IntKind.i64 (d))), (D.val (Go.Value.int Go.IntKind.i64 (e))), (D.val (Go.Value.int Go.IntKind.i64 (f))), (D.val (Go.Value.int Go.IntKind.i64 (g))), (D.val (Go.Value.int Go.IntKind.i64 (h))), (D.val (Go.Value.int Go.IntKind.i64 (i)))]), (D.sl (n) 4 (List.take (n * 4) (List.drop 0 l))), (D.sl (m) 1 (List.take (m * 1) (List.drop 0 q)))] [(D.val (Go.Value.int Go.IntKind.i64 (n12)))]) ∧
 (bcase (n4 != n12)
 (k [(D.val (Go.Value.bool false))])
 (bcase (n3 == 0)
 (bcase (if Bool.false = Bool.true then !(n1 == n10 && (n2 == n11 && Bool.true)) else n1 == n10 && (n2 == n11 && Bool.true))
 (k [(D.val (Go.Value.bool true))])
 (k [(D.val (Go.Value.bool false))]))
 (k [(D.val (Go.Value.bool false))])))))
 False)
 False))) ∨
 ((Says C 24 [(D.agg [(D.val (Go.Value.int Go.IntKind.i64 (a))), (D.val (Go.Value.int Go.IntKind.i64 (b))), (D.val (Go.Value.int Go.IntKind.i64 (c))), (D.val (Go.Value.int Go.IntKind.i64 (d))), (D.val (Go.Value.int Go.IntKind.i64 (e))), (D.val (Go.Value.int Go.IntKind.i64 (f))), (D.val (Go.Value.int Go.IntKind.i64 (g))), (D.val (Go.Value.int Go.IntKind.i64 (h))), (D.val (Go.Value.int Go.IntKind.i64 (i)))]), (D.sl (n) 4 (List.take (n * 4) (List.drop 0 l))), (D.sl (m) 1 (List.take (m * 1) (List.drop 0 q)))] [(D.agg [(D.val (Go.Value.int Go.IntKind.i64 (n10))), (D.val (Go.Value.int Go.IntKind.i64 (n11)))]), (D.val (Go.Value.bool false))]) ∧
 (bcase (n5 != 0)
 (k [(D.val (Go.Value.bool false))])
 (bcase (decide (0 + n * 4 ≤ List.length l))
 (bcase (decide (0 + m * 1 ≤ List.length q))
 (∃ n12 : Int,
 ((Says C 25 [(D.agg [(D.val (Go.Value.int Go.IntKind.i64 (a))), (D.val (Go.Value.int Go.IntKind.i64 (b))), (D.val (Go.Value.int Go.IntKind.i64 (c))), (D.val (Go.Value.int Go.IntKind.i64 (d))), (D.val (Go.Value.int Go.IntKind.i64 (e))), (D.val (Go.Value.int Go.IntKind.i64 (f))), (D.val (Go.Value.int Go.IntKind.i64 (g))), (D.val (Go.Value.int Go.IntKind.i64 (h))), (D.val (Go.Value.int Go.IntKind.i64 (i)))]), (D.sl (n) 4 (List.take (n * 4) (List.drop 0 l))), (D.sl (m) 1 (List.take (m * 1) (List.drop 0 q)))] [(D.val (Go.Value.int Go.IntKind.i64 (n12)))]) ∧
 (bcase (n4 != n12)
 (k [(D.val (Go.Value.bool false))])
 (bcase (n3 == 12)
 (bcase (if Bool.false = Bool.true then !(n1 == 0 && (n2 == 0 && Bool.true)) else n1 == 0 && (n2 == 0 && Bool.true))
 (k [(D.val (Go.Value.bool true))])
 (k [(D.val (Go.Value.bool false))]))
 (k [(D.val (Go.Value.bool false))])))))
 False)
 False))))))
 False)
 False))))
 False)
 False)
 (bcase (n8 != 0)
 (bcase (n3 == n8)
 (bcase (n5 == n8)
 (bcase (if Bool.false = Bool.true then !(n1 == 0 && (n2 == 0 && Bool.true)) else n1 == 0 && (n2 == 0 && Bool.true))
 (bcase (n4 == 0)
 (k [(D.val (Go.Value.bool true))])
 (k [(D.val (Go.Value.bool false))]))
 (k [(D.val (Go.Value.bool false))]))
 (k [(D.val (Go.Value.bool false))]))
 (k [(D.val (Go.Value.bool false))]))
 (bcase (decide (0 + n * 4 ≤ List.length l))
 (bcase (decide (0 + m * 1 ≤ List.length q))
 (∃ n9 : Int,
 (∃ n10 : Int,
 (((Says C 24 [(D.agg [(D.val (Go.Value.int Go.IntKind.i64 (a))), (D.val (Go.Value.int Go.IntKind.i64 (b))), (D.val (Go.Value.int Go.IntKind.i64 (c))), (D.val (Go.Value.int Go.IntKind.i64 (d))), (D.val (Go.Value.int Go.IntKind.i64 (e))), (D.val (Go.Value.int Go.IntKind.i64 (f))), (D.val (Go.Value.int Go.IntKind.i64 (g))), (D.val (Go.Value.int Go.IntKind.i64 (h))), (D.val (Go.Value.int Go.IntKind.i64 (i)))]), (D.sl (n) 4 (List.take (n * 4) (List.drop 0 l))), (D.sl (m) 1 (List.take (m * 1) (List.drop 0 q)))] [(D.agg [(D.val (Go.Value.int Go.IntKind.i64 (n9))), (D.val (Go.Value.int Go.IntKind.i64 (n10)))]), (D.val (Go.Value.bool true))]) ∧
 (bcase (n5 != 0)
 (k [(D.val (Go.Value.bool false))])
 (bcase (decide (0 + n * 4 ≤ List.length l))
 (bcase (decide (0 + m * 1 ≤ List.length q))
 (∃ n11 : Int,
 ((Says C 25 [(D.agg [(D.val (Go.Value.int Go.IntKind.i64 (a))), (D.val (Go.Value.int Go.IntKind.i64 (b))), (D.val (Go.Value.int Go.IntKind.i64 (c))), (D.val (Go.Value.int Go.IntKind.i64 (d))), (D.val (Go.Value.int Go.IntKind.i64 (e))), (D.val (Go.Value.int Go.IntKind.i64 (f))), (D.val (Go.Value.int Go.IntKind.i64 (g))), (D.val (Go.Value.int Go.IntKind.i64 (h))), (D.val (Go.Value.int Go.IntKind.i64 (i)))]), (D.sl (n) 4 (List.take (n * 4) (List.drop 0 l))), (D.sl (m) 1 (List.take (m * 1) (List.drop 0 q)))] [(D.val (Go.Value.int Go.IntKind.i64 (n11)))]) ∧
 (bcase (n4 != n11)
 (k [(D.val (Go.Value.bool false))])
 (bcase (n3 == 0)
 (bcase (if Bool.false = Bool.true then !(n1 == n9 && (n2 == n10 && Bool.true)) else n1 == n9 && (n2 == n10 && Bool.true))
 (k [(D.val (Go.Value.bool true))])
 (k [(D.val (Go.Value.bool false))]))
 (k [(D.val (Go.Value.bool false))])))))
 False)
 False))) ∨
 ((Says C 24 [(D.agg [(D.val (Go.Value.int Go.IntKind.i64 (a))), (D.val (Go.Value.int Go.IntKind.i64 (b))), (D.val (Go.Value.int Go.IntKind.i64 (c))), (D.val (Go.Value.int Go.IntKind.i64 (d))), (D.val (Go.Value.int Go.IntKind.i64 (e))), (D.val (Go.Value.int Go.IntKind.i64 (f))), (D.val (Go.Value.int Go.IntKind.i64 (g))), (D.val (Go.Value.int Go.IntKind.i64 (h))), (D.val (Go.Value.int Go.IntKind.i64 (i)))]), (D.sl (n) 4 (List.take (n * 4) (List.drop 0 l))), (D.sl (m) 1 (List.take (m * 1) (List.drop 0 q)))] [(D.agg [(D.val (Go.Value.int Go.IntKind.i64 (n9))), (D.val (Go.Value.int Go.IntKind.i64 (n10)))]), (D.val (Go.Value.bool false))]) ∧
 (bcase (n5 != 0)
 (k [(D.val (Go.Value.bool false))])
 (bcase (decide (0 + n * 4 ≤ List.length l))
 (bcase (decide (0 + m * 1 ≤ List.length q))
 (∃ n11 : Int,
 ((Says C 25 [(D.agg [(D.val (Go.Value.int Go.IntKind.i64 (a))), (D.val (Go.Value.int Go.IntKind.i64 (b))), (D.val (Go.Value.int Go.IntKind.i64 (c))), (D.val (Go.Value.int Go.IntKind.i64 (d))), (D.val (Go.Value.int Go.IntKind.i64 (e))), (D.val (Go.Value.int Go.IntKind.i64 (f))), (D.val (Go.Value.int Go.IntKind.i64 (g))), (D.val (Go.Value.int Go.IntKind.i64 (h))), (D.val (Go.Value.int Go.IntKind.i64 (i)))]), (D.sl (n) 4 (List.take (n * 4) (List.drop 0 l))), (D.sl (m) 1 (List.take (m * 1) (List.drop 0 q)))] [(D.val (Go.Value.int Go.IntKind.i64 (n11)))]) ∧
 (bcase (n4 != n11)
 (k [(D.val (Go.Value.bool false))])
 (bcase (n3 == 12)
 (bcase (if Bool.false = Bool.true then !(n1 == 0 && (n2 == 0 && Bool.true)) else n1 == 0 && (n2 == 0 && Bool.true))
 (k [(D.val (Go.Value.bool true))])
 (k [(D.val (Go.Value.bool false))]))
 (k [(D.val (Go.Value.bool false))])))))
 False)
 False))))))
 False)
 False)))))
 False))))))))))))
 False)
 False)))
 False)))
 False)))))))))
 False)
 False)))
 False)))
 False)))
 (k [(D.val (Go.Value.bool true))]))) ∨
 ((Says C 6 [] [(D.val (Go.Value.bool false))]) ∧
 (k [(D.val (Go.Value.bool false))]))) := by kernel_rfl
def g5a (C : Ct) (L : AtLoop) (a b c d e f g h i : Int) (m cap2 : Nat) (q : List Value) (k : List D → Prop) : Prop := wpFn Tryz.prog (hL C) L 0 5 #[vRu a b c d e f g h i, .slice none 0 0, S500 m cap2] (heapOf [Q500 q]) (dataK k)
theorem g5a_text (C : Ct) (L : AtLoop) (a : Int) (b : Int) (c : Int) (d : Int) (e : Int) (f : Int) (g : Int) (h : Int) (i : Int) (m : Nat) (cap2 : Nat) (q : List Go.Value) (k : List D → Prop) : g5a C L a b c d e f g h i m cap2 q k =
 (((Says C 6 [] [(D.val (Go.Value.bool true))]) ∧
 (bcase (decide ((↑m : Int) > 10))
 (k [(D.val (Go.Value.bool true))])
 (((((Go.Value.pointer (Option.some (Go.Addr.mk 1001 0 Option.none))) = (Go.Value.pointer (Option.some (Go.Addr.mk 1001 0 Option.none)))) ∧
 ((Option.some (AObj.cells [(Go.Value.int Go.IntKind.i64 (0 : Int)), (Go.Value.int Go.IntKind.i64 (0 : Int))] 47 false 2)) = (Option.some (AObj.cells [(Go.Value.int Go.IntKind.i64 (0 : Int)), (Go.Value.int Go.IntKind.i64 (0 : Int))] 47 false 2)))) ∧
 (((Go.Value.slice (Option.some (Go.Addr.mk 500 0 Option.none)) (m) (cap2)) = (Go.Value.slice (Option.some (Go.Addr.mk 500 0 Option.none)) (m) (cap2))) ∧
 (((Go.Value.slice Option.none 0 0) = (Go.Value.slice Option.none 0 0)) ∧
 (((Go.Value.agg [(Go.Value.int Go.IntKind.i64 (a)), (Go.Value.int Go.IntKind.i64 (b)), (Go.Value.int Go.IntKind.i64 (c)), (Go.Value.int Go.IntKind.i64 (d)), (Go.Value.int Go.IntKind.i64 (e)), (Go.Value.int Go.IntKind.i64 (f)), (Go.Value.int Go.IntKind.i64 (g)), (Go.Value.int Go.IntKind.i64 (h)), (Go.Value.int Go.IntKind.i64 (i))].toArray) = (Go.Value.agg [(Go.Value.int Go.IntKind.i64 (a)), (Go.Value.int Go.IntKind.i64 (b)), (Go.Value.int Go.IntKind.i64 (c)), (Go.Value.int Go.IntKind.i64 (d)), (Go.Value.int Go.IntKind.i64 (e)), (Go.Value.int Go.IntKind.i64 (f)), (Go.Value.int Go.IntKind.i64 (g)), (Go.Value.int Go.IntKind.i64 (h)), (Go.Value.int Go.IntKind.i64 (i))].toArray)) ∧
 True)))) ∧
 ((Says C 17 [D.nil] [(D.sl 0 4 [])]) ∧
 (((((Go.Value.pointer (Option.some (Go.Addr.mk 1001 0 Option.none))) = (Go.Value.pointer (Option.some (Go.Addr.mk 1001 0 Option.none)))) ∧
 ((Option.some (AObj.cells [(Go.Value.int Go.IntKind.i64 (0 : Int)), (Go.Value.int Go.IntKind.i64 (0 : Int))] 47 false 2)) = (Option.some (AObj.cells [(Go.Value.int Go.IntKind.i64 (0 : Int)), (Go.Value.int Go.IntKind.i64 (0 : Int))] 47 false 2)))) ∧
 (((Go.Value.slice (Option.some (Go.Addr.mk 500 0 Option.none)) (m) (cap2)) = (Go.Value.slice (Option.some (Go.Addr.mk 500 0 Option.none)) (m) (cap2))) ∧
 (((Go.Value.agg [(Go.Value.int Go.IntKind.i64 (a)), (Go.Value.int Go.IntKind.i64 (b)), (Go.Value.int Go.IntKind.i64 (c)), (Go.Value.int Go.IntKind.i64 (d)), (Go.Value.int Go.IntKind.i64 (e)), (Go.Value.int Go.IntKind.i64 (f)), (Go.Value.int Go.IntKind.i64 (g)), (Go.Value.int Go.IntKind.i64 (h)), (Go.Value.int Go.IntKind.i64 (i))].toArray) = (Go.Value.agg [(Go.Value.int Go.IntKind.i64 (a)), (Go.Value.int Go.IntKind.i64 (b)), (Go.Value.int Go.IntKind.i64 (c)), (Go.Value.int Go.IntKind.i64 (d)), (Go.Value.int Go.IntKind.i64 (e)), (Go.Value.int Go.IntKind.i64 (f)), (Go.Value.int Go.IntKind.i64 (g)), (Go.Value.int Go.IntKind.i64 (h)), (Go.Value.int Go.IntKind.i64 (i))].toArray)) ∧
 True))) ∧
 (bcase (decide (0 + m * 1 ≤ List.length q))
 ((Says C 18 [(D.sl (m) 1 (List.take (m * 1) (List.drop 0 q)))] [(D.sl (m) 1 (List.take (m * 1) (List.drop 0 q)))]) ∧
 (((((Go.Value.pointer (Option.some (Go.Addr.mk 1001 0 Option.none))) = (Go.Value.pointer (Option.some (Go.Addr.mk 1001 0 Option.none)))) ∧
 ((Option.some (AObj.cells [(Go.Value.int Go.IntKind.i64 (0 : Int)), (Go.Value.int Go.IntKind.i64 (0 : Int))] 47 false 2)) = (Option.some (AObj.cells [(Go.Value.int Go.IntKind.i64 (0 : Int)), (Go.Value.int Go.IntKind.i64 (0 : Int))] 47 false 2)))) ∧
 (((Go.Value.agg [(Go.Value.int Go.IntKind.i64 (a)), (Go.Value.int Go.IntKind.i64 (b)), (Go.Value.int Go.IntKind.i64 (c)), (Go.Value.int Go.IntKind.i64 (d)), (Go.Value.int Go.IntKind.i64 (e)), (Go.Value.int Go.IntKind.i64 (f)), (Go.Value.int Go.IntKind.i64 (g)), (Go.Value.int Go.IntKind.i64 (h)), (Go.Value.int Go.IntKind.i64 (i))].toArray) = (Go.Value.agg [(Go.Value.int Go.IntKind.i64 (a)), (Go.Value.int Go.IntKind.i64 (b)), (Go.Value.int Go.IntKind.i64 (c)), (Go.Value.int Go.IntKind.i64 (d)), (Go.Value.int Go.IntKind.i64 (e)), (Go.Value.int Go.IntKind.i64 (f)), (Go.Value.int Go.IntKind.i64 (g)), (Go.Value.int Go.IntKind.i64 (h)), (Go.Value.int Go.IntKind.i64 (i))].toArray)) ∧
 True)) ∧
 (bcase (decide (0 + m * 1 ≤ List.length (List.take (m * 1) (List.drop 0 q))))
 (∃ n1 : Int,
 (∃ n2 : Int,
 (∃ n3 : Int,
 ((Says C 16 [(D.agg [(D.val (Go.Value.int Go.IntKind.i64 (a))), (D.val (Go.Value.int Go.IntKind.i64 (b))), (D.val (Go.Value.int Go.IntKind.i64 (c))), (D.val (Go.Value.int Go.IntKind.i64 (d))), (D.val (Go.Value.int Go.IntKind.i64 (e))), (D.val (Go.Value.int Go.IntKind.i64 (f))), (D.val (Go.Value.int Go.IntKind.i64 (g))), (D.val (Go.Value.int Go.IntKind.i64 (h))), (D.val (Go.Value.int Go.IntKind.i64 (i)))]), (D.sl 0 4 []), (D.sl (m) 1 (List.take (m * 1) (List.drop 0 (List.take (m * 1) (List.drop 0 q)))))] [(D.agg [(D.val (Go.Value.int Go.IntKind.i64 (n1))), (D.val (Go.Value.int Go.IntKind.i64 (n2)))]), (D.val (Go.Value.int Go.IntKind.i64 (n3)))]) ∧
 ((((Go.Value.int Go.IntKind.i64 (n3)) = (Go.Value.int Go.IntKind.i64 (n3))) ∧
 (((Go.Value.agg [(Go.Value.int Go.IntKind.i64 (n1)), (Go.Value.int Go.IntKind.i64 (n2))].toArray) = (Go.Value.agg [(Go.Value.int Go.IntKind.i64 (n1)), (Go.Value.int Go.IntKind.i64 (n2))].toArray)) ∧
 (((Go.Value.tuple [(Go.Value.agg [(Go.Value.int Go.IntKind.i64 (n1)), (Go.Value.int Go.IntKind.i64 (n2))].toArray), (Go.Value.int Go.IntKind.i64 (n3))].toArray) = (Go.Value.tuple [(Go.Value.agg [(Go.Value.int Go.IntKind.i64 (n1)), (Go.Value.int Go.IntKind.i64 (n2))].toArray), (Go.Value.int Go.IntKind.i64 (n3))].toArray)) ∧
 ((((Go.Value.pointer (Option.some (Go.Addr.mk 1001 0 Option.none))) = (Go.Value.pointer (Option.some (Go.Addr.mk 1001 0 Option.none)))) ∧
 ((Option.some (AObj.cells [(Go.Value.int Go.IntKind.i64 (0 : Int)), (Go.Value.int Go.IntKind.i64 (0 : Int))] 47 false 2)) = (Option.some (AObj.cells [(Go.Value.int Go.IntKind.i64 (0 : Int)), (Go.Value.int Go.IntKind.i64 (0 : Int))] 47 false 2)))) ∧
 True)))) ∧
 ((((Go.Value.int Go.IntKind.i64 (n3)) = (Go.Value.int Go.IntKind.i64 (n3))) ∧
 True) ∧
 (True ∧
 ((((Go.Value.slice (Option.some (Go.Addr.mk 500 0 Option.none)) (m) (cap2)) = (Go.Value.slice (Option.some (Go.Addr.mk 500 0 Option.none)) (m) (cap2))) ∧
 (((Go.Value.slice Option.none 0 0) = (Go.Value.slice Option.none 0 0)) ∧
 (((Go.Value.agg [(Go.Value.int Go.IntKind.i64 (a)), (Go.Value.int Go.IntKind.i64 (b)), (Go.Value.int Go.IntKind.i64 (c)), (Go.Value.int Go.IntKind.i64 (d)), (Go.Value.int Go.IntKind.i64 (e)), (Go.Value.int Go.IntKind.i64 (f)), (Go.Value.int Go.IntKind.i64 (g)), (Go.Value.int Go.IntKind.i64 (h)), (Go.Value.int Go.IntKind.i64 (i))].toArray) = (Go.Value.agg [(Go.Value.int Go.IntKind.i64 (a)), (Go.Value.int Go.IntKind.i64 (b)), (Go.Value.int Go.IntKind.i64 (c)), (Go.Value.int Go.IntKind.i64 (d)), (Go.Value.int Go.IntKind.i64 (e)), (Go.Value.int Go.IntKind.i64 (f)), (Go.Value.int Go.IntKind.i64 (g)), (Go.Value.int Go.IntKind.i64 (h)), (Go.Value.int Go.IntKind.i64 (i))].toArray)) ∧
 True))) ∧
 ((Says C 17 [D.nil] [(D.sl 0 4 [])]) ∧
 ((((Go.Value.slice (Option.some (Go.Addr.mk 500 0 Option.none)) (m) (cap2)) = (Go.Value.slice (Option.some (Go.Addr.mk 500 0 Option.none)) (m) (cap2))) ∧
 (((Go.Value.agg [(Go.Value.int Go.IntKind.i64 (a)), (Go.Value.int Go.IntKind.i64 (b)), (Go.Value.int Go.IntKind.i64 (c)), (Go.Value.int Go.IntKind.i64 (d)), (Go.Value.int Go.IntKind.i64 (e)), (Go.Value.int Go.IntKind.i64 (f)), (Go.Value.int Go.IntKind.i64 (g)), (Go.Value.int Go.IntKind.i64 (h)), (Go.Value.int Go.IntKind.i64 (i))].toArray) = (Go.Value.agg [(Go.Value.int Go.IntKind.i64 (a)), (Go.Value.int Go.IntKind.i64 (b)), (Go.Value.int Go.IntKind.i64 (c)), (Go.Value.int Go.IntKind.i64 (d)), (Go.Value.int Go.IntKind.i64 (e)), (Go.Value.int Go.IntKind.i64 (f)), (Go.Value.int Go.IntKind.i64 (g)), (Go.Value.int Go.IntKind.i64 (h)), (Go.Value.int Go.IntKind.i64 (i))].toArray)) ∧
 True)) ∧
 (bcase (decide (0 + m * 1 ≤ List.length q))
 ((Says C 18 [(D.sl (m) 1 (List.take (m * 1) (List.drop 0 q)))] [(D.sl (m) 1 (List.take (m * 1) (List.drop 0 q)))]) ∧
 ((((Go.Value.agg [(Go.Value.int Go.IntKind.i64 (a)), (Go.Value.int Go.IntKind.i64 (b)), (Go.Value.int Go.IntKind.i64 (c)), (Go.Value.int Go.IntKind.i64 (d)), (Go.Value.int Go.IntKind.i64 (e)), (Go.Value.int Go.IntKind.i64 (f)), (Go.Value.int Go.IntKind.i64 (g)), (Go.Value.int Go.IntKind.i64 (h)), (Go.Value.int Go.IntKind.i64 (i))].toArray) = (Go.Value.agg [(Go.Value.int Go.IntKind.i64 (a)), (Go.Value.int Go.IntKind.i64 (b)), (Go.Value.int Go.IntKind.i64 (c)), (Go.Value.int Go.IntKind.i64 (d)), (Go.Value.int Go.IntKind.i64 (e)), (Go.Value.int Go.IntKind.i64 (f)), (Go.Value.int Go.IntKind.i64 (g)), (Go.Value.int Go.IntKind.i64 (h)), (Go.Value.int Go.IntKind.i64 (i))].toArray)) ∧
 True) ∧
 (bcase (decide (0 + m * 1 ≤ List.length (List.take (m * 1) (List.drop 0 q))))
 (∃ n4 : Int,
 (∃ n5 : Int,
 ((Says C 19 [(D.agg [(D.val (Go.Value.int Go.IntKind.i64 (a))), (D.val (Go.Value.int Go.IntKind.i64 (b))), (D.val (Go.Value.int Go.IntKind.i64 (c))), (D.val (Go.Value.int Go.IntKind.i64 (d))), (D.val (Go.Value.int Go.IntKind.i64 (e))), (D.val (Go.Value.int Go.IntKind.i64 (f))), (D.val (Go.Value.int Go.IntKind.i64 (g))), (D.val (Go.Value.int Go.IntKind.i64 (h))), (D.val (Go.Value.int Go.IntKind.i64 (i)))]), (D.sl 0 4 []), (D.sl (m) 1 (List.take (m * 1) (List.drop 0 (List.take (m * 1) (List.drop 0 q)))))] [(D.val (Go.Value.int Go.IntKind.i64 (n4))), (D.val (Go.Value.int Go.IntKind.i64 (n5)))]) ∧
 ((((Go.Value.int Go.IntKind.i64 (n5)) = (Go.Value.int Go.IntKind.i64 (n5))) ∧
 (((Go.Value.int Go.IntKind.i64 (n4)) = (Go.Value.int Go.IntKind.i64 (n4))) ∧
 (((Go.Value.tuple [(Go.Value.int Go.IntKind.i64 (n4)), (Go.Value.int Go.IntKind.i64 (n5))].toArray) = (Go.Value.tuple [(Go.Value.int Go.IntKind.i64 (n4)), (Go.Value.int Go.IntKind.i64 (n5))].toArray)) ∧
 True))) ∧
 ((((Go.Value.int Go.IntKind.i64 (n5)) = (Go.Value.int Go.IntKind.i64 (n5))) ∧
 True) ∧
 (True ∧
 (∃ n6 : Int,
 ((Says C 20 [(D.agg [(D.val (Go.Value.int Go.IntKind.i64 (a))), (D.val (Go.Value.int Go.IntKind.i64 (b))), (D.val (Go.Value.int Go.IntKind.i64 (c))), (D.val (Go.Value.int Go.IntKind.i64 (d))), (D.val (Go.Value.int Go.IntKind.i64 (e))), (D.val (Go.Value.int Go.IntKind.i64 (f))), (D.val (Go.Value.int Go.IntKind.i64 (g))), (D.val (Go.Value.int Go.IntKind.i64 (h))), (D.val (Go.Value.int Go.IntKind.i64 (i)))])] [(D.val (Go.Value.int Go.IntKind.i64 (n6)))]) ∧
 (∃ n7 : Int,
 ((Says C 21 [(D.agg [(D.val (Go.Value.int Go.IntKind.i64 (a))), (D.val (Go.Value.int Go.IntKind.i64 (b))), (D.val (Go.Value.int Go.IntKind.i64 (c))), (D.val (Go.Value.int Go.IntKind.i64 (d))), (D.val (Go.Value.int Go.IntKind.i64 (e))), (D.val (Go.Value.int Go.IntKind.i64 (f))), (D.val (Go.Value.int Go.IntKind.i64 (g))), (D.val (Go.Value.int Go.IntKind.i64 (h))), (D.val (Go.Value.int Go.IntKind.i64 (i)))])] [(D.val (Go.Value.int Go.IntKind.i64 (n7)))]) ∧
 (bcase (n7 != n6)
 (k [(D.val (Go.Value.bool false))])
 (∃ n8 : Int,
 ((Says C 22 [(D.agg [(D.val (Go.Value.int Go.IntKind.i64 (a))), (D.val (Go.Value.int Go.IntKind.i64 (b))), (D.val (Go.Value.int Go.IntKind.i64 (c))), (D.val (Go.Value.int Go.IntKind.i64 (d))), (D.val (Go.Value.int Go.IntKind.i64 (e))), (D.val (Go.Value.int Go.IntKind.i64 (f))), (D.val (Go.Value.int Go.IntKind.i64 (g))), (D.val (Go.Value.int Go.IntKind.i64 (h))), (D.val (Go.Value.int Go.IntKind.i64 (i)))]), D.nil] [(D.val (Go.Value.int Go.IntKind.i64 (n8)))]) ∧
 (bcase (n8 == 0)
 (bcase (decide (0 + m * 1 ≤ List.length q))
 (∃ n9 : Int,
 ((Says C 23 [D.nil, (D.sl (m) 1 (List.take (m * 1) (List.drop 0 q)))] [(D.val (Go.Value.int Go.IntKind.i64 (n9)))]) ∧
 (bcase (n9 != 0)
 (bcase (n3 == n9)
 (bcase (n5 == n9)
 (bcase (if Bool.false = Bool.true then !(n1 == 0 && (n2 == 0 && Bool.true)) else n1 == 0 && (n2 == 0 && Bool.true))
 (bcase (n4 == 0)
 (k [(D.val (Go.Value.bool true))])
 (k [(D.val (Go.Value.bool false))]))
 (k [(D.val (Go.Value.bool false))]))
 (k [(D.val (Go.Value.bool false))]))
 (k [(D.val (Go.Value.bool false))]))
 (bcase (decide (0 + m * 1 ≤ List.length q))
 (∃ n10 : Int,
 (∃ n11 : Int,
 (((Says C 24 [(D.agg [(D.val (Go.Value.int Go.IntKind.i64 (a))), (D.val (Go.Value.int Go.IntKind.i64 (b))), (D.val (Go.Value.int Go.IntKind.i64 (c))), (D.val (Go.Value.int Go.IntKind.i64 (d))), (D.val (Go.Value.int Go.IntKind.i64 (e))), (D.val (Go.Value.int Go.IntKind.i64 (f))), (D.val (Go.Value.int Go.IntKind.i64 (g))), (D.val (Go.Value.int Go.IntKind.i64 (h))), (D.val (Go.Value.int Go.IntKind.i64 (i)))]), D.nil, (D.sl (m) 1 (List.take (m * 1) (List.drop 0 q)))] [(D.agg [(D.val (Go.Value.int Go.IntKind.i64 (n10))), (D.val (Go.Value.int Go.IntKind.i64 (n11)))]), (D.val (Go.Value.bool true))]) ∧
 (bcase (n5 != 0)
 (k [(D.val (Go.Value.bool false))])
 (bcase (decide (0 + m * 1 ≤ List.length q))
 (∃ n12 : Int,
 ((Says C 25 [(D.agg [(D.val (Go.Value.int Go.IntKind.i64 (a))), (D.val (Go.Value.int Go.IntKind.i64 (b))), (D.val (Go.Value.int Go.IntKind.i64 (c))), (D.val (Go.Value.int Go.IntKind.i64 (d))), (D.val (Go.Value.int Go.IntKind.i64 (e))), (D.val (Go.Value.int Go.IntKind.i64 (f))), (D.val (Go.Value.int Go.IntKind.i64 (g))), (D.val (Go.Value.int Go.IntKind.i64 (h))), (D.val (Go.Value.int Go.IntKind.i64 (i)))]), D.nil, (D.sl (m) 1 (List.take (m * 1) (List.drop 0 q)))] [(D.val (Go.Value.int Go.IntKind.i64 (n12)))]) ∧
 (bcase (n4 != n12)
 (k [(D.val (Go.Value.bool false))])
 (bcase (n3 == 0)
 (bcase (if Bool.false = Bool.true then !(n1 == n10 && (n2 == n11 && Bool.true)) else n1 == n10 && (n2 == n11 && Bool.true))
 (k [(D.val (Go.Value.bool true))])
 (k [(D.val (Go.Value.bool false))]))
 (k [(D.val (Go.Value.bool false))])))))
 False))) ∨
 ((Says C 24 [(D.agg [(D.val (Go.Value.int Go.IntKind.i64 (a))), (D.val (Go.Value.int Go.IntKind.i64 (b))), (D.val (Go.Value.int Go.IntKind.i64 (c))), (D.val (Go.Value.int Go.IntKind.i64 (d))), (D.val (Go.Value.int Go.IntKind.i64 (e))), (D.val (Go.Value.int Go.IntKind.i64 (f))), (D.val (Go.Value.int Go.IntKind.i64 (g))), (D.val (Go.Value.int Go.IntKind.i64 (h))), (D.val (Go.Value.int Go.IntKind.i64 (i)))]), D.nil, (D.sl (m) 1 (List.take (m * 1) (List.drop 0 q)))] [(D.agg [(D.val (Go.Value.int Go.IntKind.i64 (n10))), (D.val (Go.Value.int Go.IntKind.i64 (n11)))]), (D.val (Go.Value.bool false))]) ∧
 (bcase (n5 != 0)
 (k [(D.val (Go.Value.bool false))])
 (bcase (decide (0 + m * 1 ≤ List.length q))
 (∃ n12 : Int,
 ((Says C 25 [(D.agg [(D.val (Go.Value.int Go.IntKind.i64 (a))), (D.val (Go.Value.int Go.IntKind.i64 (b))), (D.val (Go.Value.int Go.IntKind.i64 (c))), (D.val (Go.Value.int Go.IntKind.i64 (d))), (D.val (Go.Value.int Go.IntKind.i64 (e))), (D.val (Go.Value.int Go.IntKind.i64 (f))), (D.val (Go.Value.int Go.IntKind.i64 (g))), (D.val (Go.Value.int Go.IntKind.i64 (h))), (D.val (Go.Value.int Go.IntKind.i64 (i)))]), D.nil, (D.sl (m) 1 (List.take (m * 1) (List.drop 0 q)))] [(D.val (Go.Value.int Go.IntKind.i64 (n12)))]) ∧
 (bcase (n4 != n12)
 (k [(D.val (Go.Value.bool false))])
 (bcase (n3 == 12)
 (bcase (if Bool.false = Bool.true then !(n1 == 0 && (n2 == 0 && Bool.true)) else n1 == 0 && (n2 == 0 && Bool.true))
 (k [(D.val (Go.Value.bool true))])
 (k [(D.val (Go.Value.bool false))]))
 (k [(D.val (Go.Value.bool false))])))))
 False))))))
 False))))
 False)
 (bcase (n8 != 0)
 (bcase (n3 == n8)
 (bcase (n5 == n8)
 (bcase (if Bool.false = Bool.true then !(n1 == 0 && (n2 == 0 && Bool.true)) else n1 == 0 && (n2 == 0 && Bool.true))
 (bcase (n4 == 0)
 (k [(D.val (Go.Value.bool true))])
 (k [(D.val (Go.Value.bool false))]))
 (k [(D.val (Go.Value.bool false))]))
 (k [(D.val (Go.Value.bool false))]))
 (k [(D.val (Go.Value.bool false))]))
 (bcase (decide (0 + m * 1 ≤ List.length q))
 (∃ n9 : Int,
 (∃ n10 : Int,
 (((Says C 24 [(D.agg [(D.val (Go.Value.int Go.IntKind.i64 (a))), (D.val (Go.Value.int Go.IntKind.i64 (b))), (D.val (Go.Value.int Go.IntKind.i64 (c))), (D.val (Go.Value.int Go.IntKind.i64 (d))), (D.val (Go.Value.int Go.IntKind.i64 (e))), (D.val (Go.Value.int Go.IntKind.i64 (f))), (D.val (Go.Value.int Go.IntKind.i64 (g))), (D.val (Go.Value.int Go.IntKind.i64 (h))), (D.val (Go.Value.int Go.IntKind.i64 (i)))]), D.nil, (D.sl (m) 1 (List.take (m * 1) (List.drop 0 q)))] [(D.agg [(D.val (Go.Value.int Go.IntKind.i64 (n9))), (D.val (Go.Value.int Go.IntKind.i64 (n10)))]), (D.val (Go.Value.bool true))]) ∧
 (bcase (n5 != 0)
 (k [(D.val (Go.Value.bool false))])
 (bcase (decide (0 + m * 1 ≤ List.length q))
 (∃ n11 : Int,
 ((Says C 25 [(D.agg [(D.val (Go.Value.int Go.IntKind.i64 (a))), (D.val (Go.Value.int Go.IntKind.i64 (b))), (D.val (Go.Value.int Go.IntKind.i64 (c))), (D.val (Go.Value.int Go.IntKind.i64 (d))), (D.val (Go.Value.int Go.IntKind.i64 (e))), (D.val (Go.Value.int Go.IntKind.i64 (f))), (D.val (Go.Value.int Go.IntKind.i64 (g))), (D.val (Go.Value.int Go.IntKind.i64 (h))), (D.val (Go.Value.int Go.IntKind.i64 (i)))]), D.nil, (D.sl (m) 1 (List.take (m * 1) (List.drop 0 q)))] [(D.val (Go.Value.int Go.IntKind.i64 (n11)))]) ∧
 (bcase (n4 != n11)
 (k [(D.val (Go.Value.bool false))])
 (bcase (n3 == 0)
 (bcase (if Bool.false = Bool.true then !(n1 == n9 && (n2 == n10 && Bool.true)) else n1 == n9 && (n2 == n10 && Bool.true))
 (k [(D.val (Go.Value.bool true))])
 (k [(D.val (Go.Value.bool false))]))
 (k [(D.val (Go.Value.bool false))])))))
 False))) ∨
 ((Says C 24 [(D.agg [(D.val (Go.Value.int Go.IntKind.i64 (a))), (D.val (Go.Value.int Go.IntKind.i64 (b))), (D.val (Go.Value.int Go.IntKind.i64 (c))), (D.val (Go.Value.int Go.IntKind.i64 (d))), (D.val (Go.Value.int Go.IntKind.i64 (e))), (D.val (Go.Value.int Go.IntKind.i64 (f))), (D.val (Go.Value.int Go.IntKind.i64 (g))), (D.val (Go.Value.int Go.IntKind.i64 (h))), (D.val (Go.Value.int Go.IntKind.i64 (i)))]), D.nil, (D.sl (m) 1 (List.take (m * 1) (List.drop 0 q)))] [(D.agg [(D.val (Go.Value.int Go.IntKind.i64 (n9))), (D.val (Go.Value.int Go.IntKind.i64 (n10)))]), (D.val (Go.Value.bool false))]) ∧
 (bcase (n5 != 0)
 (k [(D.val (Go.Value.bool false))])
 (bcase (decide (0 + m * 1 ≤ List.length q))
 (∃ n11 : Int,
 ((Says C 25 [(D.agg [(D.val (Go.Value.int Go.IntKind.i64 (a))), (D.val (Go.Value.int Go.IntKind.i64 (b))), (D.val (Go.Value.int Go.IntKind.i64 (c))), (D.val (Go.Value.int Go.IntKind.i64 (d))), (D.val (Go.Value.int Go.IntKind.i64 (e))), (D.val (Go.Value.int Go.IntKind.i64 (f))), (D.val (Go.Value.int Go.IntKind.i64 (g))), (D.val (Go.Value.int Go.IntKind.i64 (h))), (D.val (Go.Value.int Go.IntKind.i64 (i)))]), D.nil, (D.sl (m) 1 (List.take (m * 1) (List.drop 0 q)))] [(D.val (Go.Value.int Go.IntKind.i64 (n11)))]) ∧
 (bcase (n4 != n11)
 (k [(D.val (Go.Value.bool false))])
 (bcase (n3 == 12)
 (bcase (if Bool.false = Bool.true then !(n1 == 0 && (n2 == 0 && Bool.true)) else n1 == 0 && (n2 == 0 && Bool.true))
 (k [(D.val (Go.Value.bool true))])
 (k [(D.val (Go.Value.bool false))]))
 (k [(D.val (Go.Value.bool false))])))))
 False))))))
 False))))))))))))))))
 False)))
 False)))))))))))
 False)))
 False)))))) ∨
 ((Says C 6 [] [(D.val (Go.Value.bool false))]) ∧
 (k [(D.val (Go.Value.bool false))]))) := by kernel_rfl
def g5b (C : Ct) (L : AtLoop) (a b c d e f g h i : Int) (n cap : Nat) (l : List Value) (k : List D → Prop) : Prop := wpFn Tryz.prog (hL C) L 0 5 #[vRu a b c d e f g h i, S500 n cap, .slice none 0 0] (heapOf [I500 l]) (dataK k)
theorem g5b_text (C : Ct) (L : AtLoop) (a : Int) (b : Int) (c : Int) (d : Int) (e : Int) (f : Int) (g : Int) (h : Int) (i : Int) (n : Nat) (cap : Nat) (l : List Go.Value) (k : List D → Prop) : g5b C L a b c d e f g h i n cap l k =
 (((Says C 6 [] [(D.val (Go.Value.bool true))]) ∧
 (bcase (decide ((↑n : Int) ≤ 9))
 (((((Go.Value.pointer (Option.some (Go.Addr.mk 1001 0 Option.none))) = (Go.Value.pointer (Option.some (Go.Addr.mk 1001 0 Option.none)))) ∧
 ((Option.some (AObj.cells [(Go.Value.int Go.IntKind.i64 (0 : Int)), (Go.Value.int Go.IntKind.i64 (0 : Int))] 47 false 2)) = (Option.some (AObj.cells [(Go.Value.int Go.IntKind.i64 (0 : Int)), (Go.Value.int Go.IntKind.i64 (0 : Int))] 47 false 2)))) ∧
 (((Go.Value.slice Option.none 0 0) = (Go.Value.slice Option.none 0 0)) ∧
 (((Go.Value.slice (Option.some (Go.Addr.mk 500 0 Option.none)) (n) (cap)) = (Go.Value.slice (Option.some (Go.Addr.mk 500 0 Option.none)) (n) (cap))) ∧
 (((Go.Value.agg [(Go.Value.int Go.IntKind.i64 (a)), (Go.Value.int Go.IntKind.i64 (b)), (Go.Value.int Go.IntKind.i64 (c)), (Go.Value.int Go.IntKind.i64 (d)), (Go.Value.int Go.IntKind.i64 (e)), (Go.Value.int Go.IntKind.i64 (f)), (Go.Value.int Go.IntKind.i64 (g)), (Go.Value.int Go.IntKind.i64 (h)), (Go.Value.int Go.IntKind.i64 (i))].toArray) = (Go.Value.agg [(Go.Value.int Go.IntKind.i64 (a)), (Go.Value.int Go.IntKind.i64 (b)), (Go.Value.int Go.IntKind.i64 (c)), (Go.Value.int Go.IntKind.i64 (d)), (Go.Value.int Go.IntKind.i64 (e)), (Go.Value.int Go.IntKind.i64 (f)), (Go.Value.int Go.IntKind.i64 (g)), (Go.Value.int Go.IntKind.i64 (h)), (Go.Value.int Go.IntKind.i64 (i))].toArray)) ∧
 True)))) ∧
 (bcase (decide (0 + n * 4 ≤ List.length l))
 ((Says C 17 [(D.sl (n) 4 (List.take (n * 4) (List.drop 0 l)))] [(D.sl (n) 4 (List.take (n * 4) (List.drop 0 l)))]) ∧
 (((((Go.Value.pointer (Option.some (Go.Addr.mk 1001 0 Option.none))) = (Go.Value.pointer (Option.some (Go.Addr.mk 1001 0 Option.none)))) ∧
 ((Option.some (AObj.cells [(Go.Value.int Go.IntKind.i64 (0 : Int)), (Go.Value.int Go.IntKind.i64 (0 : Int))] 47 false 2)) = (Option.some (AObj.cells [(Go.Value.int Go.IntKind.i64 (0 : Int)), (Go.Value.int Go.IntKind.i64 (0 : Int))] 47 false 2)))) ∧
 (((Go.Value.slice Option.none 0 0) = (Go.Value.slice Option.none 0 0)) ∧
 (((Go.Value.agg [(Go.Value.int Go.IntKind.i64 (a)), (Go.Value.int Go.IntKind.i64 (b)), (Go.Value.int Go.IntKind.i64 (c)), (Go.Value.int Go.IntKind.i64 (d)), (Go.Value.int Go.IntKind.i64 (e)), (Go.Value.int Go.IntKind.i64 (f)), (Go.Value.int Go.IntKind.i64 (g)), (Go.Value.int Go.IntKind.i64 (h)), (Go.Value.int Go.IntKind.i64 (i))].toArray) = (Go.Value.agg [(Go.Value.int Go.IntKind.i64 (a)), (Go.Value.int Go.IntKind.i64 (b)), (Go.Value.int Go.IntKind.i64 (c)), (Go.Value.int Go.IntKind.i64 (d)), (Go.Value.int Go.IntKind.i64 (e)), (Go.Value.int Go.IntKind.i64 (f)), (Go.Value.int Go.IntKind.i64 (g)), (Go.Value.int Go.IntKind.i64 (h)), (Go.Value.int Go.IntKind.i64 (i))].toArray)) ∧
 True))) ∧
 ((Says C 18 [D.nil] [(D.sl 0 1 [])]) ∧
 (((((Go.Value.pointer (Option.some (Go.Addr.mk 1001 0 Option.none))) = (Go.Value.pointer (Option.some (Go.Addr.mk 1001 0 Option.none)))) ∧
 ((Option.some (AObj.cells [(Go.Value.int Go.IntKind.i64 (0 : Int)), (Go.Value.int Go.IntKind.i64 (0 : Int))] 47 false 2)) = (Option.some (AObj.cells [(Go.Value.int Go.IntKind.i64 (0 : Int)), (Go.Value.int Go.IntKind.i64 (0 : Int))] 47 false 2)))) ∧
 (((Go.Value.agg [(Go.Value.int Go.IntKind.i64 (a)), (Go.Value.int Go.IntKind.i64 (b)), (Go.Value.int Go.IntKind.i64 (c)), (Go.Value.int Go.IntKind.i64 (d)), (Go.Value.int Go.IntKind.i64 (e)), (Go.Value.int Go.IntKind.i64 (f)), (Go.Value.int Go.IntKind.i64 (g)), (Go.Value.int Go.IntKind.i64 (h)), (Go.Value.int Go.IntKind.i64 (i))].toArray) = (Go.Value.agg [(Go.Value.int Go.IntKind.i64 (a)), (Go.Value.int Go.IntKind.i64 (b)), (Go.Value.int Go.IntKind.i64 (c)), (Go.Value.int Go.IntKind.i64 (d)), (Go.Value.int Go.IntKind.i64 (e)), (Go.Value.int Go.IntKind.i64 (f)), (Go.Value.int Go.IntKind.i64 (g)), (Go.Value.int Go.IntKind.i64 (h)), (Go.Value.int Go.IntKind.i64 (i))].toArray)) ∧
 True)) ∧
 (bcase (decide (0 + n * 4 ≤ List.length (List.take (n * 4) (List.drop 0 l))))
 (∃ n1 : Int,
 (∃ n2 : Int,
 (∃ n3 : Int,
 ((Says C 16 [(D.agg [(D.val (Go.Value.int Go.IntKind.i64 (a))), (D.val (Go.Value.int Go.IntKind.i64 (b))), (D.val (Go.Value.int Go.IntKind.i64 (c))), (D.val (Go.Value.int Go.IntKind.i64 (d))), (D.val (Go.Value.int Go.IntKind.i64 (e))), (D.val (Go.Value.int Go.IntKind.i64 (f))), (D.val (Go.Value.int Go.IntKind.i64 (g))), (D.val (Go.Value.int Go.IntKind.i64 (h))), (D.val (Go.Value.int Go.IntKind.i64 (i)))]), (D.sl (n) 4 (List.take (n * 4) (List.drop 0 (List.take (n * 4) (List.drop 0 l))))), (D.sl 0 1 [])] [(D.agg [(D.val (Go.Value.int Go.IntKind.i64 (n1))), (D.val (Go.Value.int Go.IntKind.i64 (n2)))]), (D.val (Go.Value.int Go.IntKind.i64 (n3)))]) ∧
 ((((Go.Value.int Go.IntKind.i64 (n3)) = (Go.Value.int Go.IntKind.i64 (n3))) ∧
 (((Go.Value.agg [(Go.Value.int Go.IntKind.i64 (n1)), (Go.Value.int Go.IntKind.i64 (n2))].toArray) = (Go.Value.agg [(Go.Value.int Go.IntKind.i64 (n1)), (Go.Value.int Go.IntKind.i64 (n2))].toArray)) ∧
 (((Go.Value.tuple [(Go.Value.agg [(Go.Value.int Go.IntKind.i64 (n1)), (Go.Value.int Go.IntKind.i64 (n2))].toArray), (Go.Value.int Go.IntKind.i64 (n3))].toArray) = (Go.Value.tuple [(Go.Value.agg [(Go.Value.int Go.IntKind.i64 (n1)), (Go.Value.int Go.IntKind.i64 (n2))].toArray), (Go.Value.int Go.IntKind.i64 (n3))].toArray)) ∧
 ((((Go.Value.pointer (Option.some (Go.Addr.mk 1001 0 Option.none))) = (Go.Value.pointer (Option.some (Go.Addr.mk 1001 0 Option.none)))) ∧
 ((Option.some (AObj.cells [(Go.Value.int Go.IntKind.i64 (0 : Int)), (Go.Value.int Go.IntKind.i64 (0 : Int))] 47 false 2)) = (Option.some (AObj.cells [(Go.Value.int Go.IntKind.i64 (0 : Int)), (Go.Value.int Go.IntKind.i64 (0 : Int))] 47 false 2)))) ∧
 True)))) ∧
 ((((Go.Value.int Go.IntKind.i64 (n3)) = (Go.Value.int Go.IntKind.i64 (n3))) ∧
 True) ∧
 (True ∧
 ((((Go.Value.slice Option.none 0 0) = (Go.Value.slice Option.none 0 0)) ∧
 (((Go.Value.slice (Option.some (Go.Addr.mk 500 0 Option.none)) (n) (cap)) = (Go.Value.slice (Option.some (Go.Addr.mk 500 0 Option.none)) (n) (cap))) ∧
 (((Go.Value.agg [(Go.Value.int Go.IntKind.i64 (a)), (Go.Value.int Go.IntKind.i64 (b)), (Go.Value.int Go.IntKind.i64 (c)), (Go.Value.int Go.IntKind.i64 (d)), (Go.Value.int Go.IntKind.i64 (e)), (Go.Value.int Go.IntKind.i64 (f)), (Go.Value.int Go.IntKind.i64 (g)), (Go.Value.int Go.IntKind.i64 (h)), (Go.Value.int Go.IntKind.i64 (i))].toArray) = (Go.Value.agg [(Go.Value.int Go.IntKind.i64 (a)), (Go.Value.int Go.IntKind.i64 (b)), (Go.Value.int Go.IntKind.i64 (c)), (Go.Value.int Go.IntKind.i64 (d)), (Go.Value.int Go.IntKind.i64 (e)), (Go.Value.int Go.IntKind.i64 (f)), (Go.Value.int Go.IntKind.i64 (g)), (Go.Value.int Go.IntKind.i64 (h)), (Go.Value.int Go.IntKind.i64 (i))].toArray)) ∧
 True))) ∧
 (bcase (decide (0 + n * 4 ≤ List.length l))
 ((Says C 17 [(D.sl (n) 4 (List.take (n * 4) (List.drop 0 l)))] [(D.sl (n) 4 (List.take (n * 4) (List.drop 0 l)))]) ∧
 ((((Go.Value.slice Option.none 0 0) = (Go.Value.slice Option.none 0 0)) ∧
 (((Go.Value.agg [(Go.Value.int Go.IntKind.i64 (a)), (Go.Value.int Go.IntKind.i64 (b)), (Go.Value.int Go.IntKind.i64 (c)), (Go.Value.int Go.IntKind.i64 (d)), (Go.Value.int Go.IntKind.i64 (e)), (Go.Value.int Go.IntKind.i64 (f)), (Go.Value.int Go.IntKind.i64 (g)), (Go.Value.int Go.IntKind.i64 (h)), (Go.Value.int Go.IntKind.i64 (i))].toArray) = (Go.Value.agg [(Go.Value.int Go.IntKind.i64 (a)), (Go.Value.int Go.IntKind.i64 (b)), (Go.Value.int Go.IntKind.i64 (c)), (Go.Value.int Go.IntKind.i64 (d)), (Go.Value.int Go.IntKind.i64 (e)), (Go.Value.int Go.IntKind.i64 (f)), (Go.Value.int Go.IntKind.i64 (g)), (Go.Value.int Go.IntKind.i64 (h)), (Go.Value.int Go.IntKind.i64 (i))].toArray)) ∧
 True)) ∧
 ((Says C 18 [D.nil] [(D.sl 0 1 [])]) ∧
 ((((Go.Value.agg [(Go.Value.int Go.IntKind.i64 (a)), (Go.Value.int Go.IntKind.i64 (b)), (Go.Value.int Go.IntKind.i64 (c)), (Go.Value.int Go.IntKind.i64 (d)), (Go.Value.int Go.IntKind.i64 (e)), (Go.Value.int Go.IntKind.i64 (f)), (Go.Value.int Go.IntKind.i64 (g)), (Go.Value.int Go.IntKind.i64 (h)), (Go.Value.int Go.IntKind.i64 (i))].toArray) = (Go.Value.agg [(Go.Value.int Go.IntKind.i64 (a)), (Go.Value.int Go.IntKind.i64 (b)), (Go.Value.int Go.IntKind.i64 (c)), (Go.Value.int Go.IntKind.i64 (d)), (Go.Value.int Go.IntKind.i64 (e)), (Go.Value.int Go.IntKind.i64 (f)), (Go.Value.int Go.IntKind.i64 (g)), (Go.Value.int Go.IntKind.i64 (h)), (Go.Value.int Go.IntKind.i64 (i))].toArray)) ∧
 True) ∧
 (bcase (decide (0 + n * 4 ≤ List.length (List.take (n * 4) (List.drop 0 l))))
 (∃ n4 : Int,
 (∃ n5 : Int,
 ((Says C 19 [(D.agg [(D.val (Go.Value.int Go.IntKind.i64 (a))), (D.val (Go.Value.int Go.IntKind.i64 (b))), (D.val (Go.Value.int Go.IntKind.i64 (c))), (D.val (Go.Value.int Go.IntKind.i64 (d))), (D.val (Go.Value.int Go.IntKind.i64 (e))), (D.val (Go.Value.int Go.IntKind.i64 (f))), (D.val (Go.Value.int Go.IntKind.i64 (g))), (D.val (Go.Value.int Go.IntKind.i64 (h))), (D.val (Go.Value.int Go.IntKind.i64 (i)))]), (D.sl (n) 4 (List.take (n * 4) (List.drop 0 (List.take (n * 4) (List.drop 0 l))))), (D.sl 0 1 [])] [(D.val (Go.Value.int Go.IntKind.i64 (n4))), (D.val (Go.Value.int Go.IntKind.i64 (n5)))]) ∧
 ((((Go.Value.int Go.IntKind.i64 (n5)) = (Go.Value.int Go.IntKind.i64 (n5))) ∧
 (((Go.Value.int Go.IntKind.i64 (n4)) = (Go.Value.int Go.IntKind.i64 (n4))) ∧
 (((Go.Value.tuple [(Go.Value.int Go.IntKind.i64 (n4)), (Go.Value.int Go.IntKind.i64 (n5))].toArray) = (Go.Value.tuple [(Go.Value.int Go.IntKind.i64 (n4)), (Go.Value.int Go.IntKind.i64 (n5))].toArray)) ∧
 True))) ∧
 ((((Go.Value.int Go.IntKind.i64 (n5)) = (Go.Value.int Go.IntKind.i64 (n5))) ∧
 True) ∧
 (True ∧
 (∃ n6 : Int,
 ((Says C 20 [(D.agg [(D.val (Go.Value.int Go.IntKind.i64 (a))), (D.val (Go.Value.int Go.IntKind.i64 (b))), (D.val (Go.Value.int Go.IntKind.i64 (c))), (D.val (Go.Value.int Go.IntKind.i64 (d))), (D.val (Go.Value.int Go.IntKind.i64 (e))), (D.val (Go.Value.int Go.IntKind.i64 (f))), (D.val (Go.Value.int Go.IntKind.i64 (g))), (D.val (Go.Value.int Go.IntKind.i64 (h))), (D.val (Go.Value.int Go.IntKind.i64 (i)))])] [(D.val (Go.Value.int Go.IntKind.i64 (n6)))]) ∧
 (∃ n7 : Int,
 ((Says C 21 [(D.agg [(D.val (Go.Value.int Go.IntKind.i64 (a))), (D.val (Go.Value.int Go.IntKind.i64 (b))), (D.val (Go.Value.int Go.IntKind.i64 (c))), (D.val (Go.Value.int Go.IntKind.i64 (d))), (D.val (Go.Value.int Go.IntKind.i64 (e))), (D.val (Go.Value.int Go.IntKind.i64 (f))), (D.val (Go.Value.int Go.IntKind.i64 (g))), (D.val (Go.Value.int Go.IntKind.i64 (h))), (D.val (Go.Value.int Go.IntKind.i64 (i)))])] [(D.val (Go.Value.int Go.IntKind.i64 (n7)))]) ∧
 (bcase (n7 != n6)
 (k [(D.val (Go.Value.bool false))])
 (bcase (decide (0 + n * 4 ≤ List.length l))
 (∃ n8 : Int,
 ((Says C 22 [(D.agg [(D.val (Go.Value.int Go.IntKind.i64 (a))), (D.val (Go.Value.int Go.IntKind.i64 (b))), (D.val (Go.Value.int Go.IntKind.i64 (c))), (D.val (Go.Value.int Go.IntKind.i64 (d))), (D.val (Go.Value.int Go.IntKind.i64 (e))), (D.val (Go.Value.int Go.IntKind.i64 (f))), (D.val (Go.Value.int Go.IntKind.i64 (g))), (D.val (Go.Value.int Go.IntKind.i64 (h))), (D.val (Go.Value.int Go.IntKind.i64 (i)))]), (D.sl (n) 4 (List.take (n * 4) (List.drop 0 l)))] [(D.val (Go.Value.int Go.IntKind.i64 (n8)))]) ∧
 (bcase (n8 == 0)
 (bcase (decide (0 + n * 4 ≤ List.length l))
 (∃ n9 : Int,
 ((Says C 23 [(D.sl (n) 4 (List.take (n * 4) (List.drop 0 l))), D.nil] [(D.val (Go.Value.int Go.IntKind.i64 (n9)))]) ∧
 (bcase (n9 != 0)
 (bcase (n3 == n9)
 (bcase (n5 == n9)
 (bcase (if Bool.false = Bool.true then !(n1 == 0 && (n2 == 0 && Bool.true)) else n1 == 0 && (n2 == 0 && Bool.true))
 (bcase (n4 == 0)
 (k [(D.val (Go.Value.bool true))])
 (k [(D.val (Go.Value.bool false))]))
 (k [(D.val (Go.Value.bool false))]))
 (k [(D.val (Go.Value.bool false))]))
 (k [(D.val (Go.Value.bool false))]))
 (bcase (decide (0 + n * 4 ≤ List.length l))
 (∃ n10 : Int,
 (∃ n11 : Int,
 (((Says C 24 [(D.agg [(D.val (Go.Value.int Go.IntKind.i64 (a))), (D.val (Go.Value.int Go.IntKind.i64 (b))), (D.val (Go.Value.int Go.IntKind.i64 (c))), (D.val (Go.Value.int Go.IntKind.i64 (d))), (D.val (Go.Value.int Go.IntKind.i64 (e))), (D.val (Go.Value.int Go.IntKind.i64 (f))), (D.val (Go.Value.int Go.IntKind.i64 (g))), (D.val (Go.Value.int Go.IntKind.i64 (h))), (D.val (Go.Value.int Go.IntKind.i64 (i)))]), (D.sl (n) 4 (List.take (n * 4) (List.drop 0 l))), D.nil] [(D.agg [(D.val (Go.Value.int Go.IntKind.i64 (n10))), (D.val (Go.Value.int Go.IntKind.i64 (n11)))]), (D.val (Go.Value.bool true))]) ∧
 (bcase (n5 != 0)
 (k [(D.val (Go.Value.bool false))])
 (bcase (decide (0 + n * 4 ≤ List.length l))
 (∃ n12 : Int,
 ((Says C 25 [(D.agg [(D.val (Go.Value.int Go.IntKind.i64 (a))), (D.val (Go.Value.int Go.IntKind.i64 (b))), (D.val (Go.Value.int Go.IntKind.i64 (c))), (D.val (Go.Value.int Go.IntKind.i64 (d))), (D.val (Go.Value.int Go.IntKind.i64 (e))), (D.val (Go.Value.int Go.IntKind.i64 (f))), (D.val (Go.Value.int Go.IntKind.i64 (g))), (D.val (Go.Value.int Go.IntKind.i64 (h))), (D.val (Go.Value.int Go.IntKind.i64 (i)))]), (D.sl (n) 4 (List.take (n * 4) (List.drop 0 l))), D.nil] [(D.val (Go.Value.int Go.IntKind.i64 (n12)))]) ∧
 (bcase (n4 != n12)
 (k [(D.val (Go.Value.bool false))])
 (bcase (n3 == 0)
 (bcase (if Bool.false = Bool.true then !(n1 == n10 && (n2 == n11 && Bool.true)) else n1 == n10 && (n2 == n11 && Bool.true))
 (k [(D.val (Go.Value.bool true))])
 (k [(D.val (Go.Value.bool false))]))
 (k [(D.val (Go.Value.bool false))])))))
 False))) ∨
 ((Says C 24 [(D.agg [(D.val (Go.Value.int Go.IntKind.i64 (a))), (D.val (Go.Value.int Go.IntKind.i64 (b))), (D.val (Go.Value.int Go.IntKind.i64 (c))), (D.val (Go.Value.int Go.IntKind.i64 (d))), (D.val (Go.Value.int Go.IntKind.i64 (e))), (D.val (Go.Value.int Go.IntKind.i64 (f))), (D.val (Go.Value.int Go.IntKind.i64 (g))), (D.val (Go.Value.int Go.IntKind.i64 (h))), (D.val (Go.Value.int Go.IntKind.i64 (i)))]), (D.sl (n) 4 (List.take (n * 4) (List.drop 0 l))), D.nil] [(D.agg [(D.val (Go.Value.int Go.IntKind.i64 (n10))), (D.val (Go.Value.int Go.IntKind.i64 (n11)))]), (D.val (Go.Value.bool false))]) ∧
 (bcase (n5 != 0)
 (k [(D.val (Go.Value.bool false))])
 (bcase (decide (0 + n * 4 ≤ List.length l))
 (∃ n12 : Int,
 ((Says C 25 [(D.agg [(D.val (Go.Value.int Go.IntKind.i64 (a))), (D.val (Go.Value.int Go.IntKind.i64 (b))), (D.val (Go.Value.int Go.IntKind.i64 (c))), (D.val (Go.Value.int Go.IntKind.i64 (d))), (D.val (Go.Value.int Go.IntKind.i64 (e))), (D.val (Go.Value.int Go.IntKind.i64 (f))), (D.val (Go.Value.int Go.IntKind.i64 (g))), (D.val (Go.Value.int Go.IntKind.i64 (h))), (D.val (Go.Value.int Go.IntKind.i64 (i)))]), (D.sl (n) 4 (List.take (n * 4) (List.drop 0 l))), D.nil] [(D.val (Go.Value.int Go.IntKind.i64 (n12)))]) ∧
 (bcase (n4 != n12)
 (k [(D.val (Go.Value.bool false))])
 (bcase (n3 == 12)
 (bcase (if Bool.false = Bool.true then !(n1 == 0 && (n2 == 0 && Bool.true)) else n1 == 0 && (n2 == 0 && Bool.true))
 (k [(D.val (Go.Value.bool true))])
 (k [(D.val (Go.Value.bool false))]))
 (k [(D.val (Go.Value.bool false))])))))
 False))))))
 False))))
 False)
 (bcase (n8 != 0)
 (bcase (n3 == n8)
 (bcase (n5 == n8)
 (bcase (if Bool.false = Bool.true then !(n1 == 0 && (n2 == 0 && Bool.true)) else n1 == 0 && (n2 == 0 && Bool.true))
 (bcase (n4 == 0)
 (k [(D.val (Go.Value.bool true))])
 (k [(D.val (Go.Value.bool false))]))
 (k [(D.val (Go.Value.bool false))]))
 (k [(D.val (Go.Value.bool false))]))
 (k [(D.val (Go.Value.bool false))]))
 (bcase (decide (0 + n * 4 ≤ List.length l))
 (∃ n9 : Int,
 (∃ n10 : Int,
 (((Says C 24 [(D.agg [(D.val (Go.Value.int Go.IntKind.i64 (a))), (D.val (Go.Value.int Go.IntKind.i64 (b))), (D.val (Go.Value.int Go.IntKind.i64 (c))), (D.val (Go.Value.int Go.IntKind.i64 (d))), (D.val (Go.Value.int Go.IntKind.i64 (e))), (D.val (Go.Value.int Go.IntKind.i64 (f))), (D.val (Go.Value.int Go.IntKind.i64 (g))), (D.val (Go.Value.int Go.IntKind.i64 (h))), (D.val (Go.Value.int Go.IntKind.i64 (i)))]), (D.sl (n) 4 (List.take (n * 4) (List.drop 0 l))), D.nil] [(D.agg [(D.val (Go.Value.int Go.IntKind.i64 (n9))), (D.val (Go.Value.int Go.IntKind.i64 (n10)))]), (D.val (Go.Value.bool true))]) ∧
 (bcase (n5 != 0)
 (k [(D.val (Go.Value.bool false))])
 (bcase (decide (0 + n * 4 ≤ List.length l))
 (∃ n11 : Int,
 ((Says C 25 [(D.agg [(D.val (Go.Value.int Go.IntKind.i64 (a))), (D.val (Go.Value.int Go.IntKind.i64 (b))), (D.val (Go.Value.int Go.IntKind.i64 (c))), (D.val (Go.Value.int Go.IntKind.i64 (d))), (D.val (Go.Value.int Go.IntKind.i64 (e))), (D.val (Go.Value.int Go.IntKind.i64 (f))), (D.val (Go.Value.int Go.IntKind.i64 (g))), (D.val (Go.Value.int Go.IntKind.i64 (h))), (D.val (Go.Value.int Go.IntKind.i64 (i)))]), (D.sl (n) 4 (List.take (n * 4) (List.drop 0 l))), D.nil] [(D.val (Go.Value.int Go.IntKind.i64 (n11)))]) ∧
 (bcase (n4 != n11)
 (k [(D.val (Go.Value.bool false))])
 (bcase (n3 == 0)
 (bcase (if Bool.false = Bool.true then !(n1 == n9 && (n2 == n10 && Bool.true)) else n1 == n9 && (n2 == n10 && Bool.true))
 (k [(D.val (Go.Value.bool true))])
 (k [(D.val (Go.Value.bool false))]))
 (k [(D.val (Go.Value.bool false))])))))
 False))) ∨
 ((Says C 24 [(D.agg [(D.val (Go.Value.int Go.IntKind.i64 (a))), (D.val (Go.Value.int Go.IntKind.i64 (b))), (D.val (Go.Value.int Go.IntKind.i64 (c))), (D.val (Go.Value.int Go.IntKind.i64 (d))), (D.val (Go.Value.int Go.IntKind.i64 (e))), (D.val (Go.Value.int Go.IntKind.i64 (f))), (D.val (Go.Value.int Go.IntKind.i64 (g))), (D.val (Go.Value.int Go.IntKind.i64 (h))), (D.val (Go.Value.int Go.IntKind.i64 (i)))]), (D.sl (n) 4 (List.take (n * 4) (List.drop 0 l))), D.nil] [(D.agg [(D.val (Go.Value.int Go.IntKind.i64 (n9))), (D.val (Go.Value.int Go.IntKind.i64 (n10)))]), (D.val (Go.Value.bool false))]) ∧
 (bcase (n5 != 0)
 (k [(D.val (Go.Value.bool false))])
 (bcase (decide (0 + n * 4 ≤ List.length l))
 (∃ n11 : Int,
 ((Says C 25 [(D.agg [(D.val (Go.Value.int Go.IntKind.i64 (a))), (D.val (Go.Value.int Go.IntKind.i64 (b))), (D.val (Go.Value.int Go.IntKind.i64 (c))), (D.val (Go.Value.int Go.IntKind.i64 (d))), (D.val (Go.Value.int Go.IntKind.i64 (e))), (D.val (Go.Value.int Go.IntKind.i64 (f))), (D.val (Go.Value.int Go.IntKind.i64 (g))), (D.val (Go.Value.int Go.IntKind.i64 (h))), (D.val (Go.Value.int Go.IntKind.i64 (i)))]), (D.sl (n) 4 (List.take (n * 4) (List.drop 0 l))), D.nil] [(D.val (Go.Value.int Go.IntKind.i64 (n11)))]) ∧
 (bcase (n4 != n11)
 (k [(D.val (Go.Value.bool false))])
 (bcase (n3 == 12)
 (bcase (if Bool.false = Bool.true then !(n1 == 0 && (n2 == 0 && Bool.true)) else n1 == 0 && (n2 == 0 && Bool.true))
 (k [(D.val (Go.Value.bool true))])
 (k [(D.val (Go.Value.bool false))]))
 (k [(D.val (Go.Value.bool false))])))))
 False))))))
 False)))))
 False))))))))))))
 False)))))
 False)))))))))
 False)))))
 False))
 (k [(D.val (Go.Value.bool true))]))) ∨
 ((Says C 6 [] [(D.val (Go.Value.bool false))]) ∧
 (k [(D.val (Go.Value.bool false))]))) := by kernel_rfl
def g5c (C : Ct) (L : AtLoop) (a b c d e f g h i : Int) (k : List D → Prop) : Prop := wpFn Tryz.prog (hL C) L 0 5 #[vRu a b c d e f g h i, .slice none 0 0, .slice none 0 0] (heapOf []) (dataK k)
theorem g5c_text (C : Ct) (L : AtLoop) (a : Int) (b : Int) (c : Int) (d : Int) (e : Int) (f : Int) (g : Int) (h : Int) (i : Int) (k : List D → Prop) : g5c C L a b c d e f g h i k =
 (((Says C 6 [] [(D.val (Go.Value.bool true))]) ∧
 (((((Go.Value.pointer (Option.some (Go.Addr.mk 1001 0 Option.none))) = (Go.Value.pointer (Option.some (Go.Addr.mk 1001 0 Option.none)))) ∧
 ((Option.some (AObj.cells [(Go.Value.int Go.IntKind.i64 (0 : Int)), (Go.Value.int Go.IntKind.i64 (0 : Int))] 47 false 2)) = (Option.some (AObj.cells [(Go.Value.int Go.IntKind.i64 (0 : Int)), (Go.Value.int Go.IntKind.i64 (0 : Int))] 47 false 2)))) ∧
 (((Go.Value.slice Option.none 0 0) = (Go.Value.slice Option.none 0 0)) ∧
 (((Go.Value.slice Option.none 0 0) = (Go.Value.slice Option.none 0 0)) ∧
 (((Go.Value.agg [(Go.Value.int Go.IntKind.i64 (a)), (Go.Value.int Go.IntKind.i64 (b)), (Go.Value.int Go.IntKind.i64 (c)), (Go.Value.int Go.IntKind.i64 (d)), (Go.Value.int Go.IntKind.i64 (e)), (Go.Value.int Go.IntKind.i64 (f)), (Go.Value.int Go.IntKind.i64 (g)), (Go.Value.int Go.IntKind.i64 (h)), (Go.Value.int Go.IntKind.i64 (i))].toArray) = (Go.Value.agg [(Go.Value.int Go.IntKind.i64 (a)), (Go.Value.int Go.IntKind.i64 (b)), (Go.Value.int Go.IntKind.i64 (c)), (Go.Value.int Go.IntKind.i64 (d)), (Go.Value.int Go.IntKind.i64 (e)), (Go.Value.int Go.IntKind.i64 (f)), (Go.Value.int Go.IntKind.i64 (g)), (Go.Value.int Go.IntKind.i64 (h)), (Go.Value.int Go.IntKind.i64 (i))].toArray)) ∧
 True)))) ∧
 ((Says C 17 [D.nil] [(D.sl 0 4 [])]) ∧
 (((((Go.Value.pointer (Option.some (Go.Addr.mk 1001 0 Option.none))) = (Go.Value.pointer (Option.some (Go.Addr.mk 1001 0 Option.none)))) ∧
 ((Option.some (AObj.cells [(Go.Value.int Go.IntKind.i64 (0 : Int)), (Go.Value.int Go.IntKind.i64 (0 : Int))] 47 false 2)) = (Option.some (AObj.cells [(Go.Value.int Go.IntKind.i64 (0 : Int)), (Go.Value.int Go.IntKind.i64 (0 : Int))] 47 false 2)))) ∧
 (((Go.Value.slice Option.none 0 0) = (Go.Value.slice Option.none 0 0)) ∧
 (((Go.Value.agg [(Go.Value.int Go.IntKind.i64 (a)), (Go.Value.int Go.IntKind.i64 (b)), (Go.Value.int Go.IntKind.i64 (c)), (Go.Value.int Go.IntKind.i64 (d)), (Go.Value.int Go.IntKind.i64 (e)), (Go.Value.int Go.IntKind.i64 (f)), (Go.Value.int Go.IntKind.i64 (g)), (Go.Value.int Go.IntKind.i64 (h)), (Go.Value.int Go.IntKind.i64 (i))].toArray) = (Go.Value.agg [(Go.Value.int Go.IntKind.i64 (a)), (Go.Value.int Go.IntKind.i64 (b)), (Go.Value.int Go.IntKind.i64 (c)), (Go.Value.int Go.IntKind.i64 (d)), (Go.Value.int Go.IntKind.i64 (e)), (Go.Value.int Go.IntKind.i64 (f)), (Go.Value.int Go.IntKind.i64 (g)), (Go.Value.int Go.IntKind.i64 (h)), (Go.Value.int Go.IntKind.i64 (i))].toArray)) ∧
 True))) ∧
 ((Says C 18 [D.nil] [(D.sl 0 1 [])]) ∧
 (((((Go.Value.pointer (Option.some (Go.Addr.mk 1001 0 Option.none))) = (Go.Value.pointer (Option.some (Go.Addr.mk 1001 0 Option.none)))) ∧
 ((Option.some (AObj.cells [(Go.Value.int Go.IntKind.i64 (0 : Int)), (Go.Value.int Go.IntKind.i64 (0 : Int))] 47 false 2)) = (Option.some (AObj.cells [(Go.Value.int Go.IntKind.i64 (0 : Int)), (Go.Value.int Go.IntKind.i64 (0 : Int))] 47 false 2)))) ∧
 (((Go.Value.agg [(Go.Value.int Go.IntKind.i64 (a)), (Go.Value.int Go.IntKind.i64 (b)), (Go.Value.int Go.IntKind.i64 (c)), (Go.Value.int Go.IntKind.i64 (d)), (Go.Value.int Go.IntKind.i64 (e)), (Go.Value.int Go.IntKind.i64 (f)), (Go.Value.int Go.IntKind.i64 (g)), (Go.Value.int Go.IntKind.i64 (h)), (Go.Value.int Go.IntKind.i64 (i))].toArray) = (Go.Value.agg [(Go.Value.int Go.IntKind.i64 (a)), (Go.Value.int Go.IntKind.i64 (b)), (Go.Value.int Go.IntKind.i64 (c)), (Go.Value.int Go.IntKind.i64 (d)), (Go.Value.int Go.IntKind.i64 (e)), (Go.Value.int Go.IntKind.i64 (f)), (Go.Value.int Go.IntKind.i64 (g)), (Go.Value.int Go.IntKind.i64 (h)), (Go.Value.int Go.IntKind.i64 (i))].toArray)) ∧
 True)) ∧
 (∃ n1 : Int,
 (∃ n2 : Int,
 (∃ n3 : Int,
 ((Says C 16 [(D.agg [(D.val (Go.Value.int Go.IntKind.i64 (a))), (D.val (Go.Value.int Go.IntKind.i64 (b))), (D.val (Go.Value.int Go.IntKind.i64 (c))), (D.val (Go.Value.int Go.IntKind.i64 (d))), (D.val (Go.Value.int Go.IntKind.i64 (e))), (D.val (Go.Value.int Go.IntKind.i64 (f))), (D.val (Go.Value.int Go.IntKind.i64 (g))), (D.val (Go.Value.int Go.IntKind.i64 (h))), (D.val (Go.Value.int Go.IntKind.i64 (i)))]), (D.sl 0 4 []), (D.sl 0 1 [])] [(D.agg [(D.val (Go.Value.int Go.IntKind.i64 (n1))), (D.val (Go.Value.int Go.IntKind.i64 (n2)))]), (D.val (Go.Value.int Go.IntKind.i64 (n3)))]) ∧
 ((((Go.Value.int Go.IntKind.i64 (n3)) = (Go.Value.int Go.IntKind.i64 (n3))) ∧
 (((Go.Value.agg [(Go.Value.int Go.IntKind.i64 (n1)), (Go.Value.int Go.IntKind.i64 (n2))].toArray) = (Go.Value.agg [(Go.Value.int Go.IntKind.i64 (n1)), (Go.Value.int Go.IntKind.i64 (n2))].toArray)) ∧
 (((Go.Value.tuple [(Go.Value.agg [(Go.Value.int Go.IntKind.i64 (n1)), (Go.Value.int Go.IntKind.i64 (n2))].toArray), (Go.Value.int Go.IntKind.i64 (n3))].toArray) = (Go.Value.tuple [(Go.Value.agg [(Go.Value.int Go.IntKind.i64 (n1)), (Go.Value.int Go.IntKind.i64 (n2))].toArray), (Go.Value.int Go.IntKind.i64 (n3))].toArray)) ∧
 ((((Go.Value.pointer (Option.some (Go.Addr.mk 1001 0 Option.none))) = (Go.Value.pointer (Option.some (Go.Addr.mk 1001 0 Option.none)))) ∧
 ((Option.some (AObj.cells [(Go.Value.int Go.IntKind.i64 (0 : Int)), (Go.Value.int Go.IntKind.i64 (0 : Int))] 47 false 2)) = (Option.some (AObj.cells [(Go.Value.int Go.IntKind.i64 (0 : Int)), (Go.Value.int Go.IntKind.i64 (0 : Int))] 47 false 2)))) ∧
 True)))) ∧
 ((((Go.Value.int Go.IntKind.i64 (n3)) = (Go.Value.int Go.IntKind.i64 (n3))) ∧
 True) ∧
 (True ∧
 ((((Go.Value.slice Option.none 0 0) = (Go.Value.slice Option.none 0 0)) ∧
 (((Go.Value.slice Option.none 0 0) = (Go.Value.slice Option.none 0 0)) ∧
 (((Go.Value.agg [(Go.Value.int Go.IntKind.i64 (a)), (Go.Value.int Go.IntKind.i64 (b)), (Go.Value.int Go.IntKind.i64 (c)), (Go.Value.int Go.IntKind.i64 (d)), (Go.Value.int Go.IntKind.i64 (e)), (Go.Value.int Go.IntKind.i64 (f)), (Go.Value.int Go.IntKind.i64 (g)), (Go.Value.int Go.IntKind.i64 (h)), (Go.Value.int Go.IntKind.i64 (i))].toArray) = (Go.Value.agg [(Go.Value.int Go.IntKind.i64 (a)), (Go.Value.int Go.IntKind.i64 (b)), (Go.Value.int Go.IntKind.i64 (c)), (Go.Value.int Go.IntKind.i64 (d)), (Go.Value.int Go.IntKind.i64 (e)), (Go.Value.int Go.IntKind.i64 (f)), (Go.Value.int Go.IntKind.i64 (g)), (Go.Value.int Go.IntKind.i64 (h)), (Go.Value.int Go.IntKind.i64 (i))].toArray)) ∧
 True))) ∧
 ((Says C 17 [D.nil] [(D.sl 0 4 [])]) ∧
 ((((Go.Value.slice Option.none 0 0) = (Go.Value.slice Option.none 0 0)) ∧
 (((Go.Value.agg [(Go.Value.int Go.IntKind.i64 (a)), (Go.Value.int Go.IntKind.i64 (b)), (Go.Value.int Go.IntKind.i64 (c)), (Go.Value.int Go.IntKind.i64 (d)), (Go.Value.int Go.IntKind.i64 (e)), (Go.Value.int Go.IntKind.i64 (f)), (Go.Value.int Go.IntKind.i64 (g)), (Go.Value.int Go.IntKind.i64 (h)), (Go.Value.int Go.IntKind.i64 (i))].toArray) = (Go.Value.agg [(Go.Value.int Go.IntKind.i64 (a)), (Go.Value.int Go.IntKind.i64 (b)), (Go.Value.int Go.IntKind.i64 (c)), (Go.Value.int Go.IntKind.i64 (d)), (Go.Value.int Go.IntKind.i64 (e)), (Go.Value.int Go.IntKind.i64 (f)), (Go.Value.int Go.IntKind.i64 (g)), (Go.Value.int Go.IntKind.i64 (h)), (Go.Value.int Go.IntKind.i64 (i))].toArray)) ∧
 True)) ∧
 ((Says C 18 [D.nil] [(D.sl 0 1 [])]) ∧
 ((((Go.Value.agg [(Go.Value.int Go.IntKind.i64 (a)), (Go.Value.int Go.IntKind.i64 (b)), (Go.Value.int Go.IntKind.i64 (c)), (Go.Value.int Go.IntKind.i64 (d)), (Go.Value.int Go.IntKind.i64 (e)), (Go.Value.int Go.IntKind.i64 (f)), (Go.Value.int Go.IntKind.i64 (g)), (Go.Value.int Go.IntKind.i64 (h)), (Go.Value.int Go.IntKind.i64 (i))].toArray) = (Go.Value.agg [(Go.Value.int Go.IntKind.i64 (a)), (Go.Value.int Go.IntKind.i64 (b)), (Go.Value.int Go.IntKind.i64 (c)), (Go.Value.int Go.IntKind.i64 (d)), (Go.Value.int Go.IntKind.i64 (e)), (Go.Value.int Go.IntKind.i64 (f)), (Go.Value.int Go.IntKind.i64 (g)), (Go.Value.int Go.IntKind.i64 (h)), (Go.Value.int Go.IntKind.i64 (i))].toArray)) ∧
 True) ∧
 (∃ n4 : Int,
 (∃ n5 : Int,
 ((Says C 19 [(D.agg [(D.val (Go.Value.int Go.IntKind.i64 (a))), (D.val (Go.Value.int Go.IntKind.i64 (b))), (D.val (Go.Value.int Go.IntKind.i64 (c))), (D.val (Go.Value.int Go.IntKind.i64 (d))), (D.val (Go.Value.int Go.IntKind.i64 (e))), (D.val (Go.Value.int Go.IntKind.i64 (f))), (D.val (Go.Value.int Go.IntKind.i64 (g))), (D.val (Go.Value.int Go.IntKind.i64 (h))), (D.val (Go.Value.int Go.IntKind.i64 (i)))]), (D.sl 0 4 []), (D.sl 0 1 [])] [(D.val (Go.Value.int Go.IntKind.i64 (n4))), (D.val (Go.Value.int Go.IntKind.i64 (n5)))]) ∧
 ((((Go.Value.int Go.IntKind.i64 (n5)) = (Go.Value.int Go.IntKind.i64 (n5))) ∧
 (((Go.Value.int Go.IntKind.i64 (n4)) = (Go.Value.int Go.IntKind.i64 (n4))) ∧
 (((Go.Value.tuple [(Go.Value.int Go.IntKind.i64 (n4)), (Go.Value.int Go.IntKind.i64 (n5))].toArray) = (Go.Value.tuple [(Go.Value.int Go.IntKind.i64 (n4)), (Go.Value.int Go.IntKind.i64 (n5))].toArray)) ∧
 True))) ∧
 ((((Go.Value.int Go.IntKind.i64 (n5)) = (Go.Value.int Go.IntKind.i64 (n5))) ∧
 True) ∧
 (True ∧
 (∃ n6 : Int,
 ((Says C 20 [(D.agg [(D.val (Go.Value.int Go.IntKind.i64 (a))), (D.val (Go.Value.int Go.IntKind.i64 (b))), (D.val (Go.Value.int Go.IntKind.i64 (c))), (D.val (Go.Value.int Go.IntKind.i64 (d))), (D.val (Go.Value.int Go.IntKind.i64 (e))), (D.val (Go.Value.int Go.IntKind.i64 (f))), (D.val (Go.Value.int Go.IntKind.i64 (g))), (D.val (Go.Value.int Go.IntKind.i64 (h))), (D.val (Go.Value.int Go.IntKind.i64 (i)))])] [(D.val (Go.Value.int Go.IntKind.i64 (n6)))]) ∧
 (∃ n7 : Int,
 ((Says C 21 [(D.agg [(D.val (Go.Value.int Go.IntKind.i64 (a))), (D.val (Go.Value.int Go.IntKind.i64 (b))), (D.val (Go.Value.int Go.IntKind.i64 (c))), (D.val (Go.Value.int Go.IntKind.i64 (d))), (D.val (Go.Value.int Go.IntKind.i64 (e))), (D.val (Go.Value.int Go.IntKind.i64 (f))), (D.val (Go.Value.int Go.IntKind.i64 (g))), (D.val (Go.Value.int Go.IntKind.i64 (h))), (D.val (Go.Value.int Go.IntKind.i64 (i)))])] [(D.val (Go.Value.int Go.IntKind.i64 (n7)))]) ∧
 (bcase (n7 != n6)
 (k [(D.val (Go.Value.bool false))])
 (∃ n8 : Int,
 ((Says C 22 [(D.agg [(D.val (Go.Value.int Go.IntKind.i64 (a))), (D.val (Go.Value.int Go.IntKind.i64 (b))), (D.val (Go.Value.int Go.IntKind.i64 (c))), (D.val (Go.Value.int Go.IntKind.i64 (d))), (D.val (Go.Value.int Go.IntKind.i64 (e))), (D.val (Go.Value.int Go.IntKind.i64 (f))), (D.val (Go.Value.int Go.IntKind.i64 (g))), (D.val (Go.Value.int Go.IntKind.i64 (h))), (D.val (Go.Value.int Go.IntKind.i64 (i)))]), D.nil] [(D.val (Go.Value.int Go.IntKind.i64 (n8)))]) ∧
 (bcase (n8 == 0)
 (∃ n9 : Int,
 ((Says C 23 [D.nil, D.nil] [(D.val (Go.Value.int Go.IntKind.i64 (n9)))]) ∧
 (bcase (n9 != 0)
 (bcase (n3 == n9)
 (bcase (n5 == n9)
 (bcase (if Bool.false = Bool.true then !(n1 == 0 && (n2 == 0 && Bool.true)) else n1 == 0 && (n2 == 0 && Bool.true))
 (bcase (n4 == 0)
 (k [(D.val (Go.Value.bool true))])
 (k [(D.val (Go.Value.bool false))]))
 (k [(D.val (Go.Value.bool false))]))
 (k [(D.val (Go.Value.bool false))]))
 (k [(D.val (Go.Value.bool false))]))
 (∃ n10 : Int,
 (∃ n11 : Int,
 (((Says C 24 [(D.agg [(D.val (Go.Value.int Go.IntKind.i64 (a))), (D.val (Go.Value.int Go.IntKind.i64 (b))), (D.val (Go.Value.int Go.IntKind.i64 (c))), (D.val (Go.Value.int Go.IntKind.i64 (d))), (D.val (Go.Value.int Go.IntKind.i64 (e))), (D.val (Go.Value.int Go.IntKind.i64 (f))), (D.val (Go.Value.int Go.IntKind.i64 (g))), (D.val (Go.Value.int Go.IntKind.i64 (h))), (D.val (Go.Value.int Go.IntKind.i64 (i)))]), D.nil, D.nil] [(D.agg [(D.val (Go.Value.int Go.IntKind.i64 (n10))), (D.val (Go.Value.int Go.IntKind.i64 (n11)))]), (D.val (Go.Value.bool true))]) ∧
 (bcase (n5 != 0)
 (k [(D.val (Go.Value.bool false))])
 (∃ n12 : Int,
 ((Says C 25 [(D.agg [(D.val (Go.Value.int Go.IntKind.i64 (a))), (D.val (Go.Value.int Go.IntKind.i64 (b))), (D.val (Go.Value.int Go.IntKind.i64 (c))), (D.val (Go.Value.int Go.IntKind.i64 (d))), (D.val (Go.Value.int Go.IntKind.i64 (e))), (D.val (Go.Value.int Go.IntKind.i64 (f))), (D.val (Go.Value.int Go.IntKind.i64 (g))), (D.val (Go.Value.int Go.IntKind.i64 (h))), (D.val (Go.Value.int Go.IntKind.i64 (i)))]), D.nil, D.nil] [(D.val (Go.Value.int Go.IntKind.i64 (n12)))]) ∧
 (bcase (n4 != n12)
 (k [(D.val (Go.Value.bool false))])
 (bcase (n3 == 0)
 (bcase (if Bool.false = Bool.true then !(n1 == n10 && (n2 == n11 && Bool.true)) else n1 == n10 && (n2 == n11 && Bool.true))
 (k [(D.val (Go.Value.bool true))])
 (k [(D.val (Go.Value.bool false))]))
 (k [(D.val (Go.Value.bool false))]))))))) ∨
 ((Says C 24 [(D.agg [(D.val (Go.Value.int Go.IntKind.i64 (a))), (D.val (Go.Value.int Go.IntKind.i64 (b))), (D.val (Go.Value.int Go.IntKind.i64 (c))), (D.val (Go.Value.int Go.IntKind.i64 (d))), (D.val (Go.Value.int Go.IntKind.i64 (e))), (D.val (Go.Value.int Go.IntKind.i64 (f))), (D.val (Go.Value.int Go.IntKind.i64 (g))), (D.val (Go.Value.int Go.IntKind.i64 (h))), (D.val (Go.Value.int Go.IntKind.i64 (i)))]), D.nil, D.nil] [(D.agg [(D.val (Go.Value.int Go.IntKind.i64 (n10))), (D.val (Go.Value.int Go.IntKind.i64 (n11)))]), (D.val (Go.Value.bool false))]) ∧
 (bcase (n5 != 0)
 (k [(D.val (Go.Value.bool false))])
 (∃ n12 : Int,
 ((Says C 25 [(D.agg [(D.val (Go.Value.int Go.IntKind.i64 (a))), (D.val (Go.Value.int Go.IntKind.i64 (b))), (D.val (Go.Value.int Go.IntKind.i64 (c))), (D.val (Go.Value.int Go.IntKind.i64 (d))), (D.val (Go.Value.int Go.IntKind.i64 (e))), (D.val (Go.Value.int Go.IntKind.i64 (f))), (D.val (Go.Value.int Go.IntKind.i64 (g))), (D.val (Go.Value.int Go.IntKind.i64 (h))), (D.val (Go.Value.int Go.IntKind.i64 (i)))]), D.nil, D.nil] [(D.val (Go.Value.int Go.IntKind.i64 (n12)))]) ∧
 (bcase (n4 != n12)
 (k [(D.val (Go.Value.bool false))])
 (bcase (n3 == 12)
 (bcase (if Bool.false = Bool.true then !(n1 == 0 && (n2 == 0 && Bool.true)) else n1 == 0 && (n2 == 0 && Bool.true))
 (k [(D.val (Go.Value.bool true))])
 (k [(D.val (Go.Value.bool false))]))
 (k [(D.val (Go.Value.bool false))])))))))))))))
 (bcase (n8 != 0)
 (bcase (n3 == n8)
 (bcase (n5 == n8)
 (bcase (if Bool.false = Bool.true then !(n1 == 0 && (n2 == 0 && Bool.true)) else n1 == 0 && (n2 == 0 && Bool.true))
 (bcase (n4 == 0)
 (k [(D.val (Go.Value.bool true))])
 (k [(D.val (Go.Value.bool false))]))
 (k [(D.val (Go.Value.bool false))]))
 (k [(D.val (Go.Value.bool false))]))
 (k [(D.val (Go.Value.bool false))]))
 (∃ n9 : Int,
 (∃ n10 : Int,
 (((Says C 24 [(D.agg [(D.val (Go.Value.int Go.IntKind.i64 (a))), (D.val (Go.Value.int Go.IntKind.i64 (b))), (D.val (Go.Value.int Go.IntKind.i64 (c))), (D.val (Go.Value.int Go.IntKind.i64 (d))), (D.val (Go.Value.int Go.IntKind.i64 (e))), (D.val (Go.Value.int Go.IntKind.i64 (f))), (D.val (Go.Value.int Go.IntKind.i64 (g))), (D.val (Go.Value.int Go.IntKind.i64 (h))), (D.val (Go.Value.int Go.IntKind.i64 (i)))]), D.nil, D.nil] [(D.agg [(D.val (Go.Value.int Go.IntKind.i64 (n9))), (D.val (Go.Value.int Go.IntKind.i64 (n10)))]), (D.val (Go.Value.bool true))]) ∧
 (bcase (n5 != 0)
 (k [(D.val (Go.Value.bool false))])
 (∃ n11 : Int,
 ((Says C 25 [(D.agg [(D.val (Go.Value.int Go.IntKind.i64 (a))), (D.val (Go.Value.int Go.IntKind.i64 (b))), (D.val (Go.Value.int Go.IntKind.i64 (c))), (D.val (Go.Value.int Go.IntKind.i64 (d))), (D.val (Go.Value.int Go.IntKind.i64 (e))), (D.val (Go.Value.int Go.IntKind.i64 (f))), (D.val (Go.Value.int Go.IntKind.i64 (g))), (D.val (Go.Value.int Go.IntKind.i64 (h))), (D.val (Go.Value.int Go.IntKind.i64 (i)))]), D.nil, D.nil] [(D.val (Go.Value.int Go.IntKind.i64 (n11)))]) ∧
 (bcase (n4 != n11)
 (k [(D.val (Go.Value.bool false))])
 (bcase (n3 == 0)
 (bcase (if Bool.false = Bool.true then !(n1 == n9 && (n2 == n10 && Bool.true)) else n1 == n9 && (n2 == n10 && Bool.true))
 (k [(D.val (Go.Value.bool true))])
 (k [(D.val (Go.Value.bool false))]))
 (k [(D.val (Go.Value.bool false))]))))))) ∨
 ((Says C 24 [(D.agg [(D.val (Go.Value.int Go.IntKind.i64 (a))), (D.val (Go.Value.int Go.IntKind.i64 (b))), (D.val (Go.Value.int Go.IntKind.i64 (c))), (D.val (Go.Value.int Go.IntKind.i64 (d))), (D.val (Go.Value.int Go.IntKind.i64 (e))), (D.val (Go.Value.int Go.IntKind.i64 (f))), (D.val (Go.Value.int Go.IntKind.i64 (g))), (D.val (Go.Value.int Go.IntKind.i64 (h))), (D.val (Go.Value.int Go.IntKind.i64 (i)))]), D.nil, D.nil] [(D.agg [(D.val (Go.Value.int Go.IntKind.i64 (n9))), (D.val (Go.Value.int Go.IntKind.i64 (n10)))]), (D.val (Go.Value.bool false))]) ∧
 (bcase (n5 != 0)
 (k [(D.val (Go.Value.bool false))])
 (∃ n11 : Int,
 ((Says C 25 [(D.agg [(D.val (Go.Value.int Go.IntKind.i64 (a))), (D.val (Go.Value.int Go.IntKind.i64 (b))), (D.val (Go.Value.int Go.IntKind.i64 (c))), (D.val (Go.Value.int Go.IntKind.i64 (d))), (D.val (Go.Value.int Go.IntKind.i64 (e))), (D.val (Go.Value.int Go.IntKind.i64 (f))), (D.val (Go.Value.int Go.IntKind.i64 (g))), (D.val (Go.Value.int Go.IntKind.i64 (h))), (D.val (Go.Value.int Go.IntKind.i64 (i)))]), D.nil, D.nil] [(D.val (Go.Value.int Go.IntKind.i64 (n11)))]) ∧
 (bcase (n4 != n11)
 (k [(D.val (Go.Value.bool false))])
 (bcase (n3 == 12)
 (bcase (if Bool.false = Bool.true then !(n1 == 0 && (n2 == 0 && Bool.true)) else n1 == 0 && (n2 == 0 && Bool.true))
 (k [(D.val (Go.Value.bool true))])
 (k [(D.val (Go.Value.bool false))]))
 (k [(D.val (Go.Value.bool false))]))))))))))))))))))))))))))))))))))))))))))) ∨
 ((Says C 6 [] [(D.val (Go.Value.bool false))]) ∧
 (k [(D.val (Go.Value.bool false))]))) := by kernel_rfl
end Go.Proofs.C1R

/- Contracts of chapter 1: entries. -/
namespace Go.Proofs.C1R
open Go Go.Abs Go.Proofs Go.Proofs.C1
set_option maxRecDepth 100000
/-- the error of rules, items and a sequence -/
def mE (r : Ru) (l : List It) (q : List Int) : Int := if bothE r l ≠ 0 then bothE r l else seqE l.length [] q
/-- what is said of mixFor -/
def C43 : FuncId → List D → List D → Prop := fun g ds rs => if g = 43 then ∃ r l q, l.length ≤ 1000000 ∧ q.length ≤ 1000000 ∧ ds = [dRu r, dIts l, dInts q] ∧ rs = [dI (mE r l q)] else Con Tryz.prog g ds rs
abbrev mixV (r : Ru) (n cap : Nat) (e : Int) : Value := .tuple #[.agg #[.int .i64 r.op, .int .i64 r.wu, .int .i64 r.wd, .int .i64 r.tj, .int .i64 r.hj, .int .i64 r.me, .int .i64 r.wp, .int .i64 r.tp, .int .i64 r.hp, .slice (some ⟨500, 0, none⟩) n cap], .int .i64 e]
abbrev mixZ (e : Int) : Value := .tuple #[.agg #[.int .i64 0, .int .i64 0, .int .i64 0, .int .i64 0, .int .i64 0, .int .i64 0, .int .i64 0, .int .i64 0, .int .i64 0, .slice none 0 0], .int .i64 e]
theorem seqE_step {n : Nat} {done : List Int} {x : Int} {t : List Int} : seqE n done (x :: t) = if 0 ≤ x ∧ x ≤ (n : Int) - 1 then (if x ∈ done then 23 else seqE n (done ++ [x]) t) else 6 := rfl
theorem call43 (r : Ru) (l : List It) (q : List Int) (hl : l.length ≤ 1000000) (hq : q.length ≤ 1000000) (cap cap2 : Nat) (hcap : q.length ≤ cap2) :
    CallS Tryz.prog 43 [vRu r.op r.wu r.wd r.tj r.hj r.me r.wp r.tp r.hp, S500 l.length cap, S501 q.length cap2] [I500 (vq l), Q501 (vi q)] (fun v bs => (mE r l q = 0 → v = mixV r l.length cap 0 ∧ bs = [(500, .sym (vq l) false 4)]) ∧ (mE r l q ≠ 0 → v = mixZ (mE r l q) ∧ bs = [])) := by
  let K : Value → Blocks → Prop := fun v bs => (mE r l q = 0 → v = mixV r l.length cap 0 ∧ bs = [(500, .sym (vq l) false 4)]) ∧ (mE r l q ≠ 0 → v = mixZ (mE r l q) ∧ bs = [])
  have bad : ∀ e : Int, e ≠ 0 → mE r l q = e → K (mixZ e) [] := fun e h0 he => ⟨fun h => absurd (he.symm.trans h) h0, fun _ => ⟨by rw [he], rfl⟩⟩
  let inv : Nat → Prop := fun i => i ≤ q.length ∧ bothE r l = 0 ∧ mE r l q = seqE l.length (q.take i) (q.drop i)
  let st : Nat → Slots × Blocks := fun i => (s43 l.length cap q.length cap2 (i : Int), [I500 (vq l), Q501 (vi q), Mx 1000 0 0 0 0 0 0 0 0 0 (.slice none 0 0), Mx 1001 r.op r.wu r.wd r.tj r.hj r.me r.wp r.tp r.hp (S500 l.length cap)])
  refine callS_of (L := fun _ s b => ∃ x, inv x ∧ st x = (s, b)) hokX mixed Tryz.func43 rfl rfl (ids := [0]) (by kernel_rfl) rfl ?_ (fun id hid => ?_)
  · show g43X _ _ r.op r.wu r.wd r.tj r.hj r.me r.wp r.tp r.hp l.length cap (vq l) q.length cap2 (vi q) K
    rw [g43X_text]
    simp only [vq_whole, vq_length]
    have hle : 0 + l.length * 4 ≤ l.length * 4 := by omega
    refine ⟨ruE r, ⟨con21 r⟩, bc_yes hle ⟨itsE l, ⟨con85 l hl⟩, ?_⟩⟩
    refine bc_bne (fun h => ?_) (fun h => ?_)
    · have hb : bothE r l = ruE r := by rw [bothE, if_pos h]
      refine bc_true (by simpa using h) (bc_true (by simpa using h) (bad _ h ?_))
      rw [mE, hb, if_pos h]
    · have hb : bothE r l = itsE l := by rw [bothE, if_neg (by omega)]
      refine bc_bne (fun h2 => ?_) (fun h2 => ?_)
      · refine bc_true (by simpa using h2) (bc_true (by simpa using h2) (bad _ h2 ?_))
        rw [mE, hb, if_pos h2]
      · refine ⟨0, ⟨Nat.zero_le _, by rw [hb]; exact h2, ?_⟩, rfl⟩
        rw [mE, hb, if_neg (by omega)]; rfl
  · obtain rfl := List.mem_singleton.1 hid
    refine ⟨_, st, inv, fun i => q.length - i, ⟨fun s b h => h, by kernel_rfl, ?_⟩⟩
    rintro i ⟨hi, hb, hm⟩
    show r43 _ _ r.op r.wu r.wd r.tj r.hj r.me r.wp r.tp r.hp l.length cap (vq l) q.length cap2 (vi q) (i : Int) _ _ K
    rw [r43_text]
    refine bc_dec (fun h => ?_) (fun h => ?_)
    · have hi' : i < q.length := by omega
      have z0 : (0 : Int) ≤ (i : Int) := by omega
      have hcp : (i : Int) ≤ (cap2 : Int) := by omega
      rw [List.drop_eq_getElem_cons hi', seqE_step] at hm
      simp only [bt z0, bt h, bt hcp, Int.toNat_natCast, at1' (vi_at q i hi'), eq_self, true_and, and_true]
      rw [w64 (z := (l.length : Int) - 1) (by omega) (by omega)]
      refine bc_dec (fun h1 => bad 6 (by omega) ?_) (fun h1 => bc_dec (fun h2 => bad 6 (by omega) ?_) (fun h2 => bc_yes (by rw [vi_length]; omega) ?_))
      · rw [hm, if_neg (by omega)]
      · rw [hm, if_neg (by omega)]
      · rw [if_pos (by omega)] at hm
        rw [vi_pre]
        have hlen : i - 0 = (q.take i).length := by simp; omega
        have c69 := con69 (q.take i) q[i] (by simp; omega)
        rw [show dInts (q.take i) = .sl (i - 0) 1 (vi (q.take i)) by rw [hlen]] at c69
        by_cases hmem : q[i] ∈ q.take i
        · rw [decide_eq_true hmem] at c69
          refine .inl ⟨⟨c69⟩, bad 23 (by omega) ?_⟩
          rw [hm, if_pos hmem]
        · rw [decide_eq_false hmem] at c69
          refine .inr ⟨⟨c69⟩, i + 1, ⟨by omega, hb, ?_⟩, by omega, ?_⟩
          · rw [hm, if_neg hmem, List.take_succ_eq_append_getElem hi']
          · rw [w64 (by omega) (by omega)]; rfl
    · show (if 0 = 0 then _ else _)
      rw [if_pos rfl]
      show n43 _ _ r.op r.wu r.wd r.tj r.hj r.me r.wp r.tp r.hp l.length cap (vq l) K
      rw [n43_text]
      have : i = q.length := by omega
      rw [this, List.drop_length] at hm
      exact ⟨fun _ => ⟨rfl, rfl⟩, fun h => absurd hm h⟩
end Go.Proofs.C1R

/- Contracts of chapter 1: Violations' and costs' entries. -/
namespace Go.Proofs.C1R
open Go Go.Abs Go.Proofs Go.Proofs.C1
set_option maxRecDepth 100000
theorem seqE_zero {n : Nat} : ∀ (q done : List Int), seqE n done q = 0 → (∀ x ∈ q, 0 ≤ x ∧ x < (n : Int)) ∧ q.Nodup ∧ ∀ x ∈ q, x ∉ done
  | [], _, _ => ⟨fun x hx => (List.not_mem_nil hx).elim, List.nodup_nil, fun x hx => (List.not_mem_nil hx).elim⟩
  | x :: t, done, h => by
    rw [seqE_step] at h
    split at h
    · rename_i hx
      split at h
      · omega
      · rename_i hd
        obtain ⟨h1, h2, h3⟩ := seqE_zero _ _ h
        refine ⟨fun y hy => ?_, List.nodup_cons.2 ⟨fun hm => h3 x hm (by simp), h2⟩, fun y hy => ?_⟩
        · rcases List.mem_cons.1 hy with rfl | hy
          · omega
          · exact h1 y hy
        · rcases List.mem_cons.1 hy with rfl | hy
          · exact hd
          · exact fun hm => h3 y hy (by simp [hm])
    · omega
theorem nodup_few : ∀ (n : Nat) (q : List Int), (∀ x ∈ q, 0 ≤ x ∧ x < (n : Int)) → q.Nodup → q.length ≤ n := by
  intro n
  induction n with
  | zero => intro q h _; cases q with | nil => exact Nat.le_refl _ | cons x t => have := h x (by simp); omega
  | succ n ih =>
    intro q h hn
    have h1 := ih (q.erase (n : Int)) (fun x hx => by
      have := (hn.mem_erase_iff).1 hx
      have := h x this.2
      omega) (hn.erase _)
    by_cases hm : (n : Int) ∈ q
    · rw [List.length_erase_of_mem hm] at h1; omega
    · rw [List.erase_of_not_mem hm] at h1; omega
theorem mE_zero {r : Ru} {l : List It} {q : List Int} (h : mE r l q = 0) : ruOk r ∧ SeqOk l q := by
  unfold mE at h
  split at h
  · omega
  · rename_i hb
    have hb : bothE r l = 0 := by omega
    unfold bothE at hb
    split at hb
    · omega
    · rename_i hr
      have hr : ruE r = 0 := by omega
      have hro : ruOk r := by unfold ruE at hr; split at hr; assumption; omega
      unfold itsE at hb
      split at hb
      · omega
      · split at hb
        · omega
        · rename_i h7
          split at hb
          · rename_i hi
            obtain ⟨h1, h2, _⟩ := seqE_zero _ _ h
            have hl := nodup_few _ _ h1 h2
            exact ⟨hro, by omega, by omega, fun j hj => hi _ (List.getElem_mem hj), fun j hj => h1 _ (List.getElem_mem hj)⟩
          · omega
theorem callS_mono {f : FuncId} {args : List Value} {bs : Blocks} {K K' : Value → Blocks → Prop} (h : CallS Tryz.prog f args bs K) (hk : ∀ v b, K v b → K' v b) : CallS Tryz.prog f args bs K' := by
  intro w0 ρ w args' n g ha
  refine (h w0 ρ w args' n g ha).mono ?_
  rintro e w' ⟨v, bs', ρ', v', h1, h2⟩
  exact ⟨v, bs', ρ', v', hk _ _ h1, h2⟩
/-- the table of the entries -/
theorem mix_ok {args : List Value} {bs : Blocks} {K : Value → Blocks → Prop} (hk : mixSpec C43 args bs K) : CallS Tryz.prog 43 args bs K := by
  unfold mixSpec at hk
  split at hk
  · rename_i cs x n cap y m cap2 x' l o1 es1 y' q o2 es2
    split at hk
    · rename_i a b c d e f g h i he
      split at hk
      · rename_i hc
        simp only [Bool.and_eq_true, beq_iff_eq] at hc
        obtain ⟨⟨⟨⟨⟨⟨⟨rfl, rfl⟩, rfl⟩, rfl⟩, rfl⟩, rfl⟩, rfl⟩, rfl⟩ := hc
        unfold mixOut at hk
        obtain ⟨hcap, er, ⟨hs⟩, hk⟩ := bcase_out hk
        unfold C43 at hs
        rw [if_pos rfl] at hs
        obtain ⟨r, l', q', hl, hq, h1, h2⟩ := hs
        injection h1 with h1 h3
        injection h3 with h3 h4
        injection h4 with h4 _
        injection h1 with h1
        simp only [List.cons.injEq, D.val.injEq, Value.int.injEq, true_and, and_true] at h1 h2
        obtain ⟨rfl, rfl, rfl, rfl, rfl, rfl, rfl, rfl, rfl⟩ := h1
        injection h3 with e1 _ e2
        injection h4 with e3 _ e4
        subst e1 e2 e3 e4 h2
        have hcs : cs = #[.int .i64 r.op, .int .i64 r.wu, .int .i64 r.wd, .int .i64 r.tj, .int .i64 r.hj, .int .i64 r.me, .int .i64 r.wp, .int .i64 r.tp, .int .i64 r.hp] := Array.toList_inj.1 he
        subst hcs
        refine callS_mono (call43 r l' q' hl hq cap cap2 (by simpa using hcap)) ?_
        rintro v bs ⟨k1, k2⟩
        by_cases h0 : mE r l' q' = 0
        · obtain ⟨rfl, rfl⟩ := k1 h0
          rw [h0] at hk
          exact hk
        · obtain ⟨rfl, rfl⟩ := k2 h0
          rw [beq_eq_false_iff_ne.2 h0] at hk
          exact hk
      · exact hk.elim
    · exact hk.elim
  · exact hk.elim
theorem preYOK : PreOK Tryz.prog (preY (Con Tryz.prog) C43) := by
  intro g h he args ats H k hk
  unfold preY at he
  split at he
  · rename_i e
    obtain rfl := Option.some.inj he
    rw [beq_iff_eq] at e
    subst e
    exact wpState_call (fun args bs K hk => mix_ok hk) hk
  · unfold preV at he
    split at he
    · obtain rfl := Option.some.inj he
      exact saidH_ok (fun _ _ _ h => h) _ _ _ _ _ hk
    · cases he
theorem hokY : HandlerOK Tryz.prog (hY (Con Tryz.prog) C43) := handlerX_ok mixed preYOK (by decide) 6
end Go.Proofs.C1R

/- Contracts of chapter 1: Violations and costs, the entries. -/
namespace Go.Proofs.C1R
open Go Go.Abs Go.Proofs Go.Proofs.C1
set_option maxRecDepth 100000
abbrev dZ2 : D := .agg [dI 0, dI 0]
/-- what Violation answers -/
def entV (r : Ru) (l : List It) (q : List Int) : List D := if mE r l q ≠ 0 then [dZ2, dI (mE r l q)] else match fvioD r l q with | [x, .val (.bool true)] => [x, dI 0] | _ => [dZ2, dI 12]
def entC (r : Ru) (l : List It) (q : List Int) : List D := if mE r l q ≠ 0 then [dI 0, dI (mE r l q)] else [dI (costE r l q), dI 0]
theorem fvio_two (r : Ru) (l : List It) (q : List Int) : ∀ f p, (∃ a b, fvio r l q f p = [.agg [dI a, dI b], dB true]) ∨ fvio r l q f p = [.agg [dI 0, dI 0], dB false]
  | 0, _ => .inr rfl
  | f + 1, p => by
    unfold fvio
    split
    · exact .inl ⟨_, _, rfl⟩
    · exact fvio_two r l q f (p + 1)
theorem con16 (r : Ru) (l : List It) (q : List Int) (hl : l.length ≤ 1000000) (hq : q.length ≤ 1000000) : Con Tryz.prog 16 [dRu r, dIts l, dInts q] (entV r l q) := by
  refine con_flatC hokY mixed Tryz.func16 rfl (by show 2 ≤ 400; omega) rfl (by kernel_rfl) (fun caps hcaps => ?_)
  show g16 _ _ _ r.op r.wu r.wd r.tj r.hj r.me r.wp r.tp r.hp l.length (caps 500) (vq l) q.length (caps 501) (vi q) _
  rw [g16_text]
  have hc : q.length ≤ caps 501 := by
    have := hcaps
    simp [capsL, layVals, layCells, countC] at this
    omega
  have hC : C43 43 [dRu r, dIts l, dInts q] [dI (mE r l q)] := by
    unfold C43
    rw [if_pos rfl]
    exact ⟨r, l, q, hl, hq, rfl, rfl⟩
  refine bc_yes hc ⟨mE r l q, ⟨hC⟩, ?_⟩
  by_cases h0 : mE r l q = 0
  · obtain ⟨hr, hs⟩ := mE_zero h0
    have c44 := con44 hr hs
    refine bc_true (by rw [h0]; rfl) (bc_yes (by simp) (bc_yes (by simp) ?_))
    simp only [vq_whole, vi_whole]
    unfold entV
    rw [if_neg (by omega)]
    rcases fvio_two r l q q.length 0 with ⟨a, b, e⟩ | e
    · rw [fvioD, e] at c44 ⊢
      exact ⟨a, b, .inl ⟨⟨c44⟩, rfl⟩⟩
    · rw [fvioD, e] at c44 ⊢
      exact ⟨0, 0, .inr ⟨⟨c44⟩, rfl⟩⟩
  · refine bc_false (by simpa using h0) (bc_true (by simpa using h0) ?_)
    unfold entV
    rw [if_pos h0]
theorem con19 (r : Ru) (l : List It) (q : List Int) (hl : l.length ≤ 1000000) (hq : q.length ≤ 1000000) : Con Tryz.prog 19 [dRu r, dIts l, dInts q] (entC r l q) := by
  refine con_flatC hokY mixed Tryz.func19 rfl (by show 2 ≤ 400; omega) rfl (by kernel_rfl) (fun caps hcaps => ?_)
  show g19 _ _ _ r.op r.wu r.wd r.tj r.hj r.me r.wp r.tp r.hp l.length (caps 500) (vq l) q.length (caps 501) (vi q) _
  rw [g19_text]
  have hc : q.length ≤ caps 501 := by
    have := hcaps
    simp [capsL, layVals, layCells, countC] at this
    omega
  have hC : C43 43 [dRu r, dIts l, dInts q] [dI (mE r l q)] := by
    unfold C43
    rw [if_pos rfl]
    exact ⟨r, l, q, hl, hq, rfl, rfl⟩
  refine bc_yes hc ⟨mE r l q, ⟨hC⟩, ?_⟩
  by_cases h0 : mE r l q = 0
  · obtain ⟨hr, hs⟩ := mE_zero h0
    refine bc_true (by rw [h0]; rfl) (bc_yes (by simp) (bc_yes (by simp) ?_))
    simp only [vq_whole, vi_whole]
    unfold entC
    rw [if_neg (by omega)]
    exact ⟨costE r l q, ⟨con45 hr hs⟩, rfl⟩
  · refine bc_false (by simpa using h0) (bc_true (by simpa using h0) ?_)
    unfold entC
    rw [if_pos h0]
end Go.Proofs.C1R

/- What is left to show with empty lists, written out. -/
namespace Go.Proofs.C1R
open Go Go.Abs Go.Proofs Go.Proofs.C1
set_option maxRecDepth 100000
set_option linter.unusedVariables false
def preZ (C : Ct) : FuncId → Option Handler := fun g => if [20, 21].contains g then some (saidH Tryz.prog C) else none
abbrev hZ (C : Ct) : Handler := handlerX Tryz.prog (preZ C) 8 6
def f22z (C : Ct) (L : AtLoop) (a b c d e f g h i : Int) (k : List D → Prop) : Prop := wpFn Tryz.prog (hZ C) L 8 22 #[vRu a b c d e f g h i, .slice none 0 0] (heapOf []) (dataK k)
theorem f22z_text (C : Ct) (L : AtLoop) (a : Int) (b : Int) (c : Int) (d : Int) (e : Int) (f : Int) (g : Int) (h : Int) (i : Int) (k : List D → Prop) : f22z C L a b c d e f g h i k =
 (∃ n1 : Int,
 ((Says C 20 [(D.agg [(D.val (Go.Value.int Go.IntKind.i64 (a))), (D.val (Go.Value.int Go.IntKind.i64 (b))), (D.val (Go.Value.int Go.IntKind.i64 (c))), (D.val (Go.Value.int Go.IntKind.i64 (d))), (D.val (Go.Value.int Go.IntKind.i64 (e))), (D.val (Go.Value.int Go.IntKind.i64 (f))), (D.val (Go.Value.int Go.IntKind.i64 (g))), (D.val (Go.Value.int Go.IntKind.i64 (h))), (D.val (Go.Value.int Go.IntKind.i64 (i)))])] [(D.val (Go.Value.int Go.IntKind.i64 (n1)))]) ∧
 (bcase (n1 != 0)
 (k [(D.val (Go.Value.int Go.IntKind.i64 (n1)))])
 (k [(D.val (Go.Value.int Go.IntKind.i64 (10 : Int)))])))) := by kernel_rfl
def f23z (C : Ct) (L : AtLoop) (n cap : Nat) (l : List Value) (k : List D → Prop) : Prop := wpFn Tryz.prog (hZ C) L 8 23 #[S500 n cap, .slice none 0 0] (heapOf [I500 l]) (dataK k)
theorem f23z_text (C : Ct) (L : AtLoop) (n : Nat) (cap : Nat) (l : List Go.Value) (k : List D → Prop) : f23z C L n cap l k =
 (k [(D.val (Go.Value.int Go.IntKind.i64 (0 : Int)))]) := by kernel_rfl
def f24z (C : Ct) (L : AtLoop) (a b c d e f g h i : Int) (n cap : Nat) (l : List Value) (k : List D → Prop) : Prop := wpFn Tryz.prog (hZ C) L 8 24 #[vRu a b c d e f g h i, S500 n cap, .slice none 0 0] (heapOf [I500 l]) (dataK k)
theorem f24z_text (C : Ct) (L : AtLoop) (a : Int) (b : Int) (c : Int) (d : Int) (e : Int) (f : Int) (g : Int) (h : Int) (i : Int) (n : Nat) (cap : Nat) (l : List Go.Value) (k : List D → Prop) : f24z C L a b c d e f g h i n cap l k =
 (k [(D.agg [(D.val (Go.Value.int Go.IntKind.i64 (0 : Int))), (D.val (Go.Value.int Go.IntKind.i64 (0 : Int)))]), (D.val (Go.Value.bool false))]) := by kernel_rfl
def f25z (C : Ct) (L : AtLoop) (a b c d e f g h i : Int) (n cap : Nat) (l : List Value) (k : List D → Prop) : Prop := wpFn Tryz.prog (hZ C) L 8 25 #[vRu a b c d e f g h i, S500 n cap, .slice none 0 0] (heapOf [I500 l]) (dataK k)
theorem f25z_text (C : Ct) (L : AtLoop) (a : Int) (b : Int) (c : Int) (d : Int) (e : Int) (f : Int) (g : Int) (h : Int) (i : Int) (n : Nat) (cap : Nat) (l : List Go.Value) (k : List D → Prop) : f25z C L a b c d e f g h i n cap l k =
 (k [(D.val (Go.Value.int Go.IntKind.i64 (0 : Int)))]) := by kernel_rfl
def f17z (C : Ct) (L : AtLoop) (k : List D → Prop) : Prop := wpFn Tryz.prog (hZ C) L 8 17 #[.slice none 0 0] (heapOf []) (dataK k)
theorem f17z_text (C : Ct) (L : AtLoop) (k : List D → Prop) : f17z C L k =
 (((0 = 0) ∧
 (0 = 0)) ∧
 (k [(D.sl 0 4 [])])) := by kernel_rfl
def f18z (C : Ct) (L : AtLoop) (k : List D → Prop) : Prop := wpFn Tryz.prog (hZ C) L 8 18 #[.slice none 0 0] (heapOf []) (dataK k)
theorem f18z_text (C : Ct) (L : AtLoop) (k : List D → Prop) : f18z C L k =
 (((0 = 0) ∧
 (0 = 0)) ∧
 (k [(D.sl 0 1 [])])) := by kernel_rfl
end Go.Proofs.C1R

/- Chapter 1: empty lists, and the law of the violations. -/
namespace Go.Proofs.C1R
open Go Go.Abs Go.Proofs Go.Proofs.C1
set_option maxRecDepth 100000
theorem hokZ : HandlerOK Tryz.prog (hZ (Con Tryz.prog)) := handlerX_ok mixed (fun g h he args ats H k hk => by
  unfold preZ at he
  split at he
  · obtain rfl := Option.some.inj he
    exact saidH_ok (fun _ _ _ h => h) _ _ _ _ _ hk
  · cases he) (by decide) 6
theorem con17n : Con Tryz.prog 17 [.nil] [dIts []] := by
  refine con_walk hokZ mixed (u := 8) (by decide) Tryz.func17 rfl (by show 0 ≤ 400; omega) (fun caps => ?_)
  show f17z _ _ _
  rw [f17z_text]; exact ⟨⟨rfl, rfl⟩, rfl⟩
theorem con18n : Con Tryz.prog 18 [.nil] [dInts []] := by
  refine con_walk hokZ mixed (u := 8) (by decide) Tryz.func18 rfl (by show 0 ≤ 400; omega) (fun caps => ?_)
  show f18z _ _ _
  rw [f18z_text]; exact ⟨⟨rfl, rfl⟩, rfl⟩
theorem con22n (r : Ru) : Con Tryz.prog 22 [dRu r, .nil] [dI (bothE r [])] := by
  refine con_walk hokZ mixed (u := 8) (by decide) Tryz.func22 rfl (by show 0 ≤ 400; omega) (fun caps => ?_)
  show f22z _ _ r.op r.wu r.wd r.tj r.hj r.me r.wp r.tp r.hp _
  rw [f22z_text]
  refine ⟨ruE r, ⟨con20 r⟩, bc_bne (fun h => ?_) (fun h => ?_)⟩
  · rw [bothE, if_pos h]
  · rw [bothE, if_neg (by omega)]; rfl
theorem con23n (l : List It) : Con Tryz.prog 23 [dIts l, .nil] [dI 0] := by
  refine con_walk hokZ mixed (u := 8) (by decide) Tryz.func23 rfl (by show 1 ≤ 400; omega) (fun caps => ?_)
  show f23z _ _ l.length (caps 500) (vq l) _
  rw [f23z_text]
theorem con24n (r : Ru) (l : List It) : Con Tryz.prog 24 [dRu r, dIts l, .nil] [dZ2, dB false] := by
  refine con_walk hokZ mixed (u := 8) (by decide) Tryz.func24 rfl (by show 1 ≤ 400; omega) (fun caps => ?_)
  show f24z _ _ r.op r.wu r.wd r.tj r.hj r.me r.wp r.tp r.hp l.length (caps 500) (vq l) _
  rw [f24z_text]
theorem con25n (r : Ru) (l : List It) : Con Tryz.prog 25 [dRu r, dIts l, .nil] [dI 0] := by
  refine con_walk hokZ mixed (u := 8) (by decide) Tryz.func25 rfl (by show 1 ≤ 400; omega) (fun caps => ?_)
  show f25z _ _ r.op r.wu r.wd r.tj r.hj r.me r.wp r.tp r.hp l.length (caps 500) (vq l) _
  rw [f25z_text]
end Go.Proofs.C1R

/- Chapter 1: the law of the violations. -/
namespace Go.Proofs.C1R
open Go Go.Abs Go.Proofs Go.Proofs.C1
set_option maxRecDepth 100000
theorem con6 : Con Tryz.prog 6 [] [dB true] := by
  intro w args hr
  cases args with | mk l => cases hr with | nil =>
  refine (awake_calls w).mono ?_
  rintro e w' ⟨rfl, hb⟩
  exact ⟨⟨[.bool true], [], rfl, .cons (.val _ _ rfl) (.nil _)⟩, hb⟩
theorem hokL : HandlerOK Tryz.prog (hL (Con Tryz.prog)) := handlerX_ok mixed (fun g h he args ats H k hk => by
  unfold preL at he
  split at he
  · obtain rfl := Option.some.inj he
    exact fixH_ok (fun _ _ _ h => h) _ _ _ _ _ hk
  · split at he
    · obtain rfl := Option.some.inj he
      exact fixH_ok (fun _ _ _ h => h) _ _ _ _ _ hk
    · split at he
      · obtain rfl := Option.some.inj he
        exact saidH_ok (fun _ _ _ h => h) _ _ _ _ _ hk
      · cases he) (by decide) 6
theorem entV_bad {r : Ru} {l : List It} {q : List Int} {e : Int} (h : mE r l q = e) (h0 : e ≠ 0) : entV r l q = [dZ2, dI e] := by subst h; rw [entV, if_pos h0]
theorem entC_bad {r : Ru} {l : List It} {q : List Int} {e : Int} (h : mE r l q = e) (h0 : e ≠ 0) : entC r l q = [dI 0, dI e] := by subst h; rw [entC, if_pos h0]
theorem entC_good {r : Ru} {l : List It} {q : List Int} (h : mE r l q = 0) : entC r l q = [dI (costE r l q), dI 0] := by rw [entC, if_neg (by omega)]
theorem con5 (r : Ru) (l : List It) (q : List Int) (hl : l.length ≤ 1000000) (hq : q.length ≤ 1000000) : Con Tryz.prog 5 [dRu r, dIts l, dInts q] [dB true] := by
  refine con_flat hokL mixed Tryz.func5 rfl (by show 2 ≤ 400; omega) rfl (by kernel_rfl) (fun caps => ?_)
  show g5 _ _ r.op r.wu r.wd r.tj r.hj r.me r.wp r.tp r.hp l.length (caps 500) (vq l) q.length (caps 501) (vi q) _
  rw [g5_text]
  have h1 : 0 + l.length * 4 ≤ l.length * 4 := by omega
  have h2 : 0 + q.length * 1 ≤ q.length := by omega
  simp only [vq_whole, vi_whole, vq_length, vi_length, bt h1, bt h2, eq_self, true_and]
  have c16 := con16 r l q hl hq
  have c19 := con19 r l q hl hq
  refine .inl ⟨⟨con6⟩, bc_dec (fun _ => bc_dec (fun _ => trivial) (fun _ => ⟨⟨con17 l hl⟩, ⟨con18 q hq⟩, ?_⟩)) (fun _ => trivial)⟩
  by_cases hb : bothE r l = 0
  · by_cases hs : seqE l.length [] q = 0
    · have hm : mE r l q = 0 := by rw [mE, if_neg (by omega), hs]
      obtain ⟨hr, hS⟩ := mE_zero hm
      rw [entC_good hm] at c19
      have c24 := con24 hr hS
      have c25 := con25 hr hS
      rw [entV, if_neg (by omega)] at c16
      rcases fvio_two r l q q.length 0 with ⟨a, b, e⟩ | e
      · rw [fvioD, e] at c16 c24
        refine ⟨a, b, 0, ⟨c16⟩, ⟨con17 l hl⟩, ⟨con18 q hq⟩, costE r l q, 0, ⟨c19⟩, ruE r, ⟨con20 r⟩, ruE r, ⟨con21 r⟩, bc_false (by simp) ⟨bothE r l, ⟨con22 r l hl⟩, bc_true (by simpa using hb) ⟨seqE l.length [] q, ⟨con23 l q hl hq⟩, bc_false (by simpa using hs) ⟨a, b, .inl ⟨⟨c24⟩, bc_false (by simp) ⟨costE r l q, ⟨c25⟩, bc_false (by simp) (bc_true (by simp) (bc_true (by simp) trivial))⟩⟩⟩⟩⟩⟩
      · rw [fvioD, e] at c16 c24
        refine ⟨0, 0, 12, ⟨c16⟩, ⟨con17 l hl⟩, ⟨con18 q hq⟩, costE r l q, 0, ⟨c19⟩, ruE r, ⟨con20 r⟩, ruE r, ⟨con21 r⟩, bc_false (by simp) ⟨bothE r l, ⟨con22 r l hl⟩, bc_true (by simpa using hb) ⟨seqE l.length [] q, ⟨con23 l q hl hq⟩, bc_false (by simpa using hs) ⟨0, 0, .inr ⟨⟨c24⟩, bc_false (by simp) ⟨costE r l q, ⟨c25⟩, bc_false (by simp) (bc_true (by simp) (bc_true (by simp) trivial))⟩⟩⟩⟩⟩⟩
    · have hm : mE r l q = seqE l.length [] q := by rw [mE, if_neg (by omega)]
      rw [entV_bad hm hs] at c16
      rw [entC_bad hm hs] at c19
      exact ⟨0, 0, _, ⟨c16⟩, ⟨con17 l hl⟩, ⟨con18 q hq⟩, 0, _, ⟨c19⟩, ruE r, ⟨con20 r⟩, ruE r, ⟨con21 r⟩, bc_false (by simp) ⟨bothE r l, ⟨con22 r l hl⟩, bc_true (by simpa using hb) ⟨seqE l.length [] q, ⟨con23 l q hl hq⟩, bc_true (by simpa using hs) (bc_true (by simp) (bc_true (by simp) (bc_true (by simp) (bc_true (by simp) trivial))))⟩⟩⟩
  · have hm : mE r l q = bothE r l := by rw [mE, if_pos hb]
    rw [entV_bad hm hb] at c16
    rw [entC_bad hm hb] at c19
    exact ⟨0, 0, _, ⟨c16⟩, ⟨con17 l hl⟩, ⟨con18 q hq⟩, 0, _, ⟨c19⟩, ruE r, ⟨con20 r⟩, ruE r, ⟨con21 r⟩, bc_false (by simp) ⟨bothE r l, ⟨con22 r l hl⟩, bc_false (by simpa using hb) (bc_true (by simpa using hb) (bc_true (by simp) (bc_true (by simp) (bc_true (by simp) (bc_true (by simp) trivial)))))⟩⟩
end Go.Proofs.C1R

/- Chapter 1: the law of the violations with empty lists. -/
namespace Go.Proofs.C1R
open Go Go.Abs Go.Proofs Go.Proofs.C1
set_option maxRecDepth 100000
theorem both_nil (r : Ru) : bothE r [] ≠ 0 := by
  unfold bothE
  split
  · assumption
  · show (10 : Int) ≠ 0
    omega
theorem con5a (r : Ru) (q : List Int) (hq : q.length ≤ 1000000) : Con Tryz.prog 5 [dRu r, .nil, dInts q] [dB true] := by
  refine con_flat hokL mixed Tryz.func5 rfl (by show 1 ≤ 400; omega) rfl (by kernel_rfl) (fun caps => ?_)
  show g5a _ _ r.op r.wu r.wd r.tj r.hj r.me r.wp r.tp r.hp q.length (caps 500) (vi q) _
  rw [g5a_text]
  have h2 : 0 + q.length * 1 ≤ q.length := by omega
  simp only [vi_whole, vi_length, bt h2, eq_self, true_and]
  have c16 := con16 r [] q (by simp) hq
  have c19 := con19 r [] q (by simp) hq
  have hb := both_nil r
  have hm : mE r [] q = bothE r [] := by rw [mE, if_pos hb]
  rw [entV_bad hm hb] at c16
  rw [entC_bad hm hb] at c19
  exact .inl ⟨⟨con6⟩, bc_dec (fun _ => trivial) (fun _ => ⟨⟨con17n⟩, ⟨con18 q hq⟩, 0, 0, _, ⟨c16⟩, ⟨con17n⟩, ⟨con18 q hq⟩, 0, _, ⟨c19⟩, ruE r, ⟨con20 r⟩, ruE r, ⟨con21 r⟩, bc_false (by simp) ⟨bothE r [], ⟨con22n r⟩, bc_false (by simpa using hb) (bc_true (by simpa using hb) (bc_true (by simp) (bc_true (by simp) (bc_true (by simp) (bc_true (by simp) trivial)))))⟩⟩)⟩
theorem con5c (r : Ru) : Con Tryz.prog 5 [dRu r, .nil, .nil] [dB true] := by
  refine con_flat hokL mixed Tryz.func5 rfl (by show 0 ≤ 400; omega) rfl (by kernel_rfl) (fun caps => ?_)
  show g5c _ _ r.op r.wu r.wd r.tj r.hj r.me r.wp r.tp r.hp _
  rw [g5c_text]
  simp only [eq_self, true_and]
  have c16 := con16 r [] [] (by simp) (by simp)
  have c19 := con19 r [] [] (by simp) (by simp)
  have hb := both_nil r
  have hm : mE r [] [] = bothE r [] := by rw [mE, if_pos hb]
  rw [entV_bad hm hb] at c16
  rw [entC_bad hm hb] at c19
  exact .inl ⟨⟨con6⟩, ⟨con17n⟩, ⟨con18n⟩, 0, 0, _, ⟨c16⟩, ⟨con17n⟩, ⟨con18n⟩, 0, _, ⟨c19⟩, ruE r, ⟨con20 r⟩, ruE r, ⟨con21 r⟩, bc_false (by simp) ⟨bothE r [], ⟨con22n r⟩, bc_false (by simpa using hb) (bc_true (by simpa using hb) (bc_true (by simp) (bc_true (by simp) (bc_true (by simp) (bc_true (by simp) trivial)))))⟩⟩
theorem con5b (r : Ru) (l : List It) (hl : l.length ≤ 1000000) : Con Tryz.prog 5 [dRu r, dIts l, .nil] [dB true] := by
  refine con_flat hokL mixed Tryz.func5 rfl (by show 1 ≤ 400; omega) rfl (by kernel_rfl) (fun caps => ?_)
  show g5b _ _ r.op r.wu r.wd r.tj r.hj r.me r.wp r.tp r.hp l.length (caps 500) (vq l) _
  rw [g5b_text]
  have h1 : 0 + l.length * 4 ≤ l.length * 4 := by omega
  simp only [vq_whole, vq_length, bt h1, eq_self, true_and]
  have c16 := con16 r l [] hl (by simp)
  have c19 := con19 r l [] hl (by simp)
  refine .inl ⟨⟨con6⟩, bc_dec (fun _ => ⟨⟨con17 l hl⟩, ⟨con18n⟩, ?_⟩) (fun _ => trivial)⟩
  by_cases hb : bothE r l = 0
  · have hm : mE r l [] = 0 := by rw [mE, if_neg (by omega)]; rfl
    rw [entC_good hm] at c19
    rw [entV, if_neg (by omega)] at c16
    exact ⟨0, 0, 12, ⟨c16⟩, ⟨con17 l hl⟩, ⟨con18n⟩, 0, 0, ⟨c19⟩, ruE r, ⟨con20 r⟩, ruE r, ⟨con21 r⟩, bc_false (by simp) ⟨bothE r l, ⟨con22 r l hl⟩, bc_true (by simpa using hb) ⟨0, ⟨con23n l⟩, bc_false (by simp) ⟨0, 0, .inr ⟨⟨con24n r l⟩, bc_false (by simp) ⟨0, ⟨con25n r l⟩, bc_false (by simp) (bc_true (by simp) (bc_true (by simp) trivial))⟩⟩⟩⟩⟩⟩
  · have hm : mE r l [] = bothE r l := by rw [mE, if_pos hb]
    rw [entV_bad hm hb] at c16
    rw [entC_bad hm hb] at c19
    exact ⟨0, 0, _, ⟨c16⟩, ⟨con17 l hl⟩, ⟨con18n⟩, 0, _, ⟨c19⟩, ruE r, ⟨con20 r⟩, ruE r, ⟨con21 r⟩, bc_false (by simp) ⟨bothE r l, ⟨con22 r l hl⟩, bc_false (by simpa using hb) (bc_true (by simpa using hb) (bc_true (by simp) (bc_true (by simp) (bc_true (by simp) (bc_true (by simp) trivial)))))⟩⟩
end Go.Proofs.C1R
