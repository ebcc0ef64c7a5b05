/-
  Two blocks of two types that a statement lays and fills.
-/
import Derived.Test.YtfhnddikghgbkaaGr5
import Derived.Test.YtfhnddikghgbkaaReg8
import Derived.Test.YtfhnddikghgbkaaGm5
namespace Go.Proofs.Ytfhnddikghgbkaa
set_option linter.unusedVariables false
open Go.ChangeShapes Go.WideShapes Go.ChangeAt Go.RowKit

theorem two_end2 {P : Program} {ops : Array Oper} {Q : Exit → Act → World → Prop} {a : Act} {W w : World} {o1 o2 : Oper} {rest : List Oper} (T U : TypeId) (n m : Nat) (p1 x1 p2 x2 : Operand) (b1 b2 : Nat) (z1 z2 : Array Value) (v1 v2 : List Value)
    (h1 : o1.op = .store T p1 x1) (g1 : o1.guard = none) (d1 : o1.dst = none) (h2 : o2.op = .store U p2 x2) (g2 : o2.guard = none) (d2 : o2.dst = none)
    (e1 : a.eval p1 = .pointer (some ⟨b1, 0, none⟩)) (y1 : a.eval x1 = .agg v1.toArray) (e2 : a.eval p2 = .pointer (some ⟨b2, 0, none⟩)) (y2 : a.eval x2 = .agg v2.toArray)
    (hs1 : ∀ w, (sizeOf T).run P w = .ok n w) (hs2 : ∀ w, (sizeOf U).run P w = .ok m w) (hn1 : v1.length = n) (hn2 : v2.length = m) (h01 : n ≠ 0) (h02 : m ≠ 0) (u1 : ∀ v ∈ v1, v.oneCell' = true) (u2 : ∀ v ∈ v2, v.oneCell' = true)
    (hM : More W w) (hb1 : W.heap.size ≤ b1) (hb2 : W.heap.size ≤ b2) (hc1 : w.heap[b1]? = some (.cells z1 T (0, 0))) (hz1 : z1.size = n) (hc2 : w.heap[b2]? = some (.cells z2 U (0, 0))) (hz2 : z2.size = m) (hne : ¬ b1 = b2)
    (hK : ∀ wx, More W wx → wx.heap[b1]? = some (.cells v1.toArray T (0, 0)) → wx.heap[b2]? = some (.cells v2.toArray U (0, 0)) → wpList P ops Q rest a wx) : wpList P ops Q (o1 :: o2 :: rest) a w := by
  have ne2 : b2 ≠ b1 := fun e => hne e.symm
  have c2 : (w.setRow b1 v1.toArray).heap[b2]? = some (.cells z2 U (0, 0)) := (setRow_other _ _ _ _ ne2).trans hc2
  refine wpList_store_new T p1 x1 n b1 z1 v1 h1 g1 d1 e1 y1 (hs1 _) hn1 h01 u1 hc1 hz1 ?_
  refine wpList_store_new U p2 x2 m b2 z2 v2 h2 g2 d2 e2 y2 (hs2 _) hn2 h02 u2 c2 hz2 ?_
  exact hK _ (more_setRow (more_setRow hM hb1) hb2) ((setRow_other _ _ _ _ hne).trans (heap_setRow hc1)) (heap_setRow c2)
end Go.Proofs.Ytfhnddikghgbkaa

