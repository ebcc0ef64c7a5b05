/-
  Two blocks that a statement lays and fills: what is left of it is a world behind the elder one, and what the two blocks hold.
-/
import Derived.Test.YtblbfommjfekeaaGa
import Derived.Test.YtblbfommjfekeaaSurf
namespace Go.Proofs.Ytblbfommjfekeaa
set_option linter.unusedVariables false
open Go.ChangeShapes Go.WideShapes Go.ChangeAt Go.RowKit

theorem two_end {P : Program} {ops : Array Oper} {Q : Exit → Act → World → Prop} {a : Act} {W w : World} {o1 o2 : Oper} (T : TypeId) (n : Nat) (p1 x1 p2 x2 : Operand) (b1 b2 : Nat) (z1 z2 : Array Value) (v1 v2 : List Value)
    (h1 : o1.op = .store T p1 x1) (g1 : o1.guard = none) (d1 : o1.dst = none) (h2 : o2.op = .store T p2 x2) (g2 : o2.guard = none) (d2 : o2.dst = none)
    (e1 : a.eval p1 = .pointer (some ⟨b1, 0, none⟩)) (y1 : a.eval x1 = .agg v1.toArray) (e2 : a.eval p2 = .pointer (some ⟨b2, 0, none⟩)) (y2 : a.eval x2 = .agg v2.toArray)
    (hs : ∀ w, (sizeOf T).run P w = .ok n w) (hn1 : v1.length = n) (hn2 : v2.length = n) (h0 : n ≠ 0) (u1 : ∀ v ∈ v1, v.oneCell' = true) (u2 : ∀ v ∈ v2, v.oneCell' = true)
    (hM : More W w) (hb1 : W.heap.size ≤ b1) (hb2 : W.heap.size ≤ b2) (hc1 : w.heap[b1]? = some (.cells z1 T (0, 0))) (hz1 : z1.size = n) (hc2 : w.heap[b2]? = some (.cells z2 T (0, 0))) (hz2 : z2.size = n) (hne : ¬ b1 = b2)
    (hK : ∀ wx, More W wx → wx.heap[b1]? = some (.cells v1.toArray T (0, 0)) → wx.heap[b2]? = some (.cells v2.toArray T (0, 0)) → wpList P ops Q [] a wx) : wpList P ops Q [o1, o2] a w := by
  have ne2 : b2 ≠ b1 := fun e => hne e.symm
  have c2 : (w.setRow b1 v1.toArray).heap[b2]? = some (.cells z2 T (0, 0)) := (setRow_other _ _ _ _ ne2).trans hc2
  refine wpList_store_new T p1 x1 n b1 z1 v1 h1 g1 d1 e1 y1 (hs _) hn1 h0 u1 hc1 hz1 ?_
  refine wpList_store_new T p2 x2 n b2 z2 v2 h2 g2 d2 e2 y2 (hs _) hn2 h0 u2 c2 hz2 ?_
  exact hK _ (more_setRow (more_setRow hM hb1) hb2) ((setRow_other _ _ _ _ hne).trans (heap_setRow hc1)) (heap_setRow c2)
theorem heap_up {w w' : World} (h : More w w') {m : Nat} {O : Obj} (hm : w.heap[m]? = some O) : w'.heap[m]? = some O := by
  obtain ⟨r, rfl⟩ := h
  exact (heap_more _ r _ (Array.getElem?_eq_some_iff.1 hm).1).trans hm
theorem iv_cells {w : World} {m : Nat} {x1 x2 : Int} {x3 : Bool} {T : TypeId} (h : w.heap[m]? = some (.cells #[.int .i64 x1, .int .i64 x2, .bool x3] T (0, 0))) :
    m < w.heap.size ∧ w.cell? ⟨m, 0, none⟩ = some (.int .i64 x1) ∧ w.cell? ⟨m, 1, none⟩ = some (.int .i64 x2) ∧ w.cell? ⟨m, 2, none⟩ = some (.bool x3) := by
  refine ⟨(Array.getElem?_eq_some_iff.1 h).1, ?_, ?_, ?_⟩ <;> simp [World.cell?, h]
/-- A struct of twenty-three cells in a block of its own comes out of whatever world lies behind. -/
theorem load_sf_up {w w' : World} {b : Nat} {s : Sf} (h : w.heap[b]? = some (.cells (cellsS s).toArray 25 (0, 0))) (hM : More w w') : (loadWhole 25 ⟨b, 0, none⟩).run Try.prog w' = .ok (sfV s) w' := load_sf_obj (heap_up hM h)
end Go.Proofs.Ytblbfommjfekeaa

