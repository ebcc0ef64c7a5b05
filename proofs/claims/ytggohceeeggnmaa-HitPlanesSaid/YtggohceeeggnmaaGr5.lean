/-
  Two blocks that a statement lays and fills: what is left of it is a world behind the elder one, and what the two blocks hold.
  How much a glass bends light: the contracts of Line, Index.
  What is built of a lens; worlds that differ beneath a row; an append that keeps what is younger.
-/
import Derived.Test.YtggohceeeggnmaaGa
import Derived.Test.YtggohceeeggnmaaSurf
import Derived.Test.YtggohceeeggnmaaGlass
import Derived.Test.YtggohceeeggnmaaGb
import Derived.Test.YtggohceeeggnmaaGg
import Derived.Test.YtggohceeeggnmaaGz5
import Derived.Test.YtggohceeeggnmaaIvDiv
import Derived.Test.YtggohceeeggnmaaGf
import Derived.Test.YtggohceeeggnmaaGlassRdW

namespace Go.Proofs.Ytggohceeeggnmaa
set_option linter.unusedVariables false
open Go.ChangeShapes Go.WideShapes Go.ChangeAt Go.RowKit

theorem two_end {P : Program} {ops : Array Oper} {Q : Exit → Act → World → Prop} {a : Act} {W w : World} {o1 o2 : Oper} (T : TypeId) (n : Nat) (p1 x1 p2 x2 : Operand) (b1 b2 : Nat) (z1 z2 : Array Value) (v1 v2 : List Value)
    (h1 : o1.op = .store T p1 x1) (g1 : o1.guard = none) (d1 : o1.dst = none) (h2 : o2.op = .store T p2 x2) (g2 : o2.guard = none) (d2 : o2.dst = none)
    (e1 : a.eval p1 = .pointer (some ⟨b1, 0, none⟩)) (y1 : a.eval x1 = .agg v1.toArray) (e2 : a.eval p2 = .pointer (some ⟨b2, 0, none⟩)) (y2 : a.eval x2 = .agg v2.toArray)
    (hs : ∀ w, (sizeOf T).run P w = .ok n w) (hn1 : v1.length = n) (hn2 : v2.length = n) (h0 : n ≠ 0) (u1 : ∀ v ∈ v1, v.oneCell' = true) (u2 : ∀ v ∈ v2, v.oneCell' = true)
    (hM : More W w) (hb1 : W.heap.size ≤ b1) (hb2 : W.heap.size ≤ b2) (hc1 : w.heap[b1]? = some (.cells z1 T (0, 0))) (hz1 : z1.size = n) (hc2 : w.heap[b2]? = some (.cells z2 T (0, 0))) (hz2 : z2.size = n) (hne : ¬ b1 = b2)
    (hK : ∀ wx, More W wx → wx.heap[b1]? = some (.cells v1.toArray T (0, 0)) → wx.heap[b2]? = some (.cells v2.toArray T (0, 0)) → wpList P ops Q [] a wx) : wpList P ops Q [o1, o2] a w := by
  have ne2 : b2 ≠ b1 := fun e => hne e.symm
  have c2 : (w.setRow b1 v1.toArray).heap[b2]? = some (.cells z2 T (0, 0)) := (setRow_other _ _ _ _ ne2).trans hc2
  refine wpList_store_new T p1 x1 n b1 z1 v1 h1 g1 d1 e1 y1 (hs _) hn1 h0 u1 hc1 hz1 ?_
  refine wpList_store_new T p2 x2 n b2 z2 v2 h2 g2 d2 e2 y2 (hs _) hn2 h0 u2 c2 hz2 ?_
  exact hK _ (more_setRow (more_setRow hM hb1) hb2) ((setRow_other _ _ _ _ hne).trans (heap_setRow hc1)) (heap_setRow c2)
theorem heap_up {w w' : World} (h : More w w') {m : Nat} {O : Obj} (hm : w.heap[m]? = some O) : w'.heap[m]? = some O := by
  obtain ⟨r, rfl⟩ := h
  exact (heap_more _ r _ (Array.getElem?_eq_some_iff.1 hm).1).trans hm
theorem iv_cells {w : World} {m : Nat} {x1 x2 : Int} {x3 : Bool} {T : TypeId} (h : w.heap[m]? = some (.cells #[.int .i64 x1, .int .i64 x2, .bool x3] T (0, 0))) :
    m < w.heap.size ∧ w.cell? ⟨m, 0, none⟩ = some (.int .i64 x1) ∧ w.cell? ⟨m, 1, none⟩ = some (.int .i64 x2) ∧ w.cell? ⟨m, 2, none⟩ = some (.bool x3) := by
  refine ⟨(Array.getElem?_eq_some_iff.1 h).1, ?_, ?_, ?_⟩ <;> simp [World.cell?, h]
end Go.Proofs.Ytggohceeeggnmaa

namespace Go.Proofs.Ytggohceeeggnmaa
set_option linter.unusedVariables false
open Go.ChangeShapes Go.WideShapes Go.ChangeAt Go.RowKit

theorem new_iv : NewRun Try.prog 23 #[.int .i64 0, .int .i64 0, .bool false] := fun w => by go_simp
theorem size_ivT (w : World) : (sizeOf 23).run Try.prog w = .ok 3 w := by kernel_rfl
theorem one_iv (a b : Int) (c : Bool) : ∀ v ∈ [Value.int .i64 a, .int .i64 b, .bool c], v.oneCell' = true := by simp [Value.oneCell']

abbrev cellsI (x : Iv) : List Value := [.int .i64 x.lo, .int .i64 x.hi, .bool x.no]
abbrev zeroI : Array Value := #[.int .i64 0, .int .i64 0, .bool false]
/-- What lies where, while the sum is made. -/
structure IxW (W wr : World) (g : Gl) (l S : Iv) (bs bl : Nat) : Prop where
  more : More W wr
  gl : wr.heap[W.heap.size]? = some (.cells (cellsG g).toArray 100 (0, 0))
  res : wr.heap[W.heap.size + 2]? = some (.cells zeroI 23 (0, 0))
  sum : wr.heap[bs]? = some (.cells (cellsI S).toArray 23 (0, 0))
  lam : wr.heap[bl]? = some (.cells (cellsI l).toArray 23 (0, 0))
  ord : W.heap.size + 2 < bs ∧ W.heap.size + 2 < bl ∧ bs ≠ bl
section
variable {W wr wr' : World} {g : Gl} {l S : Iv} {bs bl : Nat}
theorem IxW.up (h : IxW W wr g l S bs bl) (hm : More wr wr') : IxW W wr' g l S bs bl := by
  obtain ⟨r, rfl⟩ := hm
  have k : ∀ {b : Nat} {o : Obj}, wr.heap[b]? = some o → (Go.Proofs.Ytggohceeeggnmaa.more wr r).heap[b]? = some o := fun hb => (heap_more wr r _ (Array.getElem?_eq_some_iff.1 hb).1).trans hb
  exact ⟨h.more.trans ⟨r, rfl⟩, k h.gl, k h.res, k h.sum, k h.lam, h.ord⟩
theorem IxW.next (h : IxW W wr g l S bs bl) (S' : Iv) : IxW W (wr.setRow bs (cellsI S').toArray) g l S' bs bl := by
  obtain ⟨o1, o2, o3⟩ := h.ord
  have k : ∀ {b : Nat} {o : Obj}, b ≠ bs → wr.heap[b]? = some o → (wr.setRow bs (cellsI S').toArray).heap[b]? = some o := fun hb hx => (setRow_other _ _ _ _ (by omega)).trans hx
  exact ⟨more_setRow h.more (by omega), k (by omega) h.gl, k (by omega) h.res, heap_setRow h.sum, k (Ne.symm o3) h.lam, h.ord⟩
theorem IxW.lt (h : IxW W wr g l S bs bl) : W.heap.size < wr.heap.size ∧ W.heap.size + 2 < wr.heap.size ∧ bs < wr.heap.size ∧ bl < wr.heap.size :=
  ⟨(Array.getElem?_eq_some_iff.1 h.gl).1, (Array.getElem?_eq_some_iff.1 h.res).1, (Array.getElem?_eq_some_iff.1 h.sum).1, (Array.getElem?_eq_some_iff.1 h.lam).1⟩
end

end Go.Proofs.Ytggohceeeggnmaa

namespace Go.Proofs.Ytggohceeeggnmaa
set_option linter.unusedVariables false
open Go.ChangeShapes Go.WideShapes Go.ChangeAt Go.RowKit

@[reducible] def syV (s : Iv) (v : Value) : Value := .agg #[v, .int .i64 s.lo, .int .i64 s.hi, .bool s.no]
theorem obj_under {w0 w1 : World} {O : Obj} (h : More (w0.alloc O) w1) : w1.heap[w0.heap.size]? = some O := by
  obtain ⟨r, rfl⟩ := h
  rw [heap_more _ _ _ (by simp), heap_alloc_new]
theorem heap_at {w1 : World} {m : Nat} {O : Obj} (w0 : World) (h : More (w0.alloc O) w1) (hm : m = w0.heap.size) : w1.heap[m]? = some O := hm ▸ obj_under h
end Go.Proofs.Ytggohceeeggnmaa
