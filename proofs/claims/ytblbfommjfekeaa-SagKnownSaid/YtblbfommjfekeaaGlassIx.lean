/-
  How much a glass bends light: the contracts of Line, Index.
-/
import Derived.Test.YtblbfommjfekeaaGlass
import Derived.Test.YtblbfommjfekeaaGb
import Derived.Test.YtblbfommjfekeaaGg
import Derived.Test.YtblbfommjfekeaaDec
import Derived.Test.YtblbfommjfekeaaGa
import Derived.Test.YtblbfommjfekeaaIvDiv
namespace Go.Proofs.Ytblbfommjfekeaa
set_option linter.unusedVariables false
open Go.ChangeShapes Go.WideShapes Go.ChangeAt Go.RowKit

theorem new_iv : NewRun Try.prog 23 #[.int .i64 0, .int .i64 0, .bool false] := fun w => by go_simp
theorem size_ivT (w : World) : (sizeOf 23).run Try.prog w = .ok 3 w := by kernel_rfl
theorem one_iv (a b : Int) (c : Bool) : ∀ v ∈ [Value.int .i64 a, .int .i64 b, .bool c], v.oneCell' = true := by simp [Value.oneCell']

abbrev cellsI (x : Iv) : List Value := [.int .i64 x.lo, .int .i64 x.hi, .bool x.no]
abbrev zeroI : Array Value := #[.int .i64 0, .int .i64 0, .bool false]
/-- What lies where, while the sum is made. -/
structure IxW (W wr : World) (g : Gl) (l S : Iv) (bs bl : Nat) : Prop where
  more : More W wr
  gl : wr.heap[W.heap.size]? = some (.cells (cellsG g).toArray 78 (0, 0))
  res : wr.heap[W.heap.size + 2]? = some (.cells zeroI 23 (0, 0))
  sum : wr.heap[bs]? = some (.cells (cellsI S).toArray 23 (0, 0))
  lam : wr.heap[bl]? = some (.cells (cellsI l).toArray 23 (0, 0))
  ord : W.heap.size + 2 < bs ∧ W.heap.size + 2 < bl ∧ bs ≠ bl
section
variable {W wr wr' : World} {g : Gl} {l S : Iv} {bs bl : Nat}
theorem IxW.up (h : IxW W wr g l S bs bl) (hm : More wr wr') : IxW W wr' g l S bs bl := by
  obtain ⟨r, rfl⟩ := hm
  have k : ∀ {b : Nat} {o : Obj}, wr.heap[b]? = some o → (Go.Proofs.Ytblbfommjfekeaa.more wr r).heap[b]? = some o := fun hb => (heap_more wr r _ (Array.getElem?_eq_some_iff.1 hb).1).trans hb
  exact ⟨h.more.trans ⟨r, rfl⟩, k h.gl, k h.res, k h.sum, k h.lam, h.ord⟩
theorem IxW.next (h : IxW W wr g l S bs bl) (S' : Iv) : IxW W (wr.setRow bs (cellsI S').toArray) g l S' bs bl := by
  obtain ⟨o1, o2, o3⟩ := h.ord
  have k : ∀ {b : Nat} {o : Obj}, b ≠ bs → wr.heap[b]? = some o → (wr.setRow bs (cellsI S').toArray).heap[b]? = some o := fun hb hx => (setRow_other _ _ _ _ (by omega)).trans hx
  exact ⟨more_setRow h.more (by omega), k (by omega) h.gl, k (by omega) h.res, heap_setRow h.sum, k (Ne.symm o3) h.lam, h.ord⟩
theorem IxW.lt (h : IxW W wr g l S bs bl) : W.heap.size < wr.heap.size ∧ W.heap.size + 2 < wr.heap.size ∧ bs < wr.heap.size ∧ bl < wr.heap.size :=
  ⟨(Array.getElem?_eq_some_iff.1 h.gl).1, (Array.getElem?_eq_some_iff.1 h.res).1, (Array.getElem?_eq_some_iff.1 h.sum).1, (Array.getElem?_eq_some_iff.1 h.lam).1⟩
end

end Go.Proofs.Ytblbfommjfekeaa

