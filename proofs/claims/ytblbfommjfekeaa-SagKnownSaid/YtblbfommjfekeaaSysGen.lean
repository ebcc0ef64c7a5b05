/-
  What is built of a lens; worlds that differ beneath a row; an append that keeps what is younger.
-/
import Derived.Test.YtblbfommjfekeaaSurf
import Derived.Test.YtblbfommjfekeaaGf
import Derived.Test.YtblbfommjfekeaaGlassRdW
namespace Go.Proofs.Ytblbfommjfekeaa
set_option linter.unusedVariables false
open Go.ChangeShapes Go.WideShapes Go.ChangeAt Go.RowKit

@[reducible] def syV (s : Iv) (v : Value) : Value := .agg #[v, .int .i64 s.lo, .int .i64 s.hi, .bool s.no]
theorem obj_under {w0 w1 : World} {O : Obj} (h : More (w0.alloc O) w1) : w1.heap[w0.heap.size]? = some O := by
  obtain ⟨r, rfl⟩ := h
  rw [heap_more _ _ _ (by simp), heap_alloc_new]
theorem heap_at {w1 : World} {m : Nat} {O : Obj} (w0 : World) (h : More (w0.alloc O) w1) (hm : m = w0.heap.size) : w1.heap[m]? = some O := hm ▸ obj_under h
end Go.Proofs.Ytblbfommjfekeaa

