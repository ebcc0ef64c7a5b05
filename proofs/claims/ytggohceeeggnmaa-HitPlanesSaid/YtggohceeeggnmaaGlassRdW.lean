/-
  Glasses are read: the walk of Read.
-/
import Derived.Test.YtggohceeeggnmaaGh
import Derived.Test.YtggohceeeggnmaaGg
import Derived.Test.YtggohceeeggnmaaGd
import Derived.Test.YtggohceeeggnmaaGf
import Derived.Test.YtggohceeeggnmaaGa
namespace Go.Proofs.Ytggohceeeggnmaa
set_option linter.unusedVariables false
open Go.ChangeShapes Go.WideShapes Go.ChangeAt Go.RowKit

/-- A row of one element, somewhere in a block of its own. -/
def OneAt (e : TypeId) (news : List Value) (u : Value) (w : World) : Prop := ∃ b, u = .slice (some ⟨b, 0, none⟩) 1 1 ∧ w.heap[b]? = some (.cells news.toArray e (0, 0))
theorem OneAt.up {e : TypeId} {news : List Value} : ∀ u w w', More w w' → OneAt e news u w → OneAt e news u w' := by
  rintro u w w' ⟨r, rfl⟩ ⟨b, rfl, h⟩
  exact ⟨b, rfl, (heap_more w r b (Array.getElem?_eq_some_iff.1 h).1).trans h⟩
theorem OneAt.new {w : World} {r : Rest} {e : TypeId} {news : List Value} : OneAt e news (.slice (some ⟨w.heap.size + r.len, 0, none⟩) 1 1) ((more w r).alloc (.cells news.toArray e)) := ⟨_, rfl, by rw [← size_more]; exact heap_alloc_new _ _⟩
theorem OwnW.mono {X wr : World} {base m n : Nat} {e : TypeId} {v : Value} {xs : List Value} (h : OwnW X wr base e m v n xs) : More X wr := by
  obtain ⟨s, rfl, -⟩ := h
  exact (More.refl _).more _
end Go.Proofs.Ytggohceeeggnmaa

