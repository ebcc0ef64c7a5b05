/-
  A world that stands on a ground of its own: what is turned on the ground, with the blocks behind it left.
-/
import Derived.Test.YtekhhekkepijoaaGreatDoorGa
namespace Go.Proofs.YtekhhekkepijoaaGreatDoor
set_option linter.unusedVariables false

/-- The same blocks, the same draws, on another ground. -/
def Moved (b b' W W' : World) (R : Rest) : Prop := W = more b R ∧ W' = more b' R
def Rest.push (r : Rest) (o : Obj) : Rest := ⟨r.X.push o, r.n⟩
theorem alloc_more (w : World) (r : Rest) (o : Obj) : (more w r).alloc o = more w (r.push o) := by
  unfold more World.alloc Rest.push; simp
theorem Moved.self {b b' : World} {R : Rest} : Moved b b' (more b R) (more b' R) R := ⟨rfl, rfl⟩
theorem Moved.alloc {b b' W W' : World} {R : Rest} {o : Obj} (h : Moved b b' W W' R) : Moved b b' (W.alloc o) (W'.alloc o) (R.push o) := by
  obtain ⟨rfl, rfl⟩ := h
  exact ⟨alloc_more _ _ _, alloc_more _ _ _⟩
theorem Moved.more {b b' W W' : World} {R r : Rest} (h : Moved b b' W W' R) : Moved b b' (more W r) (more W' r) (R.plus r) := by
  obtain ⟨rfl, rfl⟩ := h
  exact ⟨more_more _ _ _, more_more _ _ _⟩
theorem Moved.drew {b b' W W' : World} {R : Rest} (h : Moved b b' W W' R) : Moved b b' W.drew W'.drew (R.draw 1) := by
  obtain ⟨rfl, rfl⟩ := h
  exact ⟨more_drew _ _, more_drew _ _⟩
theorem plus_more {a w : World} {R r : Rest} (h : More a (more w R)) : More a (more w (R.plus r)) := by
  rw [← more_more]
  exact h.more r
end Go.Proofs.YtekhhekkepijoaaGreatDoor

