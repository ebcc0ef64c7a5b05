/-
  The world with more blocks behind it, and draws made: what a call leaves that makes memory of its own and touches nothing that was there.
-/
import Derived.WalkKit
import Derived.ProofKit
import Derived.OpenShut
import Derived.Outline
import Derived.Lib.Hide
import Derived.Deep.Draws
import Derived.Handy
import Derived.Lib.MinMax
namespace Go.Proofs.YthhipepdkpoomaaDoor
set_option linter.unusedVariables false
open Go.RowKit

/-- Blocks that are laid behind those of a world, and how many draws are made then, in all. -/
structure Rest where
  X : Array Obj
  n : Nat
instance Rest.some : Inhabited Rest := ⟨⟨#[], 0⟩⟩
def Rest.plus (r s : Rest) : Rest := ⟨r.X ++ s.X, s.n⟩
def Rest.draw (r : Rest) (k : Nat) : Rest := ⟨r.X, r.n + k⟩
def Rest.len (r : Rest) : Nat := r.X.size
/-- The blocks of r behind those of w; its draws. -/
def more (w : World) (r : Rest) : World := { w with heap := w.heap ++ r.X, drawn := r.n }

section
variable (w : World) (r s : Rest) (m : Nat)
@[go_sem, simp] theorem more_more : more (more w r) s = more w (r.plus s) := by
  unfold more Rest.plus; simp
@[go_sem, simp] theorem more_drew : (more w r).drew = more w (r.draw 1) := rfl
@[go_sem, simp] theorem drew_more : more w.drew r = more w r := by
  unfold more World.drew; simp
@[go_sem, simp] theorem drewN_more : more (w.drewN m) r = more w r := by
  unfold more World.drewN; simp
@[go_sem, simp] theorem more_drewN : (more w r).drewN m = more w (r.draw m) := by
  unfold more World.drewN Rest.draw; simp
@[go_sem, simp] theorem size_more : (more w r).heap.size = w.heap.size + r.len := by
  unfold more Rest.len; simp
theorem heap_more (k : Nat) (h : k < w.heap.size) : (more w r).heap[k]? = w.heap[k]? := by
  unfold more; simp [Array.getElem?_append, h]
@[go_sem] theorem cell_more (b o : Nat) (h : b < w.heap.size) : (more w r).cell? ⟨b, o, none⟩ = w.cell? ⟨b, o, none⟩ :=
  World.cell?_of_block (heap_more w r b h)
@[go_sem] theorem frozen_more (b o : Nat) (h : b < w.heap.size) : (more w r).frozen? ⟨b, o, none⟩ = w.frozen? ⟨b, o, none⟩ :=
  World.frozen?_of_block (heap_more w r b h)
@[go_sem] theorem setCell_more (b o : Nat) (v : Value) (h : b < w.heap.size) : (more w r).setCell ⟨b, o, none⟩ v = more (w.setCell ⟨b, o, none⟩ v) r := by
  unfold more World.setCell
  congr 1
  apply Array.ext_getElem?
  intro k
  simp only [Array.getElem?_modify, Array.getElem?_append, Array.size_modify]
  by_cases hk : k < w.heap.size
  · simp [hk]
  · have : ¬ b = k := by omega
    simp [hk, this]
end

/-- w' is w with more blocks behind it. -/
def More (w w' : World) : Prop := ∃ r, w' = more w r
theorem more_self (w : World) : more w ⟨#[], w.drawn⟩ = w := by unfold more; simp
theorem More.refl (w : World) : More w w := ⟨⟨#[], w.drawn⟩, (more_self w).symm⟩
theorem More.alloc {w w' : World} (h : More w w') (o : Obj) : More w (w'.alloc o) := by
  obtain ⟨r, rfl⟩ := h
  exact ⟨⟨r.X.push o, r.n⟩, by unfold more World.alloc; simp⟩
theorem More.more {w w' : World} (h : More w w') (r : Rest) : More w (more w' r) := by
  obtain ⟨s, rfl⟩ := h
  exact ⟨_, more_more _ _ _⟩
theorem More.drew {w w' : World} (h : More w w') : More w w'.drew := by
  obtain ⟨r, rfl⟩ := h
  exact ⟨_, more_drew _ _⟩
theorem More.drewN {w w' : World} (h : More w w') (k : Nat) : More w (w'.drewN k) := by
  obtain ⟨r, rfl⟩ := h
  exact ⟨_, more_drewN _ _ _⟩
/-- Who leaves all that was there as it was, has made more. -/
theorem more_of_below {w w' : World} (h : Below w.heap.size w w') : More w w' := by
  refine ⟨⟨w'.heap.extract w.heap.size w'.heap.size, w'.drawn⟩, ?_⟩
  have e : w'.heap = w.heap ++ w'.heap.extract w.heap.size w'.heap.size := by
    apply Array.ext_getElem?
    intro k
    rw [Array.getElem?_append]
    split
    · rename_i hk; exact h.block k hk
    · rename_i hk
      rw [Array.getElem?_extract]
      have := h.size
      split
      · rw [show w.heap.size + (k - w.heap.size) = k by omega]
      · rename_i hn
        rw [Array.getElem?_eq_none (by omega)]
  obtain ⟨h1, h2, h3, h4, h5⟩ := w'
  obtain ⟨os, tape, out, -, -⟩ := h
  simp only at os tape out e
  subst os tape out
  unfold more
  simp only [World.mk.injEq, and_true]
  exact e
theorem More.trans {a b c : World} (h : More a b) (k : More b c) : More a c := by
  obtain ⟨r, rfl⟩ := h
  obtain ⟨s, rfl⟩ := k
  exact ⟨_, more_more _ _ _⟩
theorem More.below {w w' : World} (h : More w w') : Below w.heap.size w w' := by
  obtain ⟨r, rfl⟩ := h
  exact ⟨rfl, rfl, rfl, by simp, fun k hk => heap_more _ _ _ hk⟩

section
variable {P : Program} (w : World)
@[go_sem high] theorem run_min3 (ts : Array TypeId) (t : TypeId) (k k' k'' : IntKind) (x y z : Int) : (Builtin.min_ ts t #[.int k x, .int k' y, .int k'' z]).run P w = .ok (.int k (min (min x y) z)) w := by
  have e : ∀ x y : Int, (if y < x then y else x) = min x y := fun x y => by rw [Int.min_def]; split <;> split <;> omega
  simp [Builtin.min_, Builtin.min2, e]
@[go_sem high] theorem run_max3 (ts : Array TypeId) (t : TypeId) (k k' k'' : IntKind) (x y z : Int) : (Builtin.max_ ts t #[.int k x, .int k' y, .int k'' z]).run P w = .ok (.int k (max (max x y) z)) w := by
  have e : ∀ x y : Int, (if y > x then y else x) = max x y := fun x y => by rw [Int.max_def]; split <;> split <;> omega
  simp [Builtin.max_, Builtin.max2, e]
@[go_sem high] theorem run_min4 (ts : Array TypeId) (t : TypeId) (k k' k'' k3 : IntKind) (x y z u : Int) : (Builtin.min_ ts t #[.int k x, .int k' y, .int k'' z, .int k3 u]).run P w = .ok (.int k (min (min (min x y) z) u)) w := by
  have e : ∀ x y : Int, (if y < x then y else x) = min x y := fun x y => by rw [Int.min_def]; split <;> split <;> omega
  simp [Builtin.min_, Builtin.min2, e]
@[go_sem high] theorem run_max4 (ts : Array TypeId) (t : TypeId) (k k' k'' k3 : IntKind) (x y z u : Int) : (Builtin.max_ ts t #[.int k x, .int k' y, .int k'' z, .int k3 u]).run P w = .ok (.int k (max (max (max x y) z) u)) w := by
  have e : ∀ x y : Int, (if y > x then y else x) = max x y := fun x y => by rw [Int.max_def]; split <;> split <;> omega
  simp [Builtin.max_, Builtin.max2, e]
end

/-- Where blocks lie: sums of sizes, written from the right, told apart at once. -/
theorem lt_lit {a b x : Nat} (h : a < b) : a < b + x := by omega
attribute [go_sem] lt_lit Nat.add_assoc
end Go.Proofs.YthhipepdkpoomaaDoor

