/-
  A struct of many cells goes into a block, and comes out of it, at once: cell by cell the check of a walk doubles with each. What serves every struct.
-/
import Derived.Test.YtolfobgpgmfnpaaDoorGa
namespace Go.Proofs.YtolfobgpgmfnpaaDoor
set_option linter.unusedVariables false
open Go.ChangeShapes Go.WideShapes Go.ChangeAt Go.RowKit

/-- How many cells block b has, all of them to be written to. -/
def World.cellsIn (w : World) (b : Nat) : Nat :=
  match w.heap[b]? with
  | some (.cells c _ (0, 0)) => c.size
  | _ => 0
def World.cellsOf (w : World) (b : Nat) : Array Value :=
  match w.heap[b]? with
  | some (.cells c _ _) => c
  | _ => #[]

section
variable (w : World) (r : Rest) (o : Obj) (b : Nat) (c d : Array Value) (t : TypeId) (n : Nat)
@[go_sem] theorem cellsIn_more (h : b < w.heap.size) : World.cellsIn (more w r) b = World.cellsIn w b := by unfold World.cellsIn; rw [heap_more w r b h]
@[go_sem] theorem cellsIn_at (h : b = w.heap.size) : World.cellsIn (w.alloc (.cells c t)) b = c.size := by subst h; unfold World.cellsIn World.alloc; simp
@[go_sem] theorem cellsIn_past (h : b < w.heap.size) : World.cellsIn (w.alloc o) b = World.cellsIn w b := by
  unfold World.cellsIn World.alloc
  simp [Array.getElem?_push, Nat.ne_of_lt h]
@[go_sem] theorem cellsIn_drew : World.cellsIn w.drew b = World.cellsIn w b := rfl
@[go_sem] theorem cellsOf_more (h : b < w.heap.size) : World.cellsOf (more w r) b = World.cellsOf w b := by unfold World.cellsOf; rw [heap_more w r b h]
@[go_sem] theorem cellsOf_at (h : b = w.heap.size) : World.cellsOf (w.alloc (.cells c t)) b = c := by subst h; unfold World.cellsOf World.alloc; simp
@[go_sem] theorem cellsOf_past (h : b < w.heap.size) : World.cellsOf (w.alloc o) b = World.cellsOf w b := by
  unfold World.cellsOf World.alloc
  simp [Array.getElem?_push, Nat.ne_of_lt h]
@[go_sem] theorem cellsOf_drew : World.cellsOf w.drew b = World.cellsOf w b := rfl
@[go_sem] theorem setRow_more (h : b < w.heap.size) : (more w r).setRow b d = more (w.setRow b d) r := by
  unfold more World.setRow
  congr 1
  apply Array.ext_getElem?
  intro k
  simp only [Array.getElem?_modify, Array.getElem?_append, Array.size_modify]
  by_cases hk : k < w.heap.size
  · simp [hk]
  · have : ¬ b = k := by omega
    simp [hk, this]
@[go_sem] theorem setRow_at (h : b = w.heap.size) : (w.alloc (.cells c t)).setRow b d = w.alloc (.cells d t) := by
  subst h
  unfold World.alloc World.setRow
  congr 1
  apply Array.ext_getElem?
  intro k
  simp only [Array.getElem?_modify, Array.getElem?_push]
  by_cases hk : k = w.heap.size
  · subst hk; simp
  · have : ¬ w.heap.size = k := fun e => hk e.symm
    simp [hk, this]
@[go_sem] theorem setRow_past (h : b < w.heap.size) : (w.alloc o).setRow b d = (w.setRow b d).alloc o := by
  unfold World.alloc World.setRow
  congr 1
  apply Array.ext_getElem?
  intro k
  simp only [Array.getElem?_modify, Array.getElem?_push, Array.size_modify]
  by_cases hk : k = w.heap.size
  · subst hk
    simp [Nat.ne_of_lt h]
  · simp [hk]
@[go_sem] theorem setRow_drew : w.drew.setRow b d = (w.setRow b d).drew := rfl
@[go_sem] theorem size_setRow : (w.setRow b d).heap.size = w.heap.size := by simp [World.setRow]
end

def storeWhole (t : TypeId) (a : Addr) (v : Value) : Sem Unit := storeVar t a v
def loadWhole (t : TypeId) (a : Addr) : Sem Value := loadVar t a

theorem cellsIn_some {w : World} {b n : Nat} (h : World.cellsIn w b = n) (h0 : n ≠ 0) : ∃ c t, w.heap[b]? = some (.cells c t (0, 0)) ∧ c.size = n := by
  unfold World.cellsIn at h
  split at h
  · rename_i c t e
    exact ⟨c, t, e, h⟩
  · exact absurd h.symm h0

theorem run_storeWhole {P : Program} {w : World} {t : TypeId} {n b : Nat} {vs : List Value} (hs : (sizeOf t).run P w = .ok n w) (hn : vs.length = n) (h0 : n ≠ 0) (h1 : ∀ v ∈ vs, v.oneCell' = true) (h : World.cellsIn w b = n) :
    (storeWhole t ⟨b, 0, none⟩ (.agg vs.toArray)).run P w = .ok () (w.setRow b vs.toArray) := by
  obtain ⟨c, u, hg, hc⟩ := cellsIn_some h h0
  have e := run_storeCells_from (P := P) b u vs 0 c w hg (by omega) h1
  simp only [List.take_zero, List.nil_append] at e
  unfold storeWhole storeVar
  simp [hs, Value.cells, hn, e]

theorem run_loadWhole {P : Program} {w : World} {t : TypeId} {n b : Nat} (ha : (isAgg t).run P w = .ok true w) (hs : (sizeOf t).run P w = .ok n w) (h0 : n ≠ 0) (h : World.cellsIn w b = n) :
    (loadWhole t ⟨b, 0, none⟩).run P w = .ok (.agg (World.cellsOf w b)) w := by
  obtain ⟨c, u, hg, hc⟩ := cellsIn_some h h0
  have e2 : World.cellsOf w b = c := by unfold World.cellsOf; rw [hg]
  have hsrc : ∀ j v, c.toList[j]? = some v → w.cell? ((⟨b, 0, none⟩ : Addr).add j) = some v := by
    intro j v hj
    have hadd : (⟨b, 0, none⟩ : Addr).add j = ⟨b, j, none⟩ := by unfold Addr.add; split <;> simp_all
    rw [hadd]
    unfold World.cell?
    rw [hg]
    simpa using hj
  have hl := run_loadCells_list (P := P) w ⟨b, 0, none⟩ c.toList hsrc
  unfold loadWhole loadVar
  rw [e2]
  simp only [Array.length_toList, hc, Array.toArray_toList] at hl
  simp [ha, hs, hl]

/-- What is not known to lie at the start of a block of its size (a condition here, not a side condition: simp goes two levels deep alone). -/
def loadElse (t : TypeId) (a : Addr) : Sem Value := loadVar t a
def storeElse (t : TypeId) (a : Addr) (v : Value) : Sem Unit := storeVar t a v

end Go.Proofs.YtolfobgpgmfnpaaDoor

