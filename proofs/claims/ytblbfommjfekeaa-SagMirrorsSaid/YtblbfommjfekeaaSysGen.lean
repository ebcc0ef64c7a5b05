/-
  What is built of a lens; worlds that differ beneath a row; an append that keeps what is younger.
-/
import Derived.Test.YtblbfommjfekeaaSurf
import Derived.Test.YtblbfommjfekeaaGf
import Derived.Test.YtblbfommjfekeaaGlassRdW
namespace Go.Proofs.Ytblbfommjfekeaa
set_option linter.unusedVariables false
open Go.ChangeShapes Go.WideShapes Go.ChangeAt Go.RowKit

def bq (V : Bool) (x : Ln) (G : List Gl) (w : Iv) : Sy × Int := if V = true then (if rowsRight (allSy x G w).rows (allSy x G w).wide = true then (allSy x G w, 0) else (noSy, 6)) else (noSy, 1)
@[reducible] def syV (s : Iv) (v : Value) : Value := .agg #[v, .int .i64 s.lo, .int .i64 s.hi, .bool s.no]
/-- A slice whose block is younger than a world. -/
def NewV (W : World) (v : Value) : Prop := ∀ g o n c, v = .slice (some ⟨g, o, none⟩) n c → W.heap.size ≤ g
theorem newV_none (W : World) : NewV W (.slice none 0 0) := fun g o n c h => by cases h
theorem ownSS_new {base n m : Nat} {s : Rest} {e : TypeId} {v : Value} {xs : List Value} (h : OwnS base s e m v n xs) (w W : World) (hw : w.heap.size = base) (hW : W.heap.size ≤ base) : NewV W v := by
  have h1 := h w hw
  intro g o n c hv
  have h2 := h1.lt
  obtain ⟨-, h⟩ := h1
  rcases h with ⟨rfl, rfl⟩ | ⟨g', cap, cur, rfl, -⟩
  · cases hv
  · have h3 := (h2 g' rfl).1
    injection hv with e1 e2 e3
    injection e1 with e1
    injection e1 with e1
    omega
theorem ownSS_form {base n m : Nat} {s : Rest} {e : TypeId} {v : Value} {xs : List Value} (h : OwnS base s e m v n xs) (w : World) (hw : w.heap.size = base) : ∃ ao c, v = .slice ao n c := by
  obtain ⟨-, h⟩ := h w hw
  rcases h with ⟨rfl, rfl⟩ | ⟨g, cap, cur, rfl, -⟩
  · exact ⟨_, _, rfl⟩
  · exact ⟨_, _, rfl⟩

theorem more_swap {A B : World} {s : Rest} {k : Nat} (h : A.heap.size = B.heap.size) (hk : A.heap.size ≤ k) : (more A s).heap[k]? = (more B s).heap[k]? := by
  unfold more
  rw [Array.getElem?_append_right hk, Array.getElem?_append_right (h ▸ hk), h]
theorem obj_under {w0 w1 : World} {O : Obj} (h : More (w0.alloc O) w1) : w1.heap[w0.heap.size]? = some O := by
  obtain ⟨r, rfl⟩ := h
  rw [heap_more _ _ _ (by simp), heap_alloc_new]
theorem sfs_swap {A B : World} {r : Rest} {v : Value} {l : List Sf} (h : A.heap.size = B.heap.size) (hs : Sfs (more A r) v l) (hn : NewV A v) : Sfs (more B r) v l := by
  rcases hs with h1 | ⟨g, o, c, hv, hcap, hc⟩
  · exact .inl h1
  · refine .inr ⟨g, o, c, hv, hcap, fun k a hk j u hu => ?_⟩
    have h1 := hc k a hk j u hu
    have hg := hn g o _ c hv
    have h2 : (more B r).cell? ⟨g, o + (k * 23 + j), none⟩ = (more A r).cell? ⟨g, o + (k * 23 + j), none⟩ := by
      unfold World.cell?
      rw [more_swap h hg]
    rw [h2]
    exact h1
theorem NewV.less {A B : World} {v : Value} (h : NewV B v) (hle : A.heap.size ≤ B.heap.size) : NewV A v := fun g o n c hv => Nat.le_trans hle (h g o n c hv)
end Go.Proofs.Ytblbfommjfekeaa

