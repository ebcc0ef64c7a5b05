/-
  What is built of a lens; worlds that differ beneath a row; an append that keeps what is younger.
-/
import Derived.Test.YtblbfommjfekeaaGreatDoorSurf
import Derived.Test.YtblbfommjfekeaaGreatDoorGf
import Derived.Test.YtblbfommjfekeaaGreatDoorGlassRdW
namespace Go.Proofs.YtblbfommjfekeaaGreatDoor
set_option linter.unusedVariables false
open Go.ChangeShapes Go.WideShapes Go.ChangeAt Go.RowKit

def bq (V : Bool) (x : Ln) (G : List Gl) (w : Iv) : Sy × Int := if V = true then (if rowsRight (allSy x G w).rows (allSy x G w).wide = true then (allSy x G w, 0) else (noSy, 6)) else (noSy, 1)
@[reducible] def syV (s : Iv) (v : Value) : Value := .agg #[v, .int .i64 s.lo, .int .i64 s.hi, .bool s.no]
/-- A slice whose block is younger than a world. -/
def NewV (W : World) (v : Value) : Prop := ∀ g o n c, v = .slice (some ⟨g, o, none⟩) n c → W.heap.size ≤ g
theorem newV_none (W : World) : NewV W (.slice none 0 0) := fun g o n c h => by cases h
theorem ownSS_new {base n m : Nat} {s : Rest} {e : TypeId} {v : Value} {xs : List Value} (h : OwnS base s e m v n xs) (w W : World) (hw : w.heap.size = base) (hW : W.heap.size ≤ base) : NewV W v := by
  have h1 := h w hw
  intro g o n c hv
  have h2 := h1.lt
  obtain ⟨-, h⟩ := h1
  rcases h with ⟨rfl, rfl⟩ | ⟨g', cap, cur, rfl, -⟩
  · cases hv
  · have h3 := (h2 g' rfl).1
    injection hv with e1 e2 e3
    injection e1 with e1
    injection e1 with e1
    omega
theorem ownSS_form {base n m : Nat} {s : Rest} {e : TypeId} {v : Value} {xs : List Value} (h : OwnS base s e m v n xs) (w : World) (hw : w.heap.size = base) : ∃ ao c, v = .slice ao n c := by
  obtain ⟨-, h⟩ := h w hw
  rcases h with ⟨rfl, rfl⟩ | ⟨g, cap, cur, rfl, -⟩
  · exact ⟨_, _, rfl⟩
  · exact ⟨_, _, rfl⟩

theorem more_swap {A B : World} {s : Rest} {k : Nat} (h : A.heap.size = B.heap.size) (hk : A.heap.size ≤ k) : (more A s).heap[k]? = (more B s).heap[k]? := by
  unfold more
  rw [Array.getElem?_append_right hk, Array.getElem?_append_right (h ▸ hk), h]
theorem obj_under {w0 w1 : World} {O : Obj} (h : More (w0.alloc O) w1) : w1.heap[w0.heap.size]? = some O := by
  obtain ⟨r, rfl⟩ := h
  rw [heap_more _ _ _ (by simp), heap_alloc_new]
theorem cell_swap {A B : World} {s : Rest} {k j : Nat} {cs : Array Value} {e : TypeId} {u : Value} (h : A.heap.size = B.heap.size) (hk : A.heap.size ≤ k) (he : (more A s).heap[k]? = some (.cells cs e (0, 0))) (hu : cs[j]? = some u) :
    (∀ n, (more B (s.draw n)).cell? ⟨k, j, none⟩ = some u) ∧ ∀ n r, (more B ((s.draw n).plus r)).cell? ⟨k, j, none⟩ = some u := by
  rw [more_swap h hk] at he
  have h1 : (more B s).cell? ⟨k, j, none⟩ = some u := by simp [World.cell?, he, hu]
  refine ⟨fun n => h1, fun n r => ?_⟩
  have h2 : (more B (s.draw n)).cell? ⟨k, j, none⟩ = some u := h1
  rw [← more_more, cell_more _ _ _ _ (World.block_lt_of_cell? _ _ h2)]
  exact h2
theorem sfs_swap {A B : World} {r : Rest} {v : Value} {l : List Sf} (h : A.heap.size = B.heap.size) (hs : Sfs (more A r) v l) (hn : NewV A v) : Sfs (more B r) v l := by
  rcases hs with h1 | ⟨g, o, c, hv, hcap, hc⟩
  · exact .inl h1
  · refine .inr ⟨g, o, c, hv, hcap, fun k a hk j u hu => ?_⟩
    have h1 := hc k a hk j u hu
    have hg := hn g o _ c hv
    have h2 : (more B r).cell? ⟨g, o + (k * 23 + j), none⟩ = (more A r).cell? ⟨g, o + (k * 23 + j), none⟩ := by
      unfold World.cell?
      rw [more_swap h hg]
    rw [h2]
    exact h1
theorem NewV.less {A B : World} {v : Value} (h : NewV B v) (hle : A.heap.size ≤ B.heap.size) : NewV A v := fun g o n c hv => Nat.le_trans hle (h g o n c hv)
/-- Behind an append a block that is younger than the row is as it was. -/
theorem wpList_append_keep {P : Program} {W2 w1 : World} {ops : Array Oper} {rest : List Oper} {o : Oper} {a : Act} {Q : Exit → Act → World → Prop}
    (w0 : World) (m : Nat) (ob : Obj)
    (hg : o.guard = none) (sl x : Operand) (t : TypeId) (hop : o.op = Op.call { callee := Callee.builtin Builtin.append, args := #[sl, x], argTypes := #[t, t] })
    (e : TypeId) (i : TypeInfo) (z : Value) (size bytes : Nat) (h1 : P.underlying t = some (.slice e)) (h2 : P.info? e = some i) (h3 : i.zero = some z) (h4 : i.size = size) (h5 : i.bytes = bytes) (h6 : z.cells.size = size) (h7 : 0 < size)
    (v : Value) (n : Nat) (xs : List Value) (base : Nat) (hb : base = W2.heap.size) (hs : a.eval sl = v) (hown : OwnW W2 w0 base e size v n xs) (hle : More w0 w1) (hm0 : w0.heap.size ≤ m) (hm : w1.heap[m]? = some ob)
    (news : List Value) (c b : Nat) (hx : a.eval x = .slice (some ⟨b, 0, none⟩) 1 c) (hbx : b = w1.heap.size) (hn : news.length = size) (h1c : ∀ u ∈ news, u.oneCell' = true)
    (b1 : n + 1 ≤ maxLen) (b2 : (n + 1) * bytes ≤ 140737488355328)
    (hK : ∀ v' w', OwnW W2 w' base e size v' (n + 1) (xs ++ news) → w'.heap[m]? = some ob → wpList P ops Q rest (a.put o.dst v') w') :
    wpList P ops Q (o :: rest) a (w1.alloc (.cells news.toArray e)) := by
  obtain ⟨s0, rfl, h0⟩ := hown
  obtain ⟨r, rfl⟩ := hle
  rw [more_more] at hm hbx ⊢
  have h0' := h0
  have h := h0.plus (r := r)
  subst hb hbx
  have hw0 := h0' W2 rfl
  have hw := h W2 rfl
  have hlt := (Array.getElem?_eq_some_iff.1 hm).1
  refine wpList_append_row _ hg sl x t hop W2.heap.size e i z size bytes h1 h2 h3 h4 h5 h6 h7 v n xs hs (owns_alloc hw) ⟨_, 0, none⟩ 1 c news hx (by rw [hn, Nat.one_mul]) (new_row news (by simp)) h1c (by decide) b1 b2 (by simp; omega) ?_
  intro v' w' ho hgr _
  have hbl : Below W2.heap.size W2 w' := by
    have h9 : Below W2.heap.size W2 (more W2 (s0.plus r)) := (More.more (More.refl W2) (s0.plus r)).below
    exact (h9.alloc (by simp) _).grown hgr (by simp; omega) (fun g hg => (hw.lt g hg).1)
  have hkeep : w'.heap[m]? = some ob := by
    rw [hgr.block m (by simp at hlt ⊢; omega) (fun he => by have := (hw0.lt m he.symm).2; omega), Below.heap_alloc _ _ _ hlt]
    exact hm
  obtain ⟨s', rfl⟩ := more_of_below hbl
  exact hK v' _ ⟨s', rfl, OwnS.of rfl ho⟩ hkeep
theorem heap_at {w1 : World} {m : Nat} {O : Obj} (w0 : World) (h : More (w0.alloc O) w1) (hm : m = w0.heap.size) : w1.heap[m]? = some O := hm ▸ obj_under h
end Go.Proofs.YtblbfommjfekeaaGreatDoor

