/-
  Glasses are read: the walk of Read.
-/
import Derived.Test.YtekhhekkepijoaaGreatDoorGh
import Derived.Test.YtekhhekkepijoaaGreatDoorGg
import Derived.Test.YtekhhekkepijoaaGreatDoorGf
import Derived.Test.YtekhhekkepijoaaGreatDoorGa
namespace Go.Proofs.YtekhhekkepijoaaGreatDoor
set_option linter.unusedVariables false
open Go.ChangeShapes Go.WideShapes Go.ChangeAt Go.RowKit

def lenOf : Value → Nat
  | .slice _ n _ => n
  | _ => 0
/-- A row of one element, somewhere in a block of its own. -/
def OneAt (e : TypeId) (news : List Value) (u : Value) (w : World) : Prop := ∃ b, u = .slice (some ⟨b, 0, none⟩) 1 1 ∧ w.heap[b]? = some (.cells news.toArray e (0, 0))
theorem OneAt.up {e : TypeId} {news : List Value} : ∀ u w w', More w w' → OneAt e news u w → OneAt e news u w' := by
  rintro u w w' ⟨r, rfl⟩ ⟨b, rfl, h⟩
  exact ⟨b, rfl, (heap_more w r b (Array.getElem?_eq_some_iff.1 h).1).trans h⟩
theorem OneAt.new {w : World} {r : Rest} {e : TypeId} {news : List Value} : OneAt e news (.slice (some ⟨w.heap.size + r.len, 0, none⟩) 1 1) ((more w r).alloc (.cells news.toArray e)) := ⟨_, rfl, by rw [← size_more]; exact heap_alloc_new _ _⟩
theorem wpList_append_any {P : Program} {W2 w1 : World} {ops : Array Oper} {rest : List Oper} {o : Oper} {a : Act} {Q : Exit → Act → World → Prop}
    (hg : o.guard = none) (sl x : Operand) (t : TypeId) (hop : o.op = Op.call { callee := Callee.builtin Builtin.append, args := #[sl, x], argTypes := #[t, t] })
    (e : TypeId) (i : TypeInfo) (z : Value) (size bytes : Nat) (h1 : P.underlying t = some (.slice e)) (h2 : P.info? e = some i) (h3 : i.zero = some z) (h4 : i.size = size) (h5 : i.bytes = bytes) (h6 : z.cells.size = size) (h7 : 0 < size)
    (v : Value) (n : Nat) (xs : List Value) (hs : a.eval sl = v) (hown : OwnW W2 w1 W2.heap.size e size v n xs)
    (news : List Value) (c b : Nat) (hx : a.eval x = .slice (some ⟨b, 0, none⟩) 1 c) (hbx : w1.heap[b]? = some (.cells news.toArray e (0, 0))) (hn : news.length = size) (h1c : ∀ u ∈ news, u.oneCell' = true)
    (b1 : n + 1 ≤ maxLen) (b2 : (n + 1) * bytes ≤ 140737488355328)
    (hK : ∀ v' w', OwnW W2 w' W2.heap.size e size v' (n + 1) (xs ++ news) → wpList P ops Q rest (a.put o.dst v') w') :
    wpList P ops Q (o :: rest) a w1 := by
  obtain ⟨s, rfl, h⟩ := hown
  have hw := h W2 rfl
  refine wpList_append_row _ hg sl x t hop W2.heap.size e i z size bytes h1 h2 h3 h4 h5 h6 h7 v n xs hs hw ⟨b, 0, none⟩ 1 c news hx (by rw [hn, Nat.one_mul]) (fun j u hj => ?_) h1c (by decide) b1 b2 (by simp) ?_
  · rw [Addr.add_lit, Nat.zero_add]
    simp only [World.cell?, hbx]
    simpa using hj
  intro v' w' ho hgr _
  have hbl : Below W2.heap.size W2 w' := by
    have h0 : Below W2.heap.size W2 (more W2 s) := (More.more (More.refl W2) s).below
    exact h0.grown hgr (by simp) (fun g hg => (hw.lt g hg).1)
  obtain ⟨s', rfl⟩ := more_of_below hbl
  exact hK v' _ ⟨s', rfl, OwnS.of rfl ho⟩
theorem OwnW.gls {X wr : World} {e : TypeId} {v : Value} {l : List Gl} (h : OwnW X wr X.heap.size e 13 v l.length (flatC cellsG l)) : Gls wr v l := h.row cellsG_len (by decide) rfl
theorem OwnW.mono {X wr : World} {base m n : Nat} {e : TypeId} {v : Value} {xs : List Value} (h : OwnW X wr base e m v n xs) : More X wr := by
  obtain ⟨s, rfl, -⟩ := h
  exact (More.refl _).more _
theorem gcell {α : Type} {f : α → List Value} {m : Nat} {w : World} {b o n c k : Nat} {l : List α} {a : α} (h : GRow f m w (.slice (some ⟨b, o, none⟩) n c) l) (hk : l[k]? = some a) : ∀ j u, (f a)[j]? = some u → w.cell? ⟨b, o + (k * m + j), none⟩ = some u := by
  rcases h with ⟨hv, -⟩ | ⟨b', o', c', hv, -, hc⟩
  · cases hv
  · cases hv
    exact hc k a hk
theorem plV2_zero : plV2 0 0 = .complex .f64 0 0 := by show Value.complex .f64 (nw 0) (nw 0) = _; rw [nw_zero]
end Go.Proofs.YtekhhekkepijoaaGreatDoor

