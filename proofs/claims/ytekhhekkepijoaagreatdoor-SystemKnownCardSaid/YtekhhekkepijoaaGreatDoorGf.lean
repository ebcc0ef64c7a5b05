/-
  Chapter 10's example and the other known texts.
  The texts that are handed in: what is made of numbers and of a raw text: some text, of a bounded length.
  What the walks of chapter 10's statements have in common: a token's cells, its place as words, how many tokens there are.
  Words and numbers, said plainly: the walk of the plain saying.
-/
import Derived.Test.YtekhhekkepijoaaGreatDoorTokens
import Derived.Deep.OwnRows
import Derived.Test.YtekhhekkepijoaaGreatDoorGe
import Derived.Test.YtekhhekkepijoaaGreatDoorGc
import Derived.Test.YtekhhekkepijoaaGreatDoorGd

namespace Go.Proofs.YtekhhekkepijoaaGreatDoor
set_option linter.unusedVariables false
open Go.ChangeShapes Go.WideShapes Go.ChangeAt Go.RowKit

theorem tokens_k {x : Lexed} (l : List UInt8) (hx : lexP l = x) (hz : l.length ≤ 9223372036854775807) (W : World) : Calls Tryz.prog 21 #[.string (bsOf l)] W fun e w' => ∃ v', e = .returned (.tuple #[v', plV2 x.line x.col, .int .i64 x.err]) ∧ More W w' ∧ GRow tk3 3 w' v' x.toks := by
  subst hx
  exact tokens_c l hz W

end Go.Proofs.YtekhhekkepijoaaGreatDoor

namespace Go.Proofs.YtekhhekkepijoaaGreatDoor
set_option linter.unusedVariables false
open Go.ChangeShapes Go.WideShapes Go.ChangeAt Go.RowKit

theorem Ints.keep {w w' : World} {v : Value} {l : List Int} (h : Ints w v l) (hb : ∀ k, k < w.heap.size → w'.heap[k]? = w.heap[k]?) : Ints w' v l := by
  rcases h with h | ⟨b, o, c, hv, hc⟩
  · exact .inl h
  · refine .inr ⟨b, o, c, hv, fun k n hk => ?_⟩
    have h1 := hc k n hk
    rw [World.cell?_of_block (hb b (World.block_lt_of_cell? w _ h1))]
    exact h1
theorem Ints.up {w w' : World} {v : Value} {l : List Int} (h : Ints w v l) (hm : More w w') : Ints w' v l := by
  obtain ⟨r, rfl⟩ := hm
  exact h.keep fun k hk => heap_more w r k hk

end Go.Proofs.YtekhhekkepijoaaGreatDoor

namespace Go.Proofs.YtekhhekkepijoaaGreatDoor
set_option linter.unusedVariables false
open Go.ChangeShapes Go.WideShapes Go.ChangeAt Go.RowKit

@[go_sem] theorem eqIn_cx (a b c d : Nat) (w : World) : (Op.equalIn 9999 29 (.complex .f64 a b) (.complex .f64 c d)).run Tryz.prog w = .ok (Ieee.double.order a c == some .eq && Ieee.double.order b d == some .eq) w := by kernel_rfl
theorem tokens_x {x : Lexed} (l : List UInt8) (hx : lexP l = x) (hz : l.length ≤ 9223372036854775807) (W : World) : Calls Tryz.prog 21 #[.string (bsOf l)] W fun e w' => ∃ v', e = .returned (.tuple #[v', .complex .f64 (nw x.line) (nw x.col), .int .i64 x.err]) ∧ More W w' ∧ GRow tk3 3 w' v' x.toks := tokens_k l hx hz W
end Go.Proofs.YtekhhekkepijoaaGreatDoor

namespace Go.Proofs.YtekhhekkepijoaaGreatDoor
set_option linter.unusedVariables false
open Go.ChangeShapes Go.WideShapes Go.ChangeAt Go.RowKit

theorem alloc_rest' (w : World) (r : Rest) (o : Obj) : (more w r).alloc o = more w (r.plus ⟨#[o], r.n⟩) := by unfold more World.alloc Rest.plus; simp
/-- A row that lies behind a world X. -/
def OwnW (X wr : World) (base : Nat) (e : TypeId) (m : Nat) (v : Value) (n : Nat) (xs : List Value) : Prop := ∃ s, wr = more X s ∧ OwnS base s e m v n xs
theorem OwnW.more {X wr : World} {base m n : Nat} {e : TypeId} {v : Value} {xs : List Value} (h : OwnW X wr base e m v n xs) (r : Rest) : OwnW X (more wr r) base e m v n xs := by
  obtain ⟨s, rfl, h⟩ := h
  exact ⟨_, more_more _ _ _, h.plus⟩
theorem OwnW.alloc {X wr : World} {base m n : Nat} {e : TypeId} {v : Value} {xs : List Value} (h : OwnW X wr base e m v n xs) (o : Obj) : OwnW X (wr.alloc o) base e m v n xs := by
  obtain ⟨s, rfl, h⟩ := h
  exact ⟨_, alloc_rest' _ _ _, h.plus⟩
theorem OwnW.drew {X wr : World} {base m n : Nat} {e : TypeId} {v : Value} {xs : List Value} (h : OwnW X wr base e m v n xs) : OwnW X wr.drew base e m v n xs := by
  obtain ⟨s, rfl, h⟩ := h
  exact ⟨_, more_drew _ _, h.draw⟩
theorem OwnW.row {α : Type} {f : α → List Value} {X wr : World} {base m : Nat} {e : TypeId} {v : Value} {l : List α} (hf : ∀ a, (f a).length = m) (hm : 0 < m) (hb : X.heap.size = base) (h : OwnW X wr base e m v l.length (flatC f l)) : GRow f m wr v l := by
  obtain ⟨s, rfl, h⟩ := h
  exact GRow.of_owns hf hm (h X hb)
theorem OwnW.snoc {α : Type} {f : α → List Value} {X wr : World} {base m : Nat} {e : TypeId} {v : Value} {l : List α} {t : α} (h : OwnW X wr base e m v (l.length + 1) (flatC f l ++ f t)) : OwnW X wr base e m v (l ++ [t]).length (flatC f (l ++ [t])) := by
  rw [flatC_snoc, List.length_append]
  exact h
end Go.Proofs.YtekhhekkepijoaaGreatDoor
