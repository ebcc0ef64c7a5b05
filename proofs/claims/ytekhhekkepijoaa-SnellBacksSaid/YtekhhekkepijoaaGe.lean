/-
  Slices of structs, whatever their cells: what a slice's cells hold; a row that the call itself makes, told by what lies behind a world.
-/
import Derived.Test.YtekhhekkepijoaaGc
import Derived.Test.YtekhhekkepijoaaGd

namespace Go.Proofs.Ytekhhekkepijoaa
set_option linter.unusedVariables false
open Go.ChangeShapes Go.WideShapes Go.ChangeAt Go.RowKit

section
variable {α : Type} (f : α → List Value) (m : Nat)
/-- The cells of the slice v hold the list l. -/
def GRow (w : World) (v : Value) (l : List α) : Prop :=
  (v = .slice none 0 0 ∧ l = []) ∨ ∃ g o c, v = .slice (some ⟨g, o, none⟩) l.length c ∧ l.length ≤ c ∧ ∀ k a, l[k]? = some a → ∀ j u, (f a)[j]? = some u → w.cell? ⟨g, o + (k * m + j), none⟩ = some u
variable {f m}
theorem GRow.keep {w w' : World} {v : Value} {l : List α} (h : GRow f m w v l) (hb : ∀ k, k < w.heap.size → w'.heap[k]? = w.heap[k]?) : GRow f m w' v l := by
  rcases h with h | ⟨g, o, c, hv, hcap, hc⟩
  · exact .inl h
  · refine .inr ⟨g, o, c, hv, hcap, fun k a hk j u hu => ?_⟩
    have h1 := hc k a hk j u hu
    rw [World.cell?_of_block (hb g (World.block_lt_of_cell? w _ h1))]
    exact h1
theorem GRow.up {w w' : World} {v : Value} {l : List α} (h : GRow f m w v l) (hm : More w w') : GRow f m w' v l := by
  obtain ⟨r, rfl⟩ := hm
  exact h.keep fun k hk => heap_more w r k hk
theorem GRow.more {w : World} {v : Value} {l : List α} (h : GRow f m w v l) {r : Rest} : GRow f m (more w r) v l := h.keep fun k hk => heap_more w r k hk
theorem GRow.alloc {w : World} {v : Value} {l : List α} (h : GRow f m w v l) {o : Obj} : GRow f m (w.alloc o) v l := h.keep fun k hk => Below.heap_alloc w o k hk
theorem GRow.drew {w : World} {v : Value} {l : List α} (h : GRow f m w v l) : GRow f m w.drew v l := h.keep fun _ _ => rfl
theorem GRow.drewN {w : World} {v : Value} {l : List α} (h : GRow f m w v l) {n : Nat} : GRow f m (w.drewN n) v l := h.keep fun _ _ => rfl
theorem GRow.take {w : World} {ao : Option Addr} {n c k : Nat} {l : List α} (h : GRow f m w (.slice ao n c) l) (hk : k ≤ l.length) (h0 : ao ≠ none ∨ k = 0 ∧ c = 0) : GRow f m w (.slice ao k c) (l.take k) := by
  rcases h with ⟨hv, rfl⟩ | ⟨b, o, c', hv, hcap, hc⟩
  · injection hv with h1 h2 h3
    subst h1 h2 h3
    have : k = 0 := by simpa using hk
    subst this
    exact .inl ⟨rfl, rfl⟩
  · injection hv with h1 h2 h3
    subst h1 h2 h3
    refine .inr ⟨b, o, c, by rw [List.length_take, Nat.min_eq_left hk], by rw [List.length_take]; omega, fun i a hi j u hu => ?_⟩
    rw [List.getElem?_take] at hi
    split at hi
    · exact hc i a hi j u hu
    · cases hi
/-- What stands behind the first k. -/
theorem GRow.drop {w : World} {b o n c k c' : Nat} {l : List α} (h : GRow f m w (.slice (some ⟨b, o, none⟩) n c) l) (hk : k ≤ l.length) (hc' : l.length - k ≤ c') : GRow f m w (.slice (some ⟨b, o + k * m, none⟩) (l.length - k) c') (l.drop k) := by
  rcases h with ⟨hv, rfl⟩ | ⟨b, o, c1, hv, hcap, hc⟩
  · injection hv with h1 h2 h3
    cases h1
  · injection hv with h1 h2 h3
    cases h1
    refine .inr ⟨_, _, c', by rw [List.length_drop], by rw [List.length_drop]; exact hc', fun i a hi j u hu => ?_⟩
    rw [List.getElem?_drop] at hi
    have := hc (k + i) a hi j u hu
    rw [Nat.add_mul] at this
    rw [show o + k * m + (i * m + j) = o + (k * m + i * m + j) by omega]
    exact this
end

/-! A row that lies behind a world of so many blocks: told by what lies behind alone. -/
theorem heap_more_ge (w : World) (r : Rest) (k : Nat) (h : w.heap.size ≤ k) : (more w r).heap[k]? = r.X[k - w.heap.size]? := by
  unfold more; simp [Array.getElem?_append, Nat.not_lt.2 h]
def OwnS (base : Nat) (s : Rest) (e : TypeId) (m : Nat) (v : Value) (n : Nat) (xs : List Value) : Prop := ∀ w : World, w.heap.size = base → (more w s).ownsRow base e m v n xs
theorem owns_on {w w' : World} {base n m : Nat} {e : TypeId} {v : Value} {xs : List Value} (h : w.ownsRow base e m v n xs) (hb : ∀ k, base ≤ k → k < w.heap.size → w'.heap[k]? = w.heap[k]?) : w'.ownsRow base e m v n xs := by
  obtain ⟨hl, h⟩ := h
  refine ⟨hl, ?_⟩
  rcases h with h | ⟨g, cap, cur, hv, hg, hc, h1⟩
  · exact .inl h
  · exact .inr ⟨g, cap, cur, hv, hg, (hb g hg ((Array.getElem?_eq_some_iff.1 hc).1)).trans hc, h1⟩
theorem OwnS.of {w : World} {s : Rest} {base n m : Nat} {e : TypeId} {v : Value} {xs : List Value} (hb : w.heap.size = base) (h : (more w s).ownsRow base e m v n xs) : OwnS base s e m v n xs := by
  intro w' hw
  refine owns_on h fun k hk _ => ?_
  rw [heap_more_ge _ _ _ (by omega), heap_more_ge _ _ _ (by omega), hw, hb]
theorem OwnS.plus {s r : Rest} {base n m : Nat} {e : TypeId} {v : Value} {xs : List Value} (h : OwnS base s e m v n xs) : OwnS base (s.plus r) e m v n xs := by
  intro w hw
  rw [← more_more]
  exact owns_more (h w hw)
theorem OwnS.draw {s : Rest} {base n m k : Nat} {e : TypeId} {v : Value} {xs : List Value} (h : OwnS base s e m v n xs) : OwnS base (s.draw k) e m v n xs := by
  intro w hw
  exact owns_keep (h w hw) fun _ _ => rfl
theorem OwnS.nil (s : Rest) (base m : Nat) (e : TypeId) : OwnS base s e m (.slice none 0 0) 0 [] := fun w _ => World.ownsRow_nil _ _ _ _
/-- A whole number that is not negative, as a word. -/
@[irreducible] def nw (n : Nat) : Nat := ww (n : Int) false
theorem nw_eq (n : Nat) : nw n = ww (n : Int) false := by unfold nw; rfl
@[go_sem, simp] theorem ww_nw (n : Nat) : ww (n : Int) false = nw n := (nw_eq n).symm

end Go.Proofs.Ytekhhekkepijoaa
