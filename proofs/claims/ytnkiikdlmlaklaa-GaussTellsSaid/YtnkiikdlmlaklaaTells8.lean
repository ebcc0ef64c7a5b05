/-
  Cells of any square, as a walk takes them.
-/
import Derived.Test.YtnkiikdlmlaklaaCells
import Derived.Test.YtnkiikdlmlaklaaReg4
import Derived.Test.YtnkiikdlmlaklaaTurnMath
namespace Go.Proofs.Ytnkiikdlmlaklaa
set_option linter.unusedVariables false
open Go.ChangeShapes Go.WideShapes Go.ChangeAt Go.RowKit

/-- Where the cells of a square lie. -/
def CAt (W : World) (ao : Option Addr) (N K : Nat) : Prop := 0 < K → ∃ b o, ao = some ⟨b, o, none⟩ ∧ b < W.heap.size ∧ ∀ k, k < K → W.cell? ⟨b, o + k, none⟩ = some (cxP (cellAt N k))
def PAt (W : World) (ao : Option Addr) (N K : Nat) : Prop := 0 < K → ∃ b o, ao = some ⟨b, o, none⟩ ∧ b < W.heap.size ∧ ∀ k, k < K → W.cell? ⟨b, o + k * 2, none⟩ = some (.int .i64 (cellAt N k).x) ∧ W.cell? ⟨b, o + (k * 2 + 1), none⟩ = some (.int .i64 (cellAt N k).y)
theorem CAt.up {W : World} {ao : Option Addr} {N K : Nat} (h : CAt W ao N K) (r : Rest) : CAt (more W r) ao N K := fun hp => by
  obtain ⟨b, o, e, hb, hc⟩ := h hp
  exact ⟨b, o, e, by rw [size_more]; omega, fun k hk => by rw [cell_more _ _ _ _ hb]; exact hc k hk⟩

theorem cells_any (n : Int) (N : Nat) (hN : (clampI n 16).toNat = N) (W : World) : Calls Try.prog 8 #[.int .i64 n] W fun e w' => ∃ ao c, e = .returned (.slice ao (4 * N * N) c) ∧ More W w' ∧ CAt w' ao N (4 * N * N) := by
  refine (cells_c n W).mono ?_
  rintro e w' ⟨v', rfl, hm, hr⟩
  obtain ⟨ao, c, rfl, hc⟩ := crow_form hr
  rw [hN] at hc ⊢
  rw [cellsTo_length] at hc ⊢
  refine ⟨ao, c, rfl, hm, fun hp => ?_⟩
  obtain ⟨b, o, rfl, hd⟩ := hc hp
  refine ⟨b, o, rfl, (hd 0 hp).1, fun k hk => ?_⟩
  have := (hd k hk).2
  rw [cellsTo_at _ _ _ hk] at this
  exact this

theorem rcells_any (n : Int) (N : Nat) (hN : (clampI n 16).toNat = N) (W : World) : Calls Try.prog 24 #[.int .i64 n] W fun e w' => ∃ ao c, e = .returned (.slice ao (4 * N * N) c) ∧ More W w' ∧ PAt w' ao N (4 * N * N) := by
  refine (rcells_c n W).mono ?_
  rintro e w' ⟨v', rfl, hm, hr⟩
  obtain ⟨ao, c, rfl, hc⟩ := prow_form hr
  rw [hN] at hc ⊢
  rw [cellsTo_length] at hc ⊢
  refine ⟨ao, c, rfl, hm, fun hp => ?_⟩
  obtain ⟨b, o, rfl, hd⟩ := hc hp
  refine ⟨b, o, rfl, (hd 0 hp).1, fun k hk => ?_⟩
  have := (hd k hk).2
  rw [cellsTo_at _ _ _ hk] at this
  exact this
theorem turn_zero (k : Int) : turnI ⟨0, 0⟩ k = ⟨0, 0⟩ := by
  obtain ⟨c, d, h, hc⟩ := turn_form 0 0 k
  rw [h]
  obtain ⟨rfl, rfl⟩ : c = 0 ∧ d = 0 := by omega
  rfl
end Go.Proofs.Ytnkiikdlmlaklaa

