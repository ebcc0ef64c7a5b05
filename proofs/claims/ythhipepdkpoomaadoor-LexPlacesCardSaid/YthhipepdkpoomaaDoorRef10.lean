/-
  The contracts of the plain saying of chapter 9, the third part: order, printing.
-/
import Derived.Test.YthhipepdkpoomaaDoorRef9
namespace Go.Proofs.YthhipepdkpoomaaDoor
set_option linter.unusedVariables false
open Go.ChangeShapes Go.WideShapes Go.ChangeAt Go.RowKit

theorem p10_vals (n : Nat) (h : n ≤ 6) : (n = 0 ∧ p10 n = 1 ∧ p10 (6 - n) = 1000000) ∨ (n = 1 ∧ p10 n = 10 ∧ p10 (6 - n) = 100000) ∨ (n = 2 ∧ p10 n = 100 ∧ p10 (6 - n) = 10000) ∨ (n = 3 ∧ p10 n = 1000 ∧ p10 (6 - n) = 1000) ∨ (n = 4 ∧ p10 n = 10000 ∧ p10 (6 - n) = 100) ∨ (n = 5 ∧ p10 n = 100000 ∧ p10 (6 - n) = 10) ∨ (n = 6 ∧ p10 n = 1000000 ∧ p10 (6 - n) = 1) := by
  have : n = 0 ∨ n = 1 ∨ n = 2 ∨ n = 3 ∨ n = 4 ∨ n = 5 ∨ n = 6 := by omega
  rcases this with rfl | rfl | rfl | rfl | rfl | rfl | rfl <;> decide
theorem less_same (c c' : Int) (x y : Nat) (hx : x ≤ 6) (hy : y ≤ 6) : decide (c * p10 (6 - x) < c' * p10 (6 - y)) = decide (c * p10 y < c' * p10 x) := by
  rw [decide_eq_decide]
  rcases p10_vals x hx with ⟨_, e1, e2⟩ | ⟨_, e1, e2⟩ | ⟨_, e1, e2⟩ | ⟨_, e1, e2⟩ | ⟨_, e1, e2⟩ | ⟨_, e1, e2⟩ | ⟨_, e1, e2⟩ <;>
    rcases p10_vals y hy with ⟨_, f1, f2⟩ | ⟨_, f1, f2⟩ | ⟨_, f1, f2⟩ | ⟨_, f1, f2⟩ | ⟨_, f1, f2⟩ | ⟨_, f1, f2⟩ | ⟨_, f1, f2⟩ <;>
      ((rw [e1, e2, f1, f2]) <;> omega)

end Go.Proofs.YthhipepdkpoomaaDoor

