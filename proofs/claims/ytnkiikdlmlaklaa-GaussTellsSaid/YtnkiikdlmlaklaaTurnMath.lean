/-
  Turns and norms, in plain numbers.
-/
import Derived.Test.YtnkiikdlmlaklaaGauss
namespace Go.Proofs.Ytnkiikdlmlaklaa
set_option linter.unusedVariables false

theorem turn_form (x y k : Int) : ∃ c d, turnI ⟨x, y⟩ k = ⟨c, d⟩ ∧ ((c = x ∧ d = y) ∨ (c = -y ∧ d = x) ∨ (c = -x ∧ d = -y) ∨ (c = y ∧ d = -x)) := by
  have hk : k % 4 = 0 ∨ k % 4 = 1 ∨ k % 4 = 2 ∨ k % 4 = 3 := by omega
  rcases hk with hk | hk | hk | hk
  · exact ⟨_, _, turnI_0 hk, .inl ⟨rfl, rfl⟩⟩
  · exact ⟨_, _, turnI_1 hk, .inr (.inl ⟨rfl, rfl⟩)⟩
  · exact ⟨_, _, turnI_2 hk, .inr (.inr (.inl ⟨rfl, rfl⟩))⟩
  · exact ⟨_, _, turnI_3 hk, .inr (.inr (.inr ⟨rfl, rfl⟩))⟩
theorem turn_add (x y k j : Int) : turnI (turnI ⟨x, y⟩ k) j = turnI ⟨x, y⟩ (k + j) := by
  have hk : k % 4 = 0 ∨ k % 4 = 1 ∨ k % 4 = 2 ∨ k % 4 = 3 := by omega
  have hj : j % 4 = 0 ∨ j % 4 = 1 ∨ j % 4 = 2 ∨ j % 4 = 3 := by omega
  rcases hk with hk | hk | hk | hk <;> first | rw [turnI_0 hk] | rw [turnI_1 hk] | rw [turnI_2 hk] | rw [turnI_3 hk]
  all_goals
    rcases hj with hj | hj | hj | hj <;> first | rw [turnI_0 hj] | rw [turnI_1 hj] | rw [turnI_2 hj] | rw [turnI_3 hj]
  all_goals
    first
    | rw [turnI_0 (show (k + j) % 4 = 0 by omega)]
    | rw [turnI_1 (show (k + j) % 4 = 1 by omega)]
    | rw [turnI_2 (show (k + j) % 4 = 2 by omega)]
    | rw [turnI_3 (show (k + j) % 4 = 3 by omega)]
  all_goals simp only [Int.neg_neg]
theorem turn_four (x y k : Int) : turnI ⟨x, y⟩ (4 * k) = ⟨x, y⟩ := turnI_0 (by omega)
theorem turn_mirror (x y k : Int) : turnI ⟨x, -y⟩ (-k) = ⟨(turnI ⟨x, y⟩ k).x, -(turnI ⟨x, y⟩ k).y⟩ := by
  have hk : k % 4 = 0 ∨ k % 4 = 1 ∨ k % 4 = 2 ∨ k % 4 = 3 := by omega
  rcases hk with hk | hk | hk | hk
  · rw [turnI_0 hk, turnI_0 (show (-k) % 4 = 0 by omega)]
  · rw [turnI_1 hk, turnI_3 (show (-k) % 4 = 3 by omega)]
  · rw [turnI_2 hk, turnI_2 (show (-k) % 4 = 2 by omega)]
  · rw [turnI_3 hk, turnI_1 (show (-k) % 4 = 1 by omega)]
    simp only [Int.neg_neg]
theorem nrm_neg1 (x y : Int) : nrm (-x) y = nrm x y := by unfold nrm; rw [Int.neg_mul_neg]
theorem nrm_neg2 (x y : Int) : nrm x (-y) = nrm x y := by unfold nrm; rw [Int.neg_mul_neg]
theorem nrm_comm (x y : Int) : nrm x y = nrm y x := by unfold nrm; omega
theorem nrm_turn {x y c d : Int} (h : (c = x ∧ d = y) ∨ (c = -y ∧ d = x) ∨ (c = -x ∧ d = -y) ∨ (c = y ∧ d = -x)) : nrm c d = nrm x y := by
  rcases h with ⟨rfl, rfl⟩ | ⟨rfl, rfl⟩ | ⟨rfl, rfl⟩ | ⟨rfl, rfl⟩
  · rfl
  · rw [nrm_neg1, nrm_comm]
  · rw [nrm_neg1, nrm_neg2]
  · rw [nrm_neg2, nrm_comm]
theorem nrm_mul (x y u v : Int) : nrm (x * u - y * v) (x * v + y * u) = nrm x y * nrm u v := by unfold nrm; grind
theorem small_mul {m n : Int} (hm : -40 ≤ m ∧ m ≤ 40) (h : -40 ≤ n ∧ n ≤ 40) : -1600 ≤ m * n ∧ m * n ≤ 1600 := by
  have a : (m * n).natAbs = m.natAbs * n.natAbs := Int.natAbs_mul m n
  have b : m.natAbs * n.natAbs ≤ 40 * 40 := Nat.mul_le_mul (by omega) (by omega)
  omega
theorem nrm_small {x y : Int} (hx : -40 ≤ x ∧ x ≤ 40) (hy : -40 ≤ y ∧ y ≤ 40) : 0 ≤ nrm x y ∧ nrm x y ≤ 3200 := by
  have a := small_mul hx hx
  have b := small_mul hy hy
  have c := Int.natAbs_mul_self (a := x)
  have d := Int.natAbs_mul_self (a := y)
  unfold nrm
  omega
theorem pos_mul {m n : Int} (hm : 0 ≤ m ∧ m ≤ 3200) (h : 0 ≤ n ∧ n ≤ 3200) : 0 ≤ m * n ∧ m * n ≤ 10240000 := by
  have a : (m * n).natAbs = m.natAbs * n.natAbs := Int.natAbs_mul m n
  have b : m.natAbs * n.natAbs ≤ 3200 * 3200 := Nat.mul_le_mul (by omega) (by omega)
  have c := Int.mul_nonneg hm.1 h.1
  omega
theorem tmod1000 (k : Int) : -1000 ≤ k.tmod 1000 ∧ k.tmod 1000 ≤ 1000 := by
  have := Int.tmod_eq_emod (a := k) (b := 1000)
  split at this <;> omega
end Go.Proofs.Ytnkiikdlmlaklaa

