/-
  Cells and discs, in plain numbers: what is said of a cell, of its places, of its parts.
-/
import Derived.Test.YtnkiikdlmlaklaaTurnMath
namespace Go.Proofs.Ytnkiikdlmlaklaa
set_option linter.unusedVariables false

theorem sq_le {m n : Int} (h : -n ≤ m ∧ m ≤ n) : m * m ≤ n * n := by
  have a := Int.natAbs_mul_self (a := m)
  have b := Int.natAbs_mul_self (a := n)
  have c : m.natAbs * m.natAbs ≤ n.natAbs * n.natAbs := Nat.mul_le_mul (by omega) (by omega)
  omega
/-- Ten parts of an edge, and a place among them: not farther than the farther end, not nearer than the nearer one. -/
theorem part_far (a i : Int) (h0 : 0 ≤ i) (h1 : i ≤ 10) : (10 * a + i) * (10 * a + i) ≤ 100 * max (a * a) ((a + 1) * (a + 1)) := by
  by_cases h : 0 ≤ a
  · have := sq_le (m := 10 * a + i) (n := 10 * (a + 1)) (by omega)
    have e : 10 * (a + 1) * (10 * (a + 1)) = 100 * ((a + 1) * (a + 1)) := by grind
    omega
  · have := sq_le (m := 10 * a + i) (n := -(10 * a)) (by omega)
    have e : -(10 * a) * -(10 * a) = 100 * (a * a) := by grind
    omega
theorem part_near (a i : Int) (h0 : 0 ≤ i) (h1 : i ≤ 10) : 100 * (nearI a * nearI a) ≤ (10 * a + i) * (10 * a + i) := by
  unfold nearI
  by_cases h : a < 0
  · rw [if_pos h]
    have := sq_le (m := 10 * (a + 1)) (n := -(10 * a + i)) (by omega)
    have e : 10 * (a + 1) * (10 * (a + 1)) = 100 * ((a + 1) * (a + 1)) := by grind
    have e2 : -(10 * a + i) * -(10 * a + i) = (10 * a + i) * (10 * a + i) := by grind
    omega
  · rw [if_neg h]
    have := sq_le (m := 10 * a) (n := 10 * a + i) (by omega)
    have e : 10 * a * (10 * a) = 100 * (a * a) := by grind
    omega
theorem half_far (a i : Int) (h0 : 0 ≤ i) (h1 : i ≤ 1) : max ((2 * a + i) * (2 * a + i)) ((2 * a + i + 1) * (2 * a + i + 1)) ≤ 4 * max (a * a) ((a + 1) * (a + 1)) := by
  have key : ∀ j : Int, 0 ≤ j → j ≤ 2 → (2 * a + j) * (2 * a + j) ≤ 4 * max (a * a) ((a + 1) * (a + 1)) := fun j h0 h1 => by
    by_cases h : 0 ≤ a
    · have := sq_le (m := 2 * a + j) (n := 2 * (a + 1)) (by omega)
      have e : 2 * (a + 1) * (2 * (a + 1)) = 4 * ((a + 1) * (a + 1)) := by grind
      omega
    · have := sq_le (m := 2 * a + j) (n := -(2 * a)) (by omega)
      have e : -(2 * a) * -(2 * a) = 4 * (a * a) := by grind
      omega
  have k1 := key i h0 (by omega)
  have k2 := key (i + 1) (by omega) (by omega)
  rw [← Int.add_assoc] at k2
  omega
theorem half_near (a i : Int) (h0 : 0 ≤ i) (h1 : i ≤ 1) : 4 * (nearI a * nearI a) ≤ nearI (2 * a + i) * nearI (2 * a + i) := by
  unfold nearI
  by_cases h : a < 0
  · rw [if_pos h, if_pos (by omega)]
    have := sq_le (m := 2 * (a + 1)) (n := -(2 * a + i + 1)) (by omega)
    have e : 2 * (a + 1) * (2 * (a + 1)) = 4 * ((a + 1) * (a + 1)) := by grind
    have e2 : -(2 * a + i + 1) * -(2 * a + i + 1) = (2 * a + i + 1) * (2 * a + i + 1) := by grind
    omega
  · rw [if_neg h, if_neg (by omega)]
    have := sq_le (m := 2 * a) (n := 2 * a + i) (by omega)
    have e : 2 * a * (2 * a) = 4 * (a * a) := by grind
    omega
theorem near_far (a : Int) : nearI a * nearI a ≤ max (a * a) ((a + 1) * (a + 1)) := by
  unfold nearI
  split <;> omega
theorem disc_is {a b N : Int} (h0 : 0 ≤ N) (h1 : N ≤ 1048576) : discI a b N = if farI a b ≤ N * N then 1 else if N * N < nrm (nearI a) (nearI b) then 2 else 0 := by
  unfold discI
  rw [show clampI N 1048576 = N by unfold clampI; omega]
theorem disc_cases {a b N : Int} (h0 : 0 ≤ N) (h1 : N ≤ 1048576) : (discI a b N = 1 ∧ farI a b ≤ N * N) ∨ (discI a b N = 2 ∧ N * N < nrm (nearI a) (nearI b)) ∨ discI a b N = 0 := by
  rw [disc_is h0 h1]
  by_cases h : farI a b ≤ N * N
  · exact .inl ⟨if_pos h, h⟩
  · rw [if_neg h]
    by_cases h2 : N * N < nrm (nearI a) (nearI b)
    · exact .inr (.inl ⟨if_pos h2, h2⟩)
    · exact .inr (.inr (if_neg h2))
theorem all_in {a b N : Int} (h : farI a b ≤ N * N) (i j : Int) (i0 : 0 ≤ i) (i1 : i ≤ 10) (j0 : 0 ≤ j) (j1 : j ≤ 10) : (10 * a + i) * (10 * a + i) + (10 * b + j) * (10 * b + j) ≤ 100 * N * N := by
  have p := part_far a i i0 i1
  have q := part_far b j j0 j1
  unfold farI at h
  rw [Int.mul_assoc]
  omega
theorem all_out {a b N : Int} (h : N * N < nrm (nearI a) (nearI b)) (i j : Int) (i0 : 0 ≤ i) (i1 : i ≤ 10) (j0 : 0 ≤ j) (j1 : j ≤ 10) : 100 * N * N < (10 * a + i) * (10 * a + i) + (10 * b + j) * (10 * b + j) := by
  have p := part_near a i i0 i1
  have q := part_near b j j0 j1
  unfold nrm at h
  rw [Int.mul_assoc]
  omega
theorem fine_in {a b N : Int} (h0 : 0 ≤ N) (h1 : N ≤ 20) (h : farI a b ≤ N * N) (i j : Int) (i0 : 0 ≤ i) (i1 : i ≤ 1) (j0 : 0 ≤ j) (j1 : j ≤ 1) : discI (2 * a + i) (2 * b + j) (2 * N) = 1 := by
  have p := half_far a i i0 i1
  have q := half_far b j j0 j1
  rw [disc_is (by omega) (by omega)]
  refine if_pos ?_
  have e : 2 * N * (2 * N) = 4 * (N * N) := by grind
  unfold farI at *
  omega
theorem fine_out {a b N : Int} (h0 : 0 ≤ N) (h1 : N ≤ 20) (h : N * N < nrm (nearI a) (nearI b)) (i j : Int) (i0 : 0 ≤ i) (i1 : i ≤ 1) (j0 : 0 ≤ j) (j1 : j ≤ 1) : discI (2 * a + i) (2 * b + j) (2 * N) = 2 := by
  have p := half_near a i i0 i1
  have q := half_near b j j0 j1
  have p2 := near_far (2 * a + i)
  have q2 := near_far (2 * b + j)
  rw [disc_is (by omega) (by omega)]
  have e : 2 * N * (2 * N) = 4 * (N * N) := by grind
  unfold nrm at h
  rw [if_neg (by unfold farI; omega)]
  refine if_pos ?_
  unfold nrm
  omega
end Go.Proofs.Ytnkiikdlmlaklaa

