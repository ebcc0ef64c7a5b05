/-
  What can be said, in plain numbers: chapter 3's calls. Unsure is 0, Yes is 1, No is 2.
-/
import Derived.Test.YtgkkfmjlgmoefaaIvMath5
namespace Go.Proofs.Ytgkkfmjlgmoefaa
set_option linter.unusedVariables false

def triLess (a b : Iv) : Int := if ivBoth a b then (if a.hi < b.lo then 1 else if b.hi ≤ a.lo then 2 else 0) else 0
def triNA (a b : Iv) : Int := if ivBoth a b then (if a.hi ≤ b.lo then 1 else if b.hi < a.lo then 2 else 0) else 0
def triNot (n : Int) : Int := if n = 1 then 2 else if n = 2 then 1 else 0
def triAnd (m n : Int) : Int := if m = 2 ∨ n = 2 then 2 else if m = 1 ∧ n = 1 then 1 else 0
def triOr (m n : Int) : Int := if m = 1 ∨ n = 1 then 1 else if m = 2 ∧ n = 2 then 2 else 0

theorem triLess_cases (a b : Iv) : (triLess a b = 1 ∧ ivBoth a b = true ∧ a.hi < b.lo) ∨ (triLess a b = 2 ∧ ivBoth a b = true ∧ b.hi ≤ a.lo) ∨ triLess a b = 0 := by
  unfold triLess
  cases ivBoth a b
  · simp
  · by_cases h : a.hi < b.lo
    · simp [h]
    · by_cases h' : b.hi ≤ a.lo <;> simp [h, h']
theorem triNA_cases (a b : Iv) : (triNA a b = 1 ∧ ivBoth a b = true ∧ a.hi ≤ b.lo) ∨ (triNA a b = 2 ∧ ivBoth a b = true ∧ b.hi < a.lo) ∨ triNA a b = 0 := by
  unfold triNA
  cases ivBoth a b
  · simp
  · by_cases h : a.hi ≤ b.lo
    · simp [h]
    · by_cases h' : b.hi < a.lo <;> simp [h, h']
theorem triLess_yes {a b : Iv} (h : ivBoth a b = true) (k : a.hi < b.lo) : triLess a b = 1 := by unfold triLess; simp [h, k]
theorem triLess_no {a b : Iv} (h : ivBoth a b = true) (k : b.hi ≤ a.lo) : triLess a b = 2 := by
  have r := both_bd h
  have : ¬ a.hi < b.lo := by
    intro hh
    have := r.1.2.2
    have := r.2.2.2
    omega
  unfold triLess; simp [h, k, this]
theorem triNA_yes {a b : Iv} (h : ivBoth a b = true) (k : a.hi ≤ b.lo) : triNA a b = 1 := by unfold triNA; simp [h, k]
theorem triNA_no {a b : Iv} (h : ivBoth a b = true) (k : b.hi < a.lo) : triNA a b = 2 := by
  have r := both_bd h
  have : ¬ a.hi ≤ b.lo := by
    intro hh
    have := r.1.2.2
    have := r.2.2.2
    omega
  unfold triNA; simp [h, k, this]
/-- Less of a and b is the opposite of 'not above' of b and a. -/
theorem less_not (a b : Iv) : triNot (triNA b a) = triLess a b := by
  unfold triNot triNA triLess
  rw [both_comm b a]
  cases h : ivBoth a b
  · simp
  · have r := both_bd h
    simp only [if_true]
    by_cases h1 : b.hi ≤ a.lo
    · have : ¬ a.hi < b.lo := by omega
      simp [h1, this]
    · by_cases h2 : a.hi < b.lo <;> simp [h1, h2]
theorem na_not (a b : Iv) : triNot (triLess b a) = triNA a b := by
  rw [← less_not b a]
  unfold triNot
  have h := triNA_cases a b
  rcases h with ⟨t, -⟩ | ⟨t, -⟩ | t <;> simp [t]
/-- What is said is said of less, too. -/
theorem less_part {x y u v : Iv} (h : Part u x) (k : Part v y) : (triLess x y = 1 → triLess u v = 1) ∧ (triLess x y = 2 → triLess u v = 2) ∧ (triNA x y = 1 → triNA u v = 1) ∧ (triNA x y = 2 → triNA u v = 2) := by
  obtain ⟨b1, b2⟩ := part_both h k
  obtain ⟨-, -, h1, h2⟩ := part_bd h |>.2 |> fun t => (⟨trivial, trivial, t.2.1, t.2.2⟩ : True ∧ True ∧ x.lo ≤ u.lo ∧ u.hi ≤ x.hi)
  obtain ⟨-, -, k1, k2⟩ := part_bd k |>.2 |> fun t => (⟨trivial, trivial, t.2.1, t.2.2⟩ : True ∧ True ∧ y.lo ≤ v.lo ∧ v.hi ≤ y.hi)
  refine ⟨fun e => ?_, fun e => ?_, fun e => ?_, fun e => ?_⟩
  · rcases triLess_cases x y with ⟨-, -, t⟩ | ⟨t, -⟩ | t
    · exact triLess_yes b1 (by omega)
    · omega
    · omega
  · rcases triLess_cases x y with ⟨t, -⟩ | ⟨-, -, t⟩ | t
    · omega
    · exact triLess_no b1 (by omega)
    · omega
  · rcases triNA_cases x y with ⟨-, -, t⟩ | ⟨t, -⟩ | t
    · exact triNA_yes b1 (by omega)
    · omega
    · omega
  · rcases triNA_cases x y with ⟨t, -⟩ | ⟨-, -, t⟩ | t
    · omega
    · exact triNA_no b1 (by omega)
    · omega
/-- The words' laws. -/
theorem tri_laws {x y z : Int} (hx : 0 ≤ x ∧ x ≤ 2) (hy : 0 ≤ y ∧ y ≤ 2) (hz : 0 ≤ z ∧ z ≤ 2) :
    (triNot (triNot x) = x ∧ triNot (triAnd x y) = triOr (triNot x) (triNot y) ∧ triAnd y x = triAnd x y ∧ triOr y x = triOr x y) ∧
    triAnd x (triAnd y z) = triAnd (triAnd x y) z ∧ triOr x (triOr y z) = triOr (triOr x y) z ∧ triAnd x x = x ∧ triAnd x (triOr y z) = triOr (triAnd x y) (triAnd x z) := by
  obtain rfl | rfl | rfl : x = 0 ∨ x = 1 ∨ x = 2 := by omega
  all_goals
    obtain rfl | rfl | rfl : y = 0 ∨ y = 1 ∨ y = 2 := by omega
    all_goals
      obtain rfl | rfl | rfl : z = 0 ∨ z = 1 ∨ z = 2 := by omega
      all_goals decide

end Go.Proofs.Ytgkkfmjlgmoefaa

