/-
  The contracts of package tri, and of the plain saying of chapter 3.
-/
import Derived.Test.YtekhhekkepijoaaGc
import Derived.Test.YtekhhekkepijoaaGb
namespace Go.Proofs.Ytekhhekkepijoaa
set_option linter.unusedVariables false
open Go.ChangeShapes Go.WideShapes Go.ChangeAt Go.RowKit

set_option maxHeartbeats 4000000 in
theorem tless_c (a b : Iv) (W : World) :
    Calls Try.prog 37 #[ivV a, ivV b] W fun e w' => e = .returned (.int .i64 (triLess a b)) ∧ More W w' := by
  unfold triLess ivBoth
  cases h0 : ivRight a <;> cases h1 : ivRight b <;> by_cases h2 : a.hi < b.lo <;> by_cases h3 : b.hi ≤ a.lo
  all_goals
    simp only [Bool.true_and, Bool.false_and, if_true, if_false, Bool.false_eq_true, h2, h3]
    go_enter Try.func37, Try.ntmps37
    go_wp2_with (first | (go_at_call 30; (with_reducible refine (right_c _ _).mono ?_); rintro e w' ⟨rfl, r, rfl⟩) | (go_at_call 30; (with_reducible refine (right_c ⟨_, _, _⟩ _).mono ?_); rintro e w' ⟨rfl, r, rfl⟩))
    go_returns
    exact ⟨rfl, (by repeat (first | exact More.refl _ | refine More.alloc ?_ _ | refine More.more ?_ _ | refine More.drew ?_ | refine More.drewN ?_ _))⟩

set_option maxHeartbeats 4000000 in
theorem tnot_c (n : Int) (W : World) :
    Calls Try.prog 62 #[.int .i64 n] W fun e w' => e = .returned (.int .i64 (triNot n)) ∧ More W w' := by
  unfold triNot
  by_cases h0 : n = 1
  · subst h0
    go_enter Try.func62, Try.ntmps62
    go_wp2_with fail
    go_returns
    exact ⟨rfl, (by repeat (first | exact More.refl _ | refine More.alloc ?_ _ | refine More.more ?_ _ | refine More.drew ?_ | refine More.drewN ?_ _))⟩
  · by_cases h1 : n = 2
    · subst h1
      go_enter Try.func62, Try.ntmps62
      go_wp2_with fail
      go_returns
      exact ⟨rfl, (by repeat (first | exact More.refl _ | refine More.alloc ?_ _ | refine More.more ?_ _ | refine More.drew ?_ | refine More.drewN ?_ _))⟩
    · rw [if_neg h0, if_neg h1]
      go_enter Try.func62, Try.ntmps62
      go_wp2_with fail
      go_returns
      exact ⟨rfl, (by repeat (first | exact More.refl _ | refine More.alloc ?_ _ | refine More.more ?_ _ | refine More.drew ?_ | refine More.drewN ?_ _))⟩

set_option maxHeartbeats 4000000 in
theorem tna_c (a b : Iv) (W : World) :
    Calls Try.prog 36 #[ivV a, ivV b] W fun e w' => e = .returned (.int .i64 (triNA a b)) ∧ More W w' := by
  have h := na_not a b
  go_enter Try.func36, Try.ntmps36
  go_wp2_with (first | (go_at_call 37; (with_reducible refine (tless_c _ _ _).mono ?_); rintro e w' ⟨rfl, r, rfl⟩) | (go_at_call 37; (with_reducible refine (tless_c _ ⟨_, _, _⟩ _).mono ?_); rintro e w' ⟨rfl, r, rfl⟩) | (go_at_call 37; (with_reducible refine (tless_c ⟨_, _, _⟩ _ _).mono ?_); rintro e w' ⟨rfl, r, rfl⟩) | (go_at_call 37; (with_reducible refine (tless_c ⟨_, _, _⟩ ⟨_, _, _⟩ _).mono ?_); rintro e w' ⟨rfl, r, rfl⟩) | (go_at_call 62; (with_reducible refine (tnot_c _ _).mono ?_); rintro e w' ⟨rfl, r, rfl⟩))
  go_returns
  exact ⟨rfl, (by repeat (first | exact More.refl _ | refine More.alloc ?_ _ | refine More.more ?_ _ | refine More.drew ?_ | refine More.drewN ?_ _))⟩

end Go.Proofs.Ytekhhekkepijoaa

