/-
  The contracts of package tri, and of the plain saying of chapter 3.
-/
import Derived.Test.YtlpnjlhhpihgcaaIv
import Derived.Test.YtlpnjlhhpihgcaaRefIv
import Derived.Test.YtlpnjlhhpihgcaaTriMath
namespace Go.Proofs.Ytlpnjlhhpihgcaa
set_option linter.unusedVariables false
open Go.ChangeShapes Go.WideShapes Go.ChangeAt Go.RowKit

set_option maxHeartbeats 4000000 in
theorem tless_c (a b : Iv) (W : World) :
    Calls Try.prog 10 #[ivV a, ivV b] W fun e w' => e = .returned (.int .i64 (triLess a b)) ∧ More W w' := by
  unfold triLess ivBoth
  cases h0 : ivRight a <;> cases h1 : ivRight b <;> by_cases h2 : a.hi < b.lo <;> by_cases h3 : b.hi ≤ a.lo
  all_goals
    simp only [Bool.true_and, Bool.false_and, if_true, if_false, Bool.false_eq_true, h2, h3]
    go_enter Try.func10, Try.ntmps10
    go_wp2_with (first | (go_at_call 25; (with_reducible refine (right_c _ _).mono ?_); rintro e w' ⟨rfl, r, rfl⟩) | (go_at_call 25; (with_reducible refine (right_c ⟨_, _, _⟩ _).mono ?_); rintro e w' ⟨rfl, r, rfl⟩))
    go_returns
    exact ⟨rfl, (by repeat (first | exact More.refl _ | refine More.alloc ?_ _ | refine More.more ?_ _ | refine More.drew ?_ | refine More.drewN ?_ _))⟩

set_option maxHeartbeats 4000000 in
theorem tnot_c (n : Int) (W : World) :
    Calls Try.prog 12 #[.int .i64 n] W fun e w' => e = .returned (.int .i64 (triNot n)) ∧ More W w' := by
  unfold triNot
  by_cases h0 : n = 1
  · subst h0
    go_enter Try.func12, Try.ntmps12
    go_wp2_with fail
    go_returns
    exact ⟨rfl, (by repeat (first | exact More.refl _ | refine More.alloc ?_ _ | refine More.more ?_ _ | refine More.drew ?_ | refine More.drewN ?_ _))⟩
  · by_cases h1 : n = 2
    · subst h1
      go_enter Try.func12, Try.ntmps12
      go_wp2_with fail
      go_returns
      exact ⟨rfl, (by repeat (first | exact More.refl _ | refine More.alloc ?_ _ | refine More.more ?_ _ | refine More.drew ?_ | refine More.drewN ?_ _))⟩
    · rw [if_neg h0, if_neg h1]
      go_enter Try.func12, Try.ntmps12
      go_wp2_with fail
      go_returns
      exact ⟨rfl, (by repeat (first | exact More.refl _ | refine More.alloc ?_ _ | refine More.more ?_ _ | refine More.drew ?_ | refine More.drewN ?_ _))⟩

set_option maxHeartbeats 4000000 in
theorem tna_c (a b : Iv) (W : World) :
    Calls Try.prog 9 #[ivV a, ivV b] W fun e w' => e = .returned (.int .i64 (triNA a b)) ∧ More W w' := by
  have h := na_not a b
  go_enter Try.func9, Try.ntmps9
  go_wp2_with (first | (go_at_call 10; (with_reducible refine (tless_c _ _ _).mono ?_); rintro e w' ⟨rfl, r, rfl⟩) | (go_at_call 10; (with_reducible refine (tless_c _ ⟨_, _, _⟩ _).mono ?_); rintro e w' ⟨rfl, r, rfl⟩) | (go_at_call 10; (with_reducible refine (tless_c ⟨_, _, _⟩ _ _).mono ?_); rintro e w' ⟨rfl, r, rfl⟩) | (go_at_call 10; (with_reducible refine (tless_c ⟨_, _, _⟩ ⟨_, _, _⟩ _).mono ?_); rintro e w' ⟨rfl, r, rfl⟩) | (go_at_call 12; (with_reducible refine (tnot_c _ _).mono ?_); rintro e w' ⟨rfl, r, rfl⟩))
  go_returns
  exact ⟨rfl, (by repeat (first | exact More.refl _ | refine More.alloc ?_ _ | refine More.more ?_ _ | refine More.drew ?_ | refine More.drewN ?_ _))⟩

set_option maxHeartbeats 4000000 in
theorem tand_c (m n : Int) (W : World) :
    Calls Try.prog 13 #[.int .i64 m, .int .i64 n] W fun e w' => e = .returned (.int .i64 (triAnd m n)) ∧ More W w' := by
  go_enter Try.func13, Try.ntmps13
  go_wp2_with fail
  all_goals
    go_returns
    refine ⟨?_, (by repeat (first | exact More.refl _ | refine More.alloc ?_ _ | refine More.more ?_ _ | refine More.drew ?_ | refine More.drewN ?_ _))⟩
    simp_all [triAnd]

set_option maxHeartbeats 4000000 in
theorem tor_c (m n : Int) (W : World) :
    Calls Try.prog 14 #[.int .i64 m, .int .i64 n] W fun e w' => e = .returned (.int .i64 (triOr m n)) ∧ More W w' := by
  go_enter Try.func14, Try.ntmps14
  go_wp2_with fail
  all_goals
    go_returns
    refine ⟨?_, (by repeat (first | exact More.refl _ | refine More.alloc ?_ _ | refine More.more ?_ _ | refine More.drew ?_ | refine More.drewN ?_ _))⟩
    simp_all [triOr]

set_option maxHeartbeats 4000000 in
theorem rless_c (a b : Iv) (W : World) :
    Calls Try.prog 17 #[ivV a, ivV b] W fun e w' => e = .returned (.int .i64 (triLess a b)) ∧ More W w' := by
  unfold triLess ivBoth
  cases h0 : ivRight a <;> cases h1 : ivRight b <;> by_cases h2 : a.hi < b.lo <;> by_cases h3 : b.hi ≤ a.lo
  all_goals
    simp only [Bool.true_and, Bool.false_and, if_true, if_false, Bool.false_eq_true, h2, h3]
    go_enter Try.func17, Try.ntmps17
    go_wp2_with (first | (go_at_call 27; (with_reducible refine (rright_c _ _).mono ?_); rintro e w' ⟨rfl, r, rfl⟩) | (go_at_call 27; (with_reducible refine (rright_c ⟨_, _, _⟩ _).mono ?_); rintro e w' ⟨rfl, r, rfl⟩))
    go_returns
    exact ⟨rfl, (by repeat (first | exact More.refl _ | refine More.alloc ?_ _ | refine More.more ?_ _ | refine More.drew ?_ | refine More.drewN ?_ _))⟩

set_option maxHeartbeats 4000000 in
theorem rna_c (a b : Iv) (W : World) :
    Calls Try.prog 18 #[ivV a, ivV b] W fun e w' => e = .returned (.int .i64 (triNA a b)) ∧ More W w' := by
  unfold triNA ivBoth
  cases h0 : ivRight a <;> cases h1 : ivRight b <;> by_cases h2 : a.hi ≤ b.lo <;> by_cases h3 : b.hi < a.lo
  all_goals
    simp only [Bool.true_and, Bool.false_and, if_true, if_false, Bool.false_eq_true, h2, h3]
    go_enter Try.func18, Try.ntmps18
    go_wp2_with (first | (go_at_call 27; (with_reducible refine (rright_c _ _).mono ?_); rintro e w' ⟨rfl, r, rfl⟩) | (go_at_call 27; (with_reducible refine (rright_c ⟨_, _, _⟩ _).mono ?_); rintro e w' ⟨rfl, r, rfl⟩))
    go_returns
    exact ⟨rfl, (by repeat (first | exact More.refl _ | refine More.alloc ?_ _ | refine More.more ?_ _ | refine More.drew ?_ | refine More.drewN ?_ _))⟩

set_option maxHeartbeats 4000000 in
theorem rnot_c (n : Int) (W : World) :
    Calls Try.prog 19 #[.int .i64 n] W fun e w' => e = .returned (.int .i64 (triNot n)) ∧ More W w' := by
  unfold triNot
  by_cases h0 : n = 1
  · subst h0
    go_enter Try.func19, Try.ntmps19
    go_wp2_with fail
    go_returns
    exact ⟨rfl, (by repeat (first | exact More.refl _ | refine More.alloc ?_ _ | refine More.more ?_ _ | refine More.drew ?_ | refine More.drewN ?_ _))⟩
  · by_cases h1 : n = 2
    · subst h1
      go_enter Try.func19, Try.ntmps19
      go_wp2_with fail
      go_returns
      exact ⟨rfl, (by repeat (first | exact More.refl _ | refine More.alloc ?_ _ | refine More.more ?_ _ | refine More.drew ?_ | refine More.drewN ?_ _))⟩
    · rw [if_neg h0, if_neg h1]
      go_enter Try.func19, Try.ntmps19
      go_wp2_with fail
      go_returns
      exact ⟨rfl, (by repeat (first | exact More.refl _ | refine More.alloc ?_ _ | refine More.more ?_ _ | refine More.drew ?_ | refine More.drewN ?_ _))⟩

set_option maxHeartbeats 4000000 in
theorem rand_c (m n : Int) (W : World) :
    Calls Try.prog 20 #[.int .i64 m, .int .i64 n] W fun e w' => e = .returned (.int .i64 (triAnd m n)) ∧ More W w' := by
  go_enter Try.func20, Try.ntmps20
  go_wp2_with fail
  all_goals
    go_returns
    refine ⟨?_, (by repeat (first | exact More.refl _ | refine More.alloc ?_ _ | refine More.more ?_ _ | refine More.drew ?_ | refine More.drewN ?_ _))⟩
    simp_all [triAnd]

set_option maxHeartbeats 4000000 in
theorem ror_c (m n : Int) (W : World) :
    Calls Try.prog 21 #[.int .i64 m, .int .i64 n] W fun e w' => e = .returned (.int .i64 (triOr m n)) ∧ More W w' := by
  go_enter Try.func21, Try.ntmps21
  go_wp2_with fail
  all_goals
    go_returns
    refine ⟨?_, (by repeat (first | exact More.refl _ | refine More.alloc ?_ _ | refine More.more ?_ _ | refine More.drew ?_ | refine More.drewN ?_ _))⟩
    simp_all [triOr]

end Go.Proofs.Ytlpnjlhhpihgcaa

