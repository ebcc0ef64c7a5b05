/-
  The contracts of package num, and of the plain saying of chapter 1.
-/
import Derived.Test.YtgkkfmjlgmoefaaRows
import Derived.Test.YtgkkfmjlgmoefaaMath
import Derived.WalkKit
import Derived.ProofKit
import Derived.OpenShut
import Derived.Outline
import Derived.Lib.Hide
namespace Go.Proofs.Ytgkkfmjlgmoefaa
set_option linter.unusedVariables false
open Go.ChangeShapes Go.WideShapes Go.ChangeAt Go.RowKit

theorem ret_int {k : IntKind} {a b : Int} (h : a = b) : Ending.returned (.int k a) = .returned (.int k b) := by rw [h]

set_option maxHeartbeats 4000000 in
theorem floor_c (a b : Int) (ha : -9223372036854775808 ≤ a) (ha' : a ≤ 9223372036854775807) (hn : ¬ (a = -9223372036854775808 ∧ b = -1)) (W : World) :
    Calls Try.prog 65 #[.int .i64 a, .int .i64 b] W fun e w' => e = .returned (.int .i64 (a.fdiv b)) ∧ W = w' := by
  have hb := tdiv_bd a b ha ha' hn
  clear hn
  by_cases h0 : b = 0
  · subst h0
    go_enter Try.func65, Try.ntmps65
    go_wp2_with fail
    go_ret
    exact ⟨ret_int (by simp), rfl⟩
  · have hf := fdiv_of a b h0
    by_cases hr : a.tmod b = 0
    · rw [if_neg (by simp [hr])] at hf
      rw [hf]
      clear hf
      go_enter Try.func65, Try.ntmps65
      go_wp2_with fail
      go_ret
      exact ⟨rfl, rfl⟩
    · have hb2 := tdiv_bd2 a b ha ha' hr
      have hr2 : 0 ≤ a → ¬ a % b = 0 := fun h => by rw [← Int.tmod_eq_emod_of_nonneg h]; exact hr
      by_cases h1 : a < 0 <;> by_cases h2 : b < 0
      all_goals
        first
        | (rw [if_neg (fun h => h.2 (by omega))] at hf)
        | (rw [if_pos ⟨hr, by omega⟩] at hf)
        rw [hf]
        clear hf
        first
        | (have hr3 := hr2 (by omega); clear hr2)
        | clear hr2
        go_enter Try.func65, Try.ntmps65
        go_wp2_with fail
        go_ret
        exact ⟨rfl, rfl⟩

set_option maxHeartbeats 4000000 in
theorem in_c (n : Int) (W : World) :
    Calls Try.prog 42 #[.int .i64 n] W fun e w' => e = .returned (.bool (isIn n)) ∧ W = w' := by
  by_cases h1 : -1073741824 ≤ n <;> by_cases h2 : n ≤ 1073741824
  all_goals
    go_enter Try.func42, Try.ntmps42
    go_wp2_with fail
    go_ret
    exact ⟨by simp [isIn, h1, h2], rfl⟩

set_option maxHeartbeats 4000000 in
theorem number_c (n : Int) (W : World) :
    Calls Try.prog 85 #[.int .i64 n] W fun e w' => e = .returned (.tuple #[.int .i64 (told n).1, .bool (told n).2]) ∧ W = w' := by
  by_cases h1 : isIn n = true
  all_goals
    go_enter Try.func85, Try.ntmps85
    go_wp2_with (first | (go_at_call 42; (with_reducible refine (in_c _ _).mono ?_); rintro e w' ⟨rfl, rfl⟩))
    go_ret2
    exact ⟨by simp [told, h1], rfl⟩


set_option maxHeartbeats 4000000 in
theorem quotient_c (a b : Int) (up : Bool) (ha : -4611686018427387904 ≤ a) (ha' : a ≤ 4611686018427387904) (W : World) :
    Calls Try.prog 86 #[.int .i64 a, .int .i64 b, .bool up] W fun e w' => e = .returned (.int .i64 (quo a b up)) ∧ W = w' := by
  have hq : -4611686018427387904 ≤ (-a).fdiv b ∧ (-a).fdiv b ≤ 4611686018427387904 := by have := fdiv_abs (-a) b; omega
  cases up
  all_goals
    go_enter Try.func86, Try.ntmps86
    go_wp2_with (first | (go_at_call 65; (with_reducible refine (floor_c _ _ (by omega) (by omega) (by omega) _).mono ?_); rintro e w' ⟨rfl, rfl⟩))
    go_ret
    exact ⟨ret_int (by simp [quo]), rfl⟩

set_option maxHeartbeats 4000000 in
theorem div_c (a b : Int) (up : Bool) (W : World) :
    Calls Try.prog 78 #[.int .i64 a, .int .i64 b, .bool up] W fun e w' => e = .returned (.tuple #[.int .i64 (divN a b up).1, .bool (divN a b up).2]) ∧ W = w' := by
  by_cases ha : isIn a = true <;> by_cases hb : isIn b = true <;> by_cases h0 : (b == 0) = true
  case neg =>
    have h1 := isIn_iff.1 ha
    have e : divN a b up = told (quo (a * 65536) b up) := by simp only [divN, ha, hb, h0]; rfl
    rw [e]
    clear e
    go_enter Try.func78, Try.ntmps78
    go_wp2_with (first | (go_at_call 42; (with_reducible refine (in_c _ _).mono ?_); rintro e w' ⟨rfl, rfl⟩) | (go_at_call 85; (with_reducible refine (number_c _ _).mono ?_); rintro e w' ⟨rfl, rfl⟩) | (go_at_call 86; (with_reducible refine (quotient_c _ _ _ (by omega) (by omega) _).mono ?_); rintro e w' ⟨rfl, rfl⟩))
    go_ret2
    exact ⟨rfl, rfl⟩
  all_goals
    have e : divN a b up = (0, false) := by simp only [divN, ha, hb, h0]; rfl
    rw [e]
    clear e
    go_enter Try.func78, Try.ntmps78
    go_wp2_with (first | (go_at_call 42; (with_reducible refine (in_c _ _).mono ?_); rintro e w' ⟨rfl, rfl⟩) | (go_at_call 85; (with_reducible refine (number_c _ _).mono ?_); rintro e w' ⟨rfl, rfl⟩) | (go_at_call 86; (with_reducible refine (quotient_c _ _ _ (by omega) (by omega) _).mono ?_); rintro e w' ⟨rfl, rfl⟩))
    go_ret2
    exact ⟨rfl, rfl⟩

end Go.Proofs.Ytgkkfmjlgmoefaa

