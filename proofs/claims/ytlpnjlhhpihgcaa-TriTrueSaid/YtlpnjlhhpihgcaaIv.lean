/-
  The contracts of package iv: each call answers what the plain interval of the same name is, and makes no more than memory of its own.
-/
import Derived.Test.YtlpnjlhhpihgcaaNum
import Derived.Test.YtlpnjlhhpihgcaaReg3
import Derived.Test.YtlpnjlhhpihgcaaIvMath
namespace Go.Proofs.Ytlpnjlhhpihgcaa
set_option linter.unusedVariables false
open Go.ChangeShapes Go.WideShapes Go.ChangeAt Go.RowKit

/-- A field of an interval by value. -/
@[go_sem] theorem run_iv_lo (a : Iv) (w : World) : (Instr.field 23 (ivV a) 0).run Try.prog w = .ok (.int .i64 a.lo) w := by kernel_rfl
@[go_sem] theorem run_iv_hi (a : Iv) (w : World) : (Instr.field 23 (ivV a) 1).run Try.prog w = .ok (.int .i64 a.hi) w := by kernel_rfl
@[go_sem] theorem run_iv_no (a : Iv) (w : World) : (Instr.field 23 (ivV a) 2).run Try.prog w = .ok (.bool a.no) w := by kernel_rfl

set_option maxHeartbeats 4000000 in
theorem right_c (a : Iv) (W : World) :
    Calls Try.prog 25 #[ivV a] W fun e w' => e = .returned (.bool (ivRight a)) ∧ More W w' := by
  unfold ivRight
  cases h0 : a.no <;> cases h1 : isIn a.lo <;> cases h2 : isIn a.hi <;> cases h3 : decide (a.lo ≤ a.hi)
  all_goals
    go_enter Try.func25, Try.ntmps25
    go_wp2_with (first | (go_at_call 29; (with_reducible refine (in_c _ _).mono ?_); rintro e w' ⟨rfl, rfl⟩))
    go_returns
    exact ⟨rfl, (by repeat (first | exact More.refl _ | refine More.alloc ?_ _ | refine More.more ?_ _ | refine More.drew ?_ | refine More.drewN ?_ _))⟩

set_option maxHeartbeats 4000000 in
theorem none_c  (W : World) :
    Calls Try.prog 11 #[] W fun e w' => e = .returned (ivV ivNone) ∧ More W w' := by
  go_enter Try.func11, Try.ntmps11
  go_wp2_with fail
  go_returns
  exact ⟨rfl, (by repeat (first | exact More.refl _ | refine More.alloc ?_ _ | refine More.more ?_ _ | refine More.drew ?_ | refine More.drewN ?_ _))⟩

set_option maxHeartbeats 4000000 in
theorem of_c (a b : Int) (W : World) :
    Calls Try.prog 7 #[.int .i64 a, .int .i64 b] W fun e w' => e = .returned (ivV (ivOf a b)) ∧ More W w' := by
  unfold ivOf
  by_cases h : ivRight ⟨a, b, false⟩ = true
  · rw [if_pos h]
    go_enter Try.func7, Try.ntmps7
    go_wp2_with (first | (go_at_call 11; (with_reducible refine (none_c _).mono ?_); rintro e w' ⟨rfl, r, rfl⟩) | (go_at_call 25; (with_reducible refine (right_c _ _).mono ?_); rintro e w' ⟨rfl, r, rfl⟩) | (go_at_call 25; (with_reducible refine (right_c ⟨_, _, _⟩ _).mono ?_); rintro e w' ⟨rfl, r, rfl⟩))
    go_returns
    exact ⟨rfl, (by repeat (first | exact More.refl _ | refine More.alloc ?_ _ | refine More.more ?_ _ | refine More.drew ?_ | refine More.drewN ?_ _))⟩
  · rw [if_neg h]
    go_enter Try.func7, Try.ntmps7
    go_wp2_with (first | (go_at_call 11; (with_reducible refine (none_c _).mono ?_); rintro e w' ⟨rfl, r, rfl⟩) | (go_at_call 25; (with_reducible refine (right_c _ _).mono ?_); rintro e w' ⟨rfl, r, rfl⟩) | (go_at_call 25; (with_reducible refine (right_c ⟨_, _, _⟩ _).mono ?_); rintro e w' ⟨rfl, r, rfl⟩))
    go_returns
    exact ⟨rfl, (by repeat (first | exact More.refl _ | refine More.alloc ?_ _ | refine More.more ?_ _ | refine More.drew ?_ | refine More.drewN ?_ _))⟩

end Go.Proofs.Ytlpnjlhhpihgcaa

