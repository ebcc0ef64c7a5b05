/-
  The contracts of the plain saying of chapter 2: each call answers what the plain interval of the same name is.
-/
import Derived.Test.YthnehnabldgagaaDoorRef
import Derived.Test.YthnehnabldgagaaDoorReg3
import Derived.Test.YthnehnabldgagaaDoorIvMath
namespace Go.Proofs.YthnehnabldgagaaDoor
set_option linter.unusedVariables false
open Go.ChangeShapes Go.WideShapes Go.ChangeAt Go.RowKit

set_option maxHeartbeats 4000000 in
theorem rright_c (a : Iv) (W : World) :
    Calls Tryd.prog 52 #[ivV a] W fun e w' => e = .returned (.bool (ivRight a)) ∧ More W w' := by
  unfold ivRight
  cases h0 : a.no <;> cases h1 : isIn a.lo <;> cases h2 : isIn a.hi <;> cases h3 : decide (a.lo ≤ a.hi)
  all_goals
    go_enter Tryd.func52, Tryd.ntmps52
    go_wp2_with (first | (go_at_call 63; (with_reducible refine (rin_c _ _).mono ?_); rintro e w' ⟨rfl, rfl⟩))
    go_returns
    exact ⟨rfl, (by repeat (first | exact More.refl _ | refine More.alloc ?_ _ | refine More.more ?_ _ | refine More.drew ?_ | refine More.drewN ?_ _))⟩

set_option maxHeartbeats 4000000 in
theorem rnone_c  (W : World) :
    Calls Tryd.prog 34 #[] W fun e w' => e = .returned (ivV ivNone) ∧ More W w' := by
  go_enter Tryd.func34, Tryd.ntmps34
  go_wp2_with fail
  go_returns
  exact ⟨rfl, (by repeat (first | exact More.refl _ | refine More.alloc ?_ _ | refine More.more ?_ _ | refine More.drew ?_ | refine More.drewN ?_ _))⟩

set_option maxHeartbeats 4000000 in
theorem rof_c (a b : Int) (W : World) :
    Calls Tryd.prog 35 #[.int .i64 a, .int .i64 b] W fun e w' => e = .returned (ivV (ivOf a b)) ∧ More W w' := by
  unfold ivOf
  by_cases h : ivRight ⟨a, b, false⟩ = true
  · rw [if_pos h]
    go_enter Tryd.func35, Tryd.ntmps35
    go_wp2_with (first | (go_at_call 34; (with_reducible refine (rnone_c _).mono ?_); rintro e w' ⟨rfl, r, rfl⟩) | (go_at_call 52; (with_reducible refine (rright_c _ _).mono ?_); rintro e w' ⟨rfl, r, rfl⟩) | (go_at_call 52; (with_reducible refine (rright_c ⟨_, _, _⟩ _).mono ?_); rintro e w' ⟨rfl, r, rfl⟩))
    go_returns
    exact ⟨rfl, (by repeat (first | exact More.refl _ | refine More.alloc ?_ _ | refine More.more ?_ _ | refine More.drew ?_ | refine More.drewN ?_ _))⟩
  · rw [if_neg h]
    go_enter Tryd.func35, Tryd.ntmps35
    go_wp2_with (first | (go_at_call 34; (with_reducible refine (rnone_c _).mono ?_); rintro e w' ⟨rfl, r, rfl⟩) | (go_at_call 52; (with_reducible refine (rright_c _ _).mono ?_); rintro e w' ⟨rfl, r, rfl⟩) | (go_at_call 52; (with_reducible refine (rright_c ⟨_, _, _⟩ _).mono ?_); rintro e w' ⟨rfl, r, rfl⟩))
    go_returns
    exact ⟨rfl, (by repeat (first | exact More.refl _ | refine More.alloc ?_ _ | refine More.more ?_ _ | refine More.drew ?_ | refine More.drewN ?_ _))⟩

end Go.Proofs.YthnehnabldgagaaDoor

