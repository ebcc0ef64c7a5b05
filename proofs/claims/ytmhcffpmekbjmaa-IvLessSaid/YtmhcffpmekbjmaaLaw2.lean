/-
  Chapter 2's example, and what the statements of chapter 2 ask of less.
-/
import Derived.Test.YtmhcffpmekbjmaaIv
import Derived.Test.YtmhcffpmekbjmaaIvDiv
import Derived.Test.YtmhcffpmekbjmaaHandIv
import Derived.Test.YtmhcffpmekbjmaaReg2
namespace Go.Proofs.Ytmhcffpmekbjmaa
set_option linter.unusedVariables false
open Go.ChangeShapes Go.WideShapes Go.ChangeAt Go.RowKit

set_option maxHeartbeats 4000000 in
theorem known2_c  (W : World) :
    Calls Try.prog 13 #[] W fun e w' => e = .returned (.bool true) ∧ More W w' := by
  have k1 : ivMul (ivOf (-1) 1) (ivOf 0 65537) = ⟨-2, 2, false⟩ := by kernel_rfl
  have k2 : ivNone = ⟨0, 0, true⟩ := rfl
  go_enter Try.func13, Try.ntmps13
  go_wp2_with (first | (go_at_call 10; (with_reducible refine (of_c _ _ _).mono ?_); rintro e w' ⟨rfl, r, rfl⟩) | (go_at_call 11; (with_reducible refine (none_c _).mono ?_); rintro e w' ⟨rfl, r, rfl⟩) | (go_at_call 37; (with_reducible refine (mul_iv_c _ _ _).mono ?_); rintro e w' ⟨rfl, r, rfl⟩) | (go_at_call 37; (with_reducible refine (mul_iv_c ⟨_, _, _⟩ ⟨_, _, _⟩ _).mono ?_); rintro e w' ⟨rfl, r, rfl⟩))
  go_returns
  exact ⟨rfl, (by repeat (first | exact More.refl _ | refine More.alloc ?_ _ | refine More.more ?_ _ | refine More.drew ?_ | refine More.drewN ?_ _))⟩

set_option maxHeartbeats 4000000 in
theorem linl_c (a b : Iv) (W : World) :
    Calls Try.prog 51 #[ivV a, ivV b] W fun e w' => e = .returned (.bool (!ivRight b || ivInside a b)) ∧ More W w' := by
  cases h0 : ivRight b <;> cases h1 : ivInside a b
  all_goals
    go_enter Try.func51, Try.ntmps51
    go_wp2_with (first | (go_at_call 26; (with_reducible refine (inside_c _ _ _).mono ?_); rintro e w' ⟨rfl, r, rfl⟩) | (go_at_call 26; (with_reducible refine (inside_c ⟨_, _, _⟩ ⟨_, _, _⟩ _).mono ?_); rintro e w' ⟨rfl, r, rfl⟩) | (go_at_call 27; (with_reducible refine (right_c _ _).mono ?_); rintro e w' ⟨rfl, r, rfl⟩) | (go_at_call 27; (with_reducible refine (right_c ⟨_, _, _⟩ _).mono ?_); rintro e w' ⟨rfl, r, rfl⟩))
    go_returns
    exact ⟨rfl, (by repeat (first | exact More.refl _ | refine More.alloc ?_ _ | refine More.more ?_ _ | refine More.drew ?_ | refine More.drewN ?_ _))⟩

end Go.Proofs.Ytmhcffpmekbjmaa

