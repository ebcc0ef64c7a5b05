/-
  The contracts of the plain saying of chapter 2, the rest: products, quotients, squares.
-/
import Derived.Test.YtekhhekkepijoaaRefEnds
import Derived.Test.YtekhhekkepijoaaGb
namespace Go.Proofs.Ytekhhekkepijoaa
set_option linter.unusedVariables false
open Go.ChangeShapes Go.WideShapes Go.ChangeAt Go.RowKit

set_option maxHeartbeats 4000000 in
theorem rmuliv_c (a b : Iv) (W : World) :
    Calls Try.prog 50 #[ivV a, ivV b] W fun e w' => e = .returned (ivV (ivMul a b)) ∧ More W w' := by
  rw [mul_eq]
  unfold ivBoth
  cases h0 : ivRight a <;> cases h1 : ivRight b
  all_goals
    go_enter Try.func50, Try.ntmps50
    go_wp2_with (first | (go_at_call 47; (with_reducible refine (rright_c _ _).mono ?_); rintro e w' ⟨rfl, r, rfl⟩) | (go_at_call 47; (with_reducible refine (rright_c ⟨_, _, _⟩ _).mono ?_); rintro e w' ⟨rfl, r, rfl⟩) | (go_at_call 72; (with_reducible refine (rnone_c _).mono ?_); rintro e w' ⟨rfl, r, rfl⟩) | (go_at_call 73; (with_reducible refine (rends_mul _ _ _).mono ?_); rintro e w' ⟨rfl, r, rfl⟩) | (go_at_call 73; (with_reducible refine (rends_mul _ ⟨_, _, _⟩ _).mono ?_); rintro e w' ⟨rfl, r, rfl⟩) | (go_at_call 73; (with_reducible refine (rends_mul ⟨_, _, _⟩ _ _).mono ?_); rintro e w' ⟨rfl, r, rfl⟩) | (go_at_call 73; (with_reducible refine (rends_mul ⟨_, _, _⟩ ⟨_, _, _⟩ _).mono ?_); rintro e w' ⟨rfl, r, rfl⟩) | (go_at_call 73; (with_reducible refine (rends_div _ _ _).mono ?_); rintro e w' ⟨rfl, r, rfl⟩) | (go_at_call 73; (with_reducible refine (rends_div _ ⟨_, _, _⟩ _).mono ?_); rintro e w' ⟨rfl, r, rfl⟩) | (go_at_call 73; (with_reducible refine (rends_div ⟨_, _, _⟩ _ _).mono ?_); rintro e w' ⟨rfl, r, rfl⟩) | (go_at_call 73; (with_reducible refine (rends_div ⟨_, _, _⟩ ⟨_, _, _⟩ _).mono ?_); rintro e w' ⟨rfl, r, rfl⟩))
    go_returns
    exact ⟨rfl, (by repeat (first | exact More.refl _ | refine More.alloc ?_ _ | refine More.more ?_ _ | refine More.drew ?_ | refine More.drewN ?_ _))⟩

set_option maxHeartbeats 4000000 in
theorem rsqr_c (a : Iv) (W : World) :
    Calls Try.prog 51 #[ivV a] W fun e w' => e = .returned (ivV (ivSqr a)) ∧ More W w' := by
  rw [sqr_eq]
  by_cases h : ivRight a = true
  · have e0 : ivHas a 0 = (decide (a.lo ≤ 0) && decide (0 ≤ a.hi)) := by unfold ivHas; rw [h]; rfl
    obtain ⟨⟨b1, b2⟩, ⟨b3, b4⟩, b5⟩ := right_bd h
    rw [if_pos h, e0]
    clear e0
    unfold ivNear ivFar
    cases h1 : (mulN (max a.lo (max (-a.lo) (max a.hi (-a.hi)))) (max a.lo (max (-a.lo) (max a.hi (-a.hi)))) true).2 <;> cases h2 : decide (a.lo ≤ 0) <;> cases h3 : decide (0 ≤ a.hi)
    all_goals
      go_enter Try.func51, Try.ntmps51
      go_wp2_with (first | (go_at_call 47; (with_reducible refine (rright_c _ _).mono ?_); rintro e w' ⟨rfl, r, rfl⟩) | (go_at_call 47; (with_reducible refine (rright_c ⟨_, _, _⟩ _).mono ?_); rintro e w' ⟨rfl, r, rfl⟩) | (go_at_call 68; (with_reducible refine (rof_c _ _ _).mono ?_); rintro e w' ⟨rfl, r, rfl⟩) | (go_at_call 72; (with_reducible refine (rnone_c _).mono ?_); rintro e w' ⟨rfl, r, rfl⟩) | (go_at_call 74; (with_reducible refine (rmul_c _ _ _ _).mono ?_); rintro e w' ⟨rfl, rfl⟩))
      go_returns
      exact ⟨rfl, (by repeat (first | exact More.refl _ | refine More.alloc ?_ _ | refine More.more ?_ _ | refine More.drew ?_ | refine More.drewN ?_ _))⟩
  · rw [if_neg h]
    go_enter Try.func51, Try.ntmps51
    go_wp2_with (first | (go_at_call 47; (with_reducible refine (rright_c _ _).mono ?_); rintro e w' ⟨rfl, r, rfl⟩) | (go_at_call 47; (with_reducible refine (rright_c ⟨_, _, _⟩ _).mono ?_); rintro e w' ⟨rfl, r, rfl⟩) | (go_at_call 68; (with_reducible refine (rof_c _ _ _).mono ?_); rintro e w' ⟨rfl, r, rfl⟩) | (go_at_call 72; (with_reducible refine (rnone_c _).mono ?_); rintro e w' ⟨rfl, r, rfl⟩) | (go_at_call 74; (with_reducible refine (rmul_c _ _ _ _).mono ?_); rintro e w' ⟨rfl, rfl⟩))
    go_returns
    exact ⟨rfl, (by repeat (first | exact More.refl _ | refine More.alloc ?_ _ | refine More.more ?_ _ | refine More.drew ?_ | refine More.drewN ?_ _))⟩

end Go.Proofs.Ytekhhekkepijoaa

