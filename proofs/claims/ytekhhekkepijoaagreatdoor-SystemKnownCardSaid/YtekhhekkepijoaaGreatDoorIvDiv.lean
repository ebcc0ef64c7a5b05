/-
  The contract of iv.Div: four quotients, each rounded both ways.
-/
import Derived.Test.YtekhhekkepijoaaGreatDoorGc
namespace Go.Proofs.YtekhhekkepijoaaGreatDoor
set_option linter.unusedVariables false
open Go.ChangeShapes Go.WideShapes Go.ChangeAt Go.RowKit

set_option maxHeartbeats 1000000 in
theorem idiv_c (a b : Iv) (W : World) :
    Calls Tryz.prog 12 #[ivV a, ivV b] W fun e w' => e = .returned (ivV (ivDiv a b)) ∧ More W w' := by
  unfold ivDiv
  cases hb : ivBoth a b <;> cases hh : ivHas b 0
  case true.false =>
    have i0 : ∀ (w : World) (x y : Int), (Instr.index 77 (.agg #[.int .i64 x, .int .i64 y]) (.int .i64 0)).run Tryz.prog w = .ok (.int .i64 x) w := fun _ _ _ => by kernel_rfl
    have i1 : ∀ (w : World) (x y : Int), (Instr.index 77 (.agg #[.int .i64 x, .int .i64 y]) (.int .i64 1)).run Tryz.prog w = .ok (.int .i64 y) w := fun _ _ _ => by kernel_rfl
    go_enter Tryz.func12, Tryz.ntmps12
    go_wp2_with (first | (go_at_call 10; (with_reducible refine (none_c _).mono ?_); rintro e w' ⟨rfl, r, rfl⟩) | (go_at_call 24; (with_reducible refine (of_c _ _ _).mono ?_); rintro e w' ⟨rfl, r, rfl⟩) | (go_at_call 35; (with_reducible refine (both_c _ _ _).mono ?_); rintro e w' ⟨rfl, r, rfl⟩) | (go_at_call 35; (with_reducible refine (both_c _ ⟨_, _, _⟩ _).mono ?_); rintro e w' ⟨rfl, r, rfl⟩) | (go_at_call 35; (with_reducible refine (both_c ⟨_, _, _⟩ _ _).mono ?_); rintro e w' ⟨rfl, r, rfl⟩) | (go_at_call 35; (with_reducible refine (both_c ⟨_, _, _⟩ ⟨_, _, _⟩ _).mono ?_); rintro e w' ⟨rfl, r, rfl⟩) | (go_at_call 36; (with_reducible refine (has_c _ _ _).mono ?_); rintro e w' ⟨rfl, r, rfl⟩) | (go_at_call 36; (with_reducible refine (has_c ⟨_, _, _⟩ _ _).mono ?_); rintro e w' ⟨rfl, r, rfl⟩) | (go_at_call 37; (with_reducible refine (div_c _ _ _ _).mono ?_); rintro e w' ⟨rfl, rfl⟩))
    repeat (any_goals (first | (refine wp_loop_rounds 3 ?_) | (rw [rounds_succ]; go_wp2_with (first | (go_at_call 10; (with_reducible refine (none_c _).mono ?_); rintro e w' ⟨rfl, r, rfl⟩) | (go_at_call 24; (with_reducible refine (of_c _ _ _).mono ?_); rintro e w' ⟨rfl, r, rfl⟩) | (go_at_call 35; (with_reducible refine (both_c _ _ _).mono ?_); rintro e w' ⟨rfl, r, rfl⟩) | (go_at_call 35; (with_reducible refine (both_c _ ⟨_, _, _⟩ _).mono ?_); rintro e w' ⟨rfl, r, rfl⟩) | (go_at_call 35; (with_reducible refine (both_c ⟨_, _, _⟩ _ _).mono ?_); rintro e w' ⟨rfl, r, rfl⟩) | (go_at_call 35; (with_reducible refine (both_c ⟨_, _, _⟩ ⟨_, _, _⟩ _).mono ?_); rintro e w' ⟨rfl, r, rfl⟩) | (go_at_call 36; (with_reducible refine (has_c _ _ _).mono ?_); rintro e w' ⟨rfl, r, rfl⟩) | (go_at_call 36; (with_reducible refine (has_c ⟨_, _, _⟩ _ _).mono ?_); rintro e w' ⟨rfl, r, rfl⟩) | (go_at_call 37; (with_reducible refine (div_c _ _ _ _).mono ?_); rintro e w' ⟨rfl, rfl⟩)))))
    all_goals
      go_returns
      refine ⟨?_, (by repeat (first | exact More.refl _ | refine More.alloc ?_ _ | refine More.more ?_ _ | refine More.drew ?_ | refine More.drewN ?_ _))⟩
      simp only [Bool.not_eq_true', Bool.not_eq_false', Bool.not_eq_true] at *
      simp [ivEnds, *, min_div, max_div]
  all_goals
    simp only [Bool.not_true, Bool.not_false, Bool.and_true, Bool.and_false, if_false, Bool.false_eq_true]
    go_enter Tryz.func12, Tryz.ntmps12
    go_wp2_with (first | (go_at_call 10; (with_reducible refine (none_c _).mono ?_); rintro e w' ⟨rfl, r, rfl⟩) | (go_at_call 24; (with_reducible refine (of_c _ _ _).mono ?_); rintro e w' ⟨rfl, r, rfl⟩) | (go_at_call 35; (with_reducible refine (both_c _ _ _).mono ?_); rintro e w' ⟨rfl, r, rfl⟩) | (go_at_call 35; (with_reducible refine (both_c _ ⟨_, _, _⟩ _).mono ?_); rintro e w' ⟨rfl, r, rfl⟩) | (go_at_call 35; (with_reducible refine (both_c ⟨_, _, _⟩ _ _).mono ?_); rintro e w' ⟨rfl, r, rfl⟩) | (go_at_call 35; (with_reducible refine (both_c ⟨_, _, _⟩ ⟨_, _, _⟩ _).mono ?_); rintro e w' ⟨rfl, r, rfl⟩) | (go_at_call 36; (with_reducible refine (has_c _ _ _).mono ?_); rintro e w' ⟨rfl, r, rfl⟩) | (go_at_call 36; (with_reducible refine (has_c ⟨_, _, _⟩ _ _).mono ?_); rintro e w' ⟨rfl, r, rfl⟩) | (go_at_call 37; (with_reducible refine (div_c _ _ _ _).mono ?_); rintro e w' ⟨rfl, rfl⟩))
    go_returns
    exact ⟨rfl, (by repeat (first | exact More.refl _ | refine More.alloc ?_ _ | refine More.more ?_ _ | refine More.drew ?_ | refine More.drewN ?_ _))⟩

end Go.Proofs.YtekhhekkepijoaaGreatDoor

