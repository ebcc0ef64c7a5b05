/-
  The contracts of the intervals that are handed in, of raw numbers.
-/
import Derived.Test.YtgkkfmjlgmoefaaHand
import Derived.Test.YtgkkfmjlgmoefaaRefIv
import Derived.Test.YtgkkfmjlgmoefaaIvMath2
namespace Go.Proofs.Ytgkkfmjlgmoefaa
set_option linter.unusedVariables false
open Go.ChangeShapes Go.WideShapes Go.ChangeAt Go.RowKit

set_option maxHeartbeats 4000000 in
theorem within_c (n a b : Int) (W : World) :
    Calls Try.prog 43 #[.int .i64 n, .int .i64 a, .int .i64 b] W fun e w' => e = .returned (.int .i64 (within n a b)) ∧ W = w' := by
  go_enter Try.func43, Try.ntmps43
  go_wp2_with fail
  go_returns
  exact ⟨rfl, rfl⟩

set_option maxHeartbeats 4000000 in
theorem hwide_c (x w : Int) (h : -1152921504606846976 ≤ w) (h' : w ≤ 1152921504606846976) (W : World) :
    Calls Try.prog 18 #[.int .i64 x, .int .i64 w] W fun e w' => e = .returned (ivV (hWide x w)) ∧ More W w' := by
  have hb := within_bd x (-1073741824) 1073741824 (by omega)
  unfold hWide
  go_enter Try.func18, Try.ntmps18
  go_wp2_with (first | (go_at_call 43; (with_reducible refine (within_c _ _ _ _).mono ?_); rintro e w' ⟨rfl, rfl⟩) | (go_at_call 43; (with_reducible refine (within_c _ _ _ _).mono ?_); rintro e w' ⟨rfl, rfl⟩))
  go_returns
  exact ⟨rfl, (by repeat (first | exact More.refl _ | refine More.alloc ?_ _ | refine More.more ?_ _ | refine More.drew ?_ | refine More.drewN ?_ _))⟩

set_option maxHeartbeats 4000000 in
theorem hiv_c (n w : Int) (hn : -9223372036854775808 ≤ n) (hn' : n ≤ 9223372036854775807) (hw : -9223372036854775808 ≤ w) (hw' : w ≤ 9223372036854775807) (W : World) :
    Calls Try.prog 33 #[.int .i64 n, .int .i64 w] W fun e w' => e = .returned (ivV (hIv n w)) ∧ More W w' := by
  have d := tdiv_bd w 12 hw hw' (by omega)
  have p0 := Int.emod_nonneg w (show (12 : Int) ≠ 0 by omega)
  have p1 := Int.emod_lt_of_pos w (show (0 : Int) < 12 by omega)
  have q0 := Int.emod_nonneg (w.tdiv 12) (show (9000 : Int) ≠ 0 by omega)
  have q1 := Int.emod_lt_of_pos (w.tdiv 12) (show (0 : Int) < 9000 by omega)
  have e : ∃ y, y = hIv n w := ⟨_, rfl⟩
  obtain ⟨y, hy⟩ := e
  rw [← hy]
  unfold hIv at hy
  by_cases h0 : w % 12 = 0
  · rw [if_pos h0] at hy
    subst hy
    go_enter Try.func33, Try.ntmps33
    go_wp2_with (first | (go_at_call 17; (with_reducible refine (pick_c _ _ (by omega) (by omega) (by omega) (by omega) _).mono ?_); rintro e w' ⟨rfl, rfl⟩) | (go_at_call 18; (with_reducible refine (hwide_c _ _ (by omega) (by omega) _).mono ?_); rintro e w' ⟨rfl, r, rfl⟩) | (go_at_call 50; (with_reducible refine (hnum_c _ (by omega) (by omega) _).mono ?_); rintro e w' ⟨rfl, rfl⟩))
    go_returns
    exact ⟨rfl, (by repeat (first | exact More.refl _ | refine More.alloc ?_ _ | refine More.more ?_ _ | refine More.drew ?_ | refine More.drewN ?_ _))⟩
  · rw [if_neg h0] at hy
    by_cases h1 : w % 12 = 1
    · rw [if_pos h1] at hy
      subst hy
      by_cases h4 : w.tdiv 12 % 5 = 4
      · have h5 : (w.tdiv 12 % 5 == 4) = true := by rw [h4]; rfl
        rw [h5]
        go_enter Try.func33, Try.ntmps33
        go_wp2_with (first | (go_at_call 17; (with_reducible refine (pick_c _ _ (by omega) (by omega) (by omega) (by omega) _).mono ?_); rintro e w' ⟨rfl, rfl⟩) | (go_at_call 18; (with_reducible refine (hwide_c _ _ (by omega) (by omega) _).mono ?_); rintro e w' ⟨rfl, r, rfl⟩) | (go_at_call 50; (with_reducible refine (hnum_c _ (by omega) (by omega) _).mono ?_); rintro e w' ⟨rfl, rfl⟩))
        go_returns
        exact ⟨rfl, (by repeat (first | exact More.refl _ | refine More.alloc ?_ _ | refine More.more ?_ _ | refine More.drew ?_ | refine More.drewN ?_ _))⟩
      · have h5 : (w.tdiv 12 % 5 == 4) = false := by simpa using h4
        rw [h5]
        go_enter Try.func33, Try.ntmps33
        go_wp2_with (first | (go_at_call 17; (with_reducible refine (pick_c _ _ (by omega) (by omega) (by omega) (by omega) _).mono ?_); rintro e w' ⟨rfl, rfl⟩) | (go_at_call 18; (with_reducible refine (hwide_c _ _ (by omega) (by omega) _).mono ?_); rintro e w' ⟨rfl, r, rfl⟩) | (go_at_call 50; (with_reducible refine (hnum_c _ (by omega) (by omega) _).mono ?_); rintro e w' ⟨rfl, rfl⟩))
        go_returns
        exact ⟨rfl, (by repeat (first | exact More.refl _ | refine More.alloc ?_ _ | refine More.more ?_ _ | refine More.drew ?_ | refine More.drewN ?_ _))⟩
    · rw [if_neg h1] at hy
      by_cases h2 : w % 12 = 2 ∨ w % 12 = 3
      · rw [if_pos h2] at hy
        subst hy
        rcases h2 with h2 | h2
        · skip
          go_enter Try.func33, Try.ntmps33
          go_wp2_with (first | (go_at_call 17; (with_reducible refine (pick_c _ _ (by omega) (by omega) (by omega) (by omega) _).mono ?_); rintro e w' ⟨rfl, rfl⟩) | (go_at_call 18; (with_reducible refine (hwide_c _ _ (by omega) (by omega) _).mono ?_); rintro e w' ⟨rfl, r, rfl⟩) | (go_at_call 50; (with_reducible refine (hnum_c _ (by omega) (by omega) _).mono ?_); rintro e w' ⟨rfl, rfl⟩))
          go_returns
          exact ⟨rfl, (by repeat (first | exact More.refl _ | refine More.alloc ?_ _ | refine More.more ?_ _ | refine More.drew ?_ | refine More.drewN ?_ _))⟩
        · skip
          go_enter Try.func33, Try.ntmps33
          go_wp2_with (first | (go_at_call 17; (with_reducible refine (pick_c _ _ (by omega) (by omega) (by omega) (by omega) _).mono ?_); rintro e w' ⟨rfl, rfl⟩) | (go_at_call 18; (with_reducible refine (hwide_c _ _ (by omega) (by omega) _).mono ?_); rintro e w' ⟨rfl, r, rfl⟩) | (go_at_call 50; (with_reducible refine (hnum_c _ (by omega) (by omega) _).mono ?_); rintro e w' ⟨rfl, rfl⟩))
          go_returns
          exact ⟨rfl, (by repeat (first | exact More.refl _ | refine More.alloc ?_ _ | refine More.more ?_ _ | refine More.drew ?_ | refine More.drewN ?_ _))⟩
      · rw [if_neg h2] at hy
        subst hy
        have h3 : ¬ w % 12 = 2 := fun h => h2 (.inl h)
        have h4 : ¬ w % 12 = 3 := fun h => h2 (.inr h)
        clear h2
        go_enter Try.func33, Try.ntmps33
        go_wp2_with (first | (go_at_call 17; (with_reducible refine (pick_c _ _ (by omega) (by omega) (by omega) (by omega) _).mono ?_); rintro e w' ⟨rfl, rfl⟩) | (go_at_call 18; (with_reducible refine (hwide_c _ _ (by omega) (by omega) _).mono ?_); rintro e w' ⟨rfl, r, rfl⟩) | (go_at_call 50; (with_reducible refine (hnum_c _ (by omega) (by omega) _).mono ?_); rintro e w' ⟨rfl, rfl⟩))
        go_returns
        exact ⟨rfl, (by repeat (first | exact More.refl _ | refine More.alloc ?_ _ | refine More.more ?_ _ | refine More.drew ?_ | refine More.drewN ?_ _))⟩

end Go.Proofs.Ytgkkfmjlgmoefaa

