/-
  The contracts of the intervals that are handed in, of raw numbers.
-/
import Derived.Test.YthodlkiedhkbgaaHand
import Derived.Test.YthodlkiedhkbgaaRefIv
import Derived.Test.YthodlkiedhkbgaaIvMath2
namespace Go.Proofs.Ythodlkiedhkbgaa
set_option linter.unusedVariables false
open Go.ChangeShapes Go.WideShapes Go.ChangeAt Go.RowKit

set_option maxHeartbeats 4000000 in
theorem within_c (n a b : Int) (W : World) :
    Calls Try.prog 40 #[.int .i64 n, .int .i64 a, .int .i64 b] W fun e w' => e = .returned (.int .i64 (within n a b)) ∧ W = w' := by
  go_enter Try.func40, Try.ntmps40
  go_wp2_with fail
  go_returns
  exact ⟨rfl, rfl⟩

set_option maxHeartbeats 4000000 in
theorem hwide_c (x w : Int) (h : -1152921504606846976 ≤ w) (h' : w ≤ 1152921504606846976) (W : World) :
    Calls Try.prog 17 #[.int .i64 x, .int .i64 w] W fun e w' => e = .returned (ivV (hWide x w)) ∧ More W w' := by
  have hb := within_bd x (-1073741824) 1073741824 (by omega)
  unfold hWide
  go_enter Try.func17, Try.ntmps17
  go_wp2_with (first | (go_at_call 40; (with_reducible refine (within_c _ _ _ _).mono ?_); rintro e w' ⟨rfl, rfl⟩))
  go_returns
  exact ⟨rfl, (by repeat (first | exact More.refl _ | refine More.alloc ?_ _ | refine More.more ?_ _ | refine More.drew ?_ | refine More.drewN ?_ _))⟩

set_option maxHeartbeats 4000000 in
theorem htame_c (n w : Int) (hn : -9223372036854775808 ≤ n) (hn' : n ≤ 9223372036854775807) (hw : -9223372036854775808 ≤ w) (hw' : w ≤ 9223372036854775807) (W : World) :
    Calls Try.prog 14 #[.int .i64 n, .int .i64 w] W fun e w' => e = .returned (ivV (hTame n w)) ∧ More W w' := by
  unfold hTame
  go_enter Try.func14, Try.ntmps14
  go_wp2_with (first | (go_at_call 16; (with_reducible refine (pick_c _ _ (by omega) (by omega) (by omega) (by omega) _).mono ?_); rintro e w' ⟨rfl, rfl⟩) | (go_at_call 17; (with_reducible refine (hwide_c _ _ (by omega) (by omega) _).mono ?_); rintro e w' ⟨rfl, r, rfl⟩))
  go_returns
  exact ⟨rfl, (by repeat (first | exact More.refl _ | refine More.alloc ?_ _ | refine More.more ?_ _ | refine More.drew ?_ | refine More.drewN ?_ _))⟩

set_option maxHeartbeats 4000000 in
theorem hin_c (a : Iv) (x y : Int) (hx : -9223372036854775808 ≤ x) (hx' : x ≤ 9223372036854775807) (hy : -9223372036854775808 ≤ y) (hy' : y ≤ 9223372036854775807) (W : World) :
    Calls Try.prog 19 #[ivV a, .int .i64 x, .int .i64 y] W fun e w' => e = .returned (ivV (hIn a x y)) ∧ More W w' := by
  unfold hIn
  by_cases h : ivRight a = true
  · rw [if_pos h]
    have hb := right_bd h
    have h1 := Int.emod_nonneg x (show a.hi - a.lo + 1 ≠ 0 by omega)
    have h2 := Int.emod_lt_of_pos x (show 0 < a.hi - a.lo + 1 by omega)
    have h3 := Int.emod_nonneg y (show a.hi - (a.lo + x % (a.hi - a.lo + 1)) + 1 ≠ 0 by omega)
    have h4 := Int.emod_lt_of_pos y (show 0 < a.hi - (a.lo + x % (a.hi - a.lo + 1)) + 1 by omega)
    obtain ⟨⟨b1, b2⟩, ⟨b3, b4⟩, b5⟩ := hb
    go_enter Try.func19, Try.ntmps19
    go_wp2_with (first | (go_at_call 16; (with_reducible refine (pick_c _ _ (by omega) (by omega) (by omega) (by omega) _).mono ?_); rintro e w' ⟨rfl, rfl⟩) | (go_at_call 36; (with_reducible refine (rright_c _ _).mono ?_); rintro e w' ⟨rfl, r, rfl⟩) | (go_at_call 36; (with_reducible refine (rright_c ⟨_, _, _⟩ _).mono ?_); rintro e w' ⟨rfl, r, rfl⟩) | ((with_reducible show Code.wp _ (Code.region 3 _ true) _ _ _); (with_reducible refine wp_more_quick_m (id := 3) ?_ ?_ ?_); kernel_rfl; kernel_rfl; (try simp only [List.take_succ_cons, List.take_zero, List.drop_succ_cons, List.drop_zero]); (repeat (any_goals (first | go_big_quiet_step ((first | (go_at_call 16; (with_reducible apply quiet_call_same); with_reducible exact pick_c _ _ (by omega) (by omega) (by omega) (by omega) _) | (go_at_call 36; (with_reducible apply quiet_call_b); (with_reducible exact rright_c _ _); with_reducible assumption) | (go_at_call 36; (with_reducible apply quiet_call); with_reducible exact rright_c _ _) | (go_at_call 36; (with_reducible apply quiet_call_b); (with_reducible exact rright_c ⟨_, _, _⟩ _); with_reducible assumption) | (go_at_call 36; (with_reducible apply quiet_call); with_reducible exact rright_c ⟨_, _, _⟩ _))) | quiet_step ((first | (go_at_call 16; (with_reducible apply quiet_call_same); with_reducible exact pick_c _ _ (by omega) (by omega) (by omega) (by omega) _) | (go_at_call 36; (with_reducible apply quiet_call_b); (with_reducible exact rright_c _ _); with_reducible assumption) | (go_at_call 36; (with_reducible apply quiet_call); with_reducible exact rright_c _ _) | (go_at_call 36; (with_reducible apply quiet_call_b); (with_reducible exact rright_c ⟨_, _, _⟩ _); with_reducible assumption) | (go_at_call 36; (with_reducible apply quiet_call); with_reducible exact rright_c ⟨_, _, _⟩ _)))))); (with_reducible refine wpQuiet_nil ?_); intro r) | ((with_reducible show Code.wp _ (Code.region 3 _ true) _ _ _); (with_reducible refine wp_more_quick (id := 3) ?_ ?_ ?_); kernel_rfl; kernel_rfl; (try simp only [List.take_succ_cons, List.take_zero, List.drop_succ_cons, List.drop_zero]); (repeat (any_goals (first | go_big_quiet_step ((first | (go_at_call 16; (with_reducible apply quiet_call_same); with_reducible exact pick_c _ _ (by omega) (by omega) (by omega) (by omega) _) | (go_at_call 36; (with_reducible apply quiet_call_b); (with_reducible exact rright_c _ _); with_reducible assumption) | (go_at_call 36; (with_reducible apply quiet_call); with_reducible exact rright_c _ _) | (go_at_call 36; (with_reducible apply quiet_call_b); (with_reducible exact rright_c ⟨_, _, _⟩ _); with_reducible assumption) | (go_at_call 36; (with_reducible apply quiet_call); with_reducible exact rright_c ⟨_, _, _⟩ _))) | quiet_step ((first | (go_at_call 16; (with_reducible apply quiet_call_same); with_reducible exact pick_c _ _ (by omega) (by omega) (by omega) (by omega) _) | (go_at_call 36; (with_reducible apply quiet_call_b); (with_reducible exact rright_c _ _); with_reducible assumption) | (go_at_call 36; (with_reducible apply quiet_call); with_reducible exact rright_c _ _) | (go_at_call 36; (with_reducible apply quiet_call_b); (with_reducible exact rright_c ⟨_, _, _⟩ _); with_reducible assumption) | (go_at_call 36; (with_reducible apply quiet_call); with_reducible exact rright_c ⟨_, _, _⟩ _)))))); (with_reducible refine wpQuiet_nil ?_); intro r))
    go_returns
    exact ⟨rfl, (by repeat (first | exact More.refl _ | refine More.alloc ?_ _ | refine More.more ?_ _ | refine More.drew ?_ | refine More.drewN ?_ _))⟩
  · rw [if_neg h]
    go_enter Try.func19, Try.ntmps19
    go_wp2_with (first | (go_at_call 16; (with_reducible refine (pick_c _ _ (by omega) (by omega) (by omega) (by omega) _).mono ?_); rintro e w' ⟨rfl, rfl⟩) | (go_at_call 36; (with_reducible refine (rright_c _ _).mono ?_); rintro e w' ⟨rfl, r, rfl⟩) | (go_at_call 36; (with_reducible refine (rright_c ⟨_, _, _⟩ _).mono ?_); rintro e w' ⟨rfl, r, rfl⟩) | ((with_reducible show Code.wp _ (Code.region 3 _ true) _ _ _); (with_reducible refine wp_more_quick_m (id := 3) ?_ ?_ ?_); kernel_rfl; kernel_rfl; (try simp only [List.take_succ_cons, List.take_zero, List.drop_succ_cons, List.drop_zero]); (repeat (any_goals (first | go_big_quiet_step ((first | (go_at_call 16; (with_reducible apply quiet_call_same); with_reducible exact pick_c _ _ (by omega) (by omega) (by omega) (by omega) _) | (go_at_call 36; (with_reducible apply quiet_call_b); (with_reducible exact rright_c _ _); with_reducible assumption) | (go_at_call 36; (with_reducible apply quiet_call); with_reducible exact rright_c _ _) | (go_at_call 36; (with_reducible apply quiet_call_b); (with_reducible exact rright_c ⟨_, _, _⟩ _); with_reducible assumption) | (go_at_call 36; (with_reducible apply quiet_call); with_reducible exact rright_c ⟨_, _, _⟩ _))) | quiet_step ((first | (go_at_call 16; (with_reducible apply quiet_call_same); with_reducible exact pick_c _ _ (by omega) (by omega) (by omega) (by omega) _) | (go_at_call 36; (with_reducible apply quiet_call_b); (with_reducible exact rright_c _ _); with_reducible assumption) | (go_at_call 36; (with_reducible apply quiet_call); with_reducible exact rright_c _ _) | (go_at_call 36; (with_reducible apply quiet_call_b); (with_reducible exact rright_c ⟨_, _, _⟩ _); with_reducible assumption) | (go_at_call 36; (with_reducible apply quiet_call); with_reducible exact rright_c ⟨_, _, _⟩ _)))))); (with_reducible refine wpQuiet_nil ?_); intro r) | ((with_reducible show Code.wp _ (Code.region 3 _ true) _ _ _); (with_reducible refine wp_more_quick (id := 3) ?_ ?_ ?_); kernel_rfl; kernel_rfl; (try simp only [List.take_succ_cons, List.take_zero, List.drop_succ_cons, List.drop_zero]); (repeat (any_goals (first | go_big_quiet_step ((first | (go_at_call 16; (with_reducible apply quiet_call_same); with_reducible exact pick_c _ _ (by omega) (by omega) (by omega) (by omega) _) | (go_at_call 36; (with_reducible apply quiet_call_b); (with_reducible exact rright_c _ _); with_reducible assumption) | (go_at_call 36; (with_reducible apply quiet_call); with_reducible exact rright_c _ _) | (go_at_call 36; (with_reducible apply quiet_call_b); (with_reducible exact rright_c ⟨_, _, _⟩ _); with_reducible assumption) | (go_at_call 36; (with_reducible apply quiet_call); with_reducible exact rright_c ⟨_, _, _⟩ _))) | quiet_step ((first | (go_at_call 16; (with_reducible apply quiet_call_same); with_reducible exact pick_c _ _ (by omega) (by omega) (by omega) (by omega) _) | (go_at_call 36; (with_reducible apply quiet_call_b); (with_reducible exact rright_c _ _); with_reducible assumption) | (go_at_call 36; (with_reducible apply quiet_call); with_reducible exact rright_c _ _) | (go_at_call 36; (with_reducible apply quiet_call_b); (with_reducible exact rright_c ⟨_, _, _⟩ _); with_reducible assumption) | (go_at_call 36; (with_reducible apply quiet_call); with_reducible exact rright_c ⟨_, _, _⟩ _)))))); (with_reducible refine wpQuiet_nil ?_); intro r))
    go_returns
    exact ⟨rfl, (by repeat (first | exact More.refl _ | refine More.alloc ?_ _ | refine More.more ?_ _ | refine More.drew ?_ | refine More.drewN ?_ _))⟩

set_option maxHeartbeats 4000000 in
theorem hiv_c (n w : Int) (hn : -9223372036854775808 ≤ n) (hn' : n ≤ 9223372036854775807) (hw : -9223372036854775808 ≤ w) (hw' : w ≤ 9223372036854775807) (W : World) :
    Calls Try.prog 13 #[.int .i64 n, .int .i64 w] W fun e w' => e = .returned (ivV (hIv n w)) ∧ More W w' := by
  have d := tdiv_bd w 12 hw hw' (by omega)
  have p0 := Int.emod_nonneg w (show (12 : Int) ≠ 0 by omega)
  have p1 := Int.emod_lt_of_pos w (show (0 : Int) < 12 by omega)
  have q0 := Int.emod_nonneg (w.tdiv 12) (show (9000 : Int) ≠ 0 by omega)
  have q1 := Int.emod_lt_of_pos (w.tdiv 12) (show (0 : Int) < 9000 by omega)
  have e : ∃ y, y = hIv n w := ⟨_, rfl⟩
  obtain ⟨y, hy⟩ := e
  rw [← hy]
  unfold hIv at hy
  by_cases h0 : w % 12 = 0
  · rw [if_pos h0] at hy
    subst hy
    go_enter Try.func13, Try.ntmps13
    go_wp2_with (first | (go_at_call 16; (with_reducible refine (pick_c _ _ (by omega) (by omega) (by omega) (by omega) _).mono ?_); rintro e w' ⟨rfl, rfl⟩) | (go_at_call 17; (with_reducible refine (hwide_c _ _ (by omega) (by omega) _).mono ?_); rintro e w' ⟨rfl, r, rfl⟩) | (go_at_call 32; (with_reducible refine (hnum_c _ (by omega) (by omega) _).mono ?_); rintro e w' ⟨rfl, rfl⟩))
    go_returns
    exact ⟨rfl, (by repeat (first | exact More.refl _ | refine More.alloc ?_ _ | refine More.more ?_ _ | refine More.drew ?_ | refine More.drewN ?_ _))⟩
  · rw [if_neg h0] at hy
    by_cases h1 : w % 12 = 1
    · rw [if_pos h1] at hy
      subst hy
      by_cases h4 : w.tdiv 12 % 5 = 4
      · have h5 : (w.tdiv 12 % 5 == 4) = true := by rw [h4]; rfl
        rw [h5]
        go_enter Try.func13, Try.ntmps13
        go_wp2_with (first | (go_at_call 16; (with_reducible refine (pick_c _ _ (by omega) (by omega) (by omega) (by omega) _).mono ?_); rintro e w' ⟨rfl, rfl⟩) | (go_at_call 17; (with_reducible refine (hwide_c _ _ (by omega) (by omega) _).mono ?_); rintro e w' ⟨rfl, r, rfl⟩) | (go_at_call 32; (with_reducible refine (hnum_c _ (by omega) (by omega) _).mono ?_); rintro e w' ⟨rfl, rfl⟩))
        go_returns
        exact ⟨rfl, (by repeat (first | exact More.refl _ | refine More.alloc ?_ _ | refine More.more ?_ _ | refine More.drew ?_ | refine More.drewN ?_ _))⟩
      · have h5 : (w.tdiv 12 % 5 == 4) = false := by simpa using h4
        rw [h5]
        go_enter Try.func13, Try.ntmps13
        go_wp2_with (first | (go_at_call 16; (with_reducible refine (pick_c _ _ (by omega) (by omega) (by omega) (by omega) _).mono ?_); rintro e w' ⟨rfl, rfl⟩) | (go_at_call 17; (with_reducible refine (hwide_c _ _ (by omega) (by omega) _).mono ?_); rintro e w' ⟨rfl, r, rfl⟩) | (go_at_call 32; (with_reducible refine (hnum_c _ (by omega) (by omega) _).mono ?_); rintro e w' ⟨rfl, rfl⟩))
        go_returns
        exact ⟨rfl, (by repeat (first | exact More.refl _ | refine More.alloc ?_ _ | refine More.more ?_ _ | refine More.drew ?_ | refine More.drewN ?_ _))⟩
    · rw [if_neg h1] at hy
      by_cases h2 : w % 12 = 2 ∨ w % 12 = 3
      · rw [if_pos h2] at hy
        subst hy
        rcases h2 with h2 | h2
        · skip
          go_enter Try.func13, Try.ntmps13
          go_wp2_with (first | (go_at_call 16; (with_reducible refine (pick_c _ _ (by omega) (by omega) (by omega) (by omega) _).mono ?_); rintro e w' ⟨rfl, rfl⟩) | (go_at_call 17; (with_reducible refine (hwide_c _ _ (by omega) (by omega) _).mono ?_); rintro e w' ⟨rfl, r, rfl⟩) | (go_at_call 32; (with_reducible refine (hnum_c _ (by omega) (by omega) _).mono ?_); rintro e w' ⟨rfl, rfl⟩))
          go_returns
          exact ⟨rfl, (by repeat (first | exact More.refl _ | refine More.alloc ?_ _ | refine More.more ?_ _ | refine More.drew ?_ | refine More.drewN ?_ _))⟩
        · skip
          go_enter Try.func13, Try.ntmps13
          go_wp2_with (first | (go_at_call 16; (with_reducible refine (pick_c _ _ (by omega) (by omega) (by omega) (by omega) _).mono ?_); rintro e w' ⟨rfl, rfl⟩) | (go_at_call 17; (with_reducible refine (hwide_c _ _ (by omega) (by omega) _).mono ?_); rintro e w' ⟨rfl, r, rfl⟩) | (go_at_call 32; (with_reducible refine (hnum_c _ (by omega) (by omega) _).mono ?_); rintro e w' ⟨rfl, rfl⟩))
          go_returns
          exact ⟨rfl, (by repeat (first | exact More.refl _ | refine More.alloc ?_ _ | refine More.more ?_ _ | refine More.drew ?_ | refine More.drewN ?_ _))⟩
      · rw [if_neg h2] at hy
        subst hy
        have h3 : ¬ w % 12 = 2 := fun h => h2 (.inl h)
        have h4 : ¬ w % 12 = 3 := fun h => h2 (.inr h)
        clear h2
        go_enter Try.func13, Try.ntmps13
        go_wp2_with (first | (go_at_call 16; (with_reducible refine (pick_c _ _ (by omega) (by omega) (by omega) (by omega) _).mono ?_); rintro e w' ⟨rfl, rfl⟩) | (go_at_call 17; (with_reducible refine (hwide_c _ _ (by omega) (by omega) _).mono ?_); rintro e w' ⟨rfl, r, rfl⟩) | (go_at_call 32; (with_reducible refine (hnum_c _ (by omega) (by omega) _).mono ?_); rintro e w' ⟨rfl, rfl⟩))
        go_returns
        exact ⟨rfl, (by repeat (first | exact More.refl _ | refine More.alloc ?_ _ | refine More.more ?_ _ | refine More.drew ?_ | refine More.drewN ?_ _))⟩

end Go.Proofs.Ythodlkiedhkbgaa

