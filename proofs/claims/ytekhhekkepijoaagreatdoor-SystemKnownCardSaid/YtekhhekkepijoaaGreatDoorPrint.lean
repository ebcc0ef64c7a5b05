/-
  The contract of dec.Print.
-/
import Derived.Test.YtekhhekkepijoaaGreatDoorGz5
namespace Go.Proofs.YtekhhekkepijoaaGreatDoor
set_option linter.unusedVariables false
open Go.ChangeShapes Go.WideShapes Go.ChangeAt Go.RowKit Go.Lib

theorem itoa_parts (c : Int) : unsg (itoa c) = decDigits c.natAbs ∧ isNeg (itoa c) = decide (c < 0) := by
  unfold itoa
  by_cases h : c < 0
  · rw [if_pos h]
    refine ⟨rfl, ?_⟩
    rw [decide_eq_true h]
    rfl
  · rw [if_neg h, decide_eq_false h]
    have e : c.natAbs = c.toNat := by omega
    have hn := not_minus (dig_all c.toNat)
    refine ⟨?_, hn⟩
    unfold unsg
    rw [hn, e]
    rfl

set_option maxHeartbeats 4000000 in
theorem print_c (W : World) (d : Dec) (ht : Tab W) :
    Calls Tryz.prog 84 #[decV d] W fun e w' => e = .returned (.string (bsOf (printP d))) ∧ More W w' := by
  obtain ⟨c, s⟩ := d
  cases hr : decRight ⟨c, s⟩ with
  | false =>
    have hp : printP ⟨c, s⟩ = [] := by unfold printP; rw [hr]; rfl
    rw [hp]
    clear hp
    go_enter Tryz.func84, Tryz.ntmps84
    go_wp2_with (first | (go_at_call 61; (with_reducible refine (decRight_c _ _).mono ?_); rintro e w' ⟨rfl, r, rfl⟩) | (go_at_call 61; (with_reducible refine (decRight_c ⟨_, _⟩ _).mono ?_); rintro e w' ⟨rfl, r, rfl⟩) | (go_at_call 73; (with_reducible refine (cutMin_c _ () _).mono ?_); rintro e w' ⟨rfl, rfl⟩) | (go_at_call 102; (with_reducible refine Calls.mono (itoa_c _ _ (by omega) (by omega) (by (repeat (first | assumption | with_reducible apply Tab.more | with_reducible apply Tab.alloc | with_reducible apply Tab.drew | with_reducible apply Tab.drewN)))) ?_); rintro e w' ⟨rfl, r, rfl⟩) | (go_at_call 103; (with_reducible refine (repeat_c () _ (by omega) (by omega) _).mono ?_); rintro e w' ⟨rfl, r, rfl⟩) | ((with_reducible show Code.wp _ (Code.region 5 _ true) _ _ _); (with_reducible refine wp_more_quick_m (id := 5) ?_ ?_ ?_); kernel_rfl; kernel_rfl; (try simp only [List.take_succ_cons, List.take_zero, List.drop_succ_cons, List.drop_zero]); (repeat (any_goals (first | go_big_quiet_step (fail) | quiet_step (fail)))); (with_reducible refine wpQuiet_nil ?_); intro r) | ((with_reducible show Code.wp _ (Code.region 5 _ true) _ _ _); (with_reducible refine wp_more_quick (id := 5) ?_ ?_ ?_); kernel_rfl; kernel_rfl; (try simp only [List.take_succ_cons, List.take_zero, List.drop_succ_cons, List.drop_zero]); (repeat (any_goals (first | go_big_quiet_step (fail) | quiet_step (fail)))); (with_reducible refine wpQuiet_nil ?_); intro r))
    go_returns
    exact ⟨rfl, (by repeat (first | exact More.refl _ | refine More.alloc ?_ _ | refine More.more ?_ _ | refine More.drew ?_ | refine More.drewN ?_ _))⟩
  | true =>
    obtain ⟨⟨h1, h2⟩, h3, h4, _⟩ := decRight_bd hr
    obtain ⟨k, rfl⟩ := Int.eq_ofNat_of_zero_le h3
    obtain ⟨i1, i2⟩ := itoa_parts c
    have hpad := pad_parts k c.natAbs
    have hA := dig_pos (c.natAbs / 10 ^ k)
    have hA' := dig_len 11 (c.natAbs / 10 ^ k) (by have := Nat.div_le_self c.natAbs (10 ^ k); omega)
    have hB := tail_len k c.natAbs
    have h5 := dig_len5 (c.natAbs / 10 ^ k)
    have hd := dig_pos c.natAbs
    have hd' := dig_len 11 c.natAbs (by omega)
    have hp : printP ⟨c, (k : Int)⟩ = if (decDigits (c.natAbs / 10 ^ k)).length ≤ 5 then (if c < 0 then [45] else []) ++ (decDigits (c.natAbs / 10 ^ k) ++ if (k : Int) = 0 then [] else 46 :: tailL c.natAbs k) else [] := by
      unfold printP
      rw [hr]
      by_cases hh : (decDigits (c.natAbs / 10 ^ k)).length ≤ 5
      · rw [if_pos hh, if_pos ⟨rfl, h5.1 hh⟩]
        rfl
      · rw [if_neg hh, if_neg (fun hx => hh (h5.2 hx.2))]
    rw [hp]
    clear hp h5
    unfold padL at hpad
    generalize decDigits (c.natAbs / 10 ^ k) = A at *
    generalize tailL c.natAbs k = B at *
    obtain ⟨D, hD⟩ : ∃ D, decDigits c.natAbs = D := ⟨_, rfl⟩
    rw [hD] at i1 hpad hd hd'
    have hmx : (max 0 ((k : Int) + 1 - (D.length : Int))).toNat = k + 1 - D.length := by omega
    have hT : (A ++ B).take A.length = A := List.take_left
    have hTB : B.take k = B := List.take_of_length_le (by omega)
    by_cases hk : k = 0
    · subst hk
      have hBe : B = [] := List.length_eq_zero_iff.1 hB
      subst hBe
      rw [if_pos (show ((0 : Nat) : Int) = 0 from rfl), List.append_nil]
      have hr0 : decRight ⟨c, 0⟩ = true := hr
      have hDA : D = A := by
        have e : 0 + 1 - D.length = 0 := by omega
        rw [e, List.append_nil] at hpad
        exact hpad
      subst hDA
      have hm0 : max 0 (1 - (D.length : Int)) = 0 := by omega
      clear hr hpad hmx hT hTB
      by_cases hl : D.length ≤ 5
      · rw [if_pos hl]
        by_cases hc : c < 0
        · rw [if_pos hc]
          go_enter Tryz.func84, Tryz.ntmps84
          go_wp2_with (first | (go_at_call 61; (with_reducible refine (decRight_c _ _).mono ?_); rintro e w' ⟨rfl, r, rfl⟩) | (go_at_call 61; (with_reducible refine (decRight_c ⟨_, _⟩ _).mono ?_); rintro e w' ⟨rfl, r, rfl⟩) | (go_at_call 73; (with_reducible refine (cutMin_c _ () _).mono ?_); rintro e w' ⟨rfl, rfl⟩) | (go_at_call 102; (with_reducible refine Calls.mono (itoa_c _ _ (by omega) (by omega) (by (repeat (first | assumption | with_reducible apply Tab.more | with_reducible apply Tab.alloc | with_reducible apply Tab.drew | with_reducible apply Tab.drewN)))) ?_); rintro e w' ⟨rfl, r, rfl⟩) | (go_at_call 103; (with_reducible refine (repeat_c () _ (by omega) (by omega) _).mono ?_); rintro e w' ⟨rfl, r, rfl⟩) | ((with_reducible show Code.wp _ (Code.region 5 _ true) _ _ _); (with_reducible refine wp_more_quick_m (id := 5) ?_ ?_ ?_); kernel_rfl; kernel_rfl; (try simp only [List.take_succ_cons, List.take_zero, List.drop_succ_cons, List.drop_zero]); (repeat (any_goals (first | go_big_quiet_step (fail) | quiet_step (fail)))); (with_reducible refine wpQuiet_nil ?_); intro r) | ((with_reducible show Code.wp _ (Code.region 5 _ true) _ _ _); (with_reducible refine wp_more_quick (id := 5) ?_ ?_ ?_); kernel_rfl; kernel_rfl; (try simp only [List.take_succ_cons, List.take_zero, List.drop_succ_cons, List.drop_zero]); (repeat (any_goals (first | go_big_quiet_step (fail) | quiet_step (fail)))); (with_reducible refine wpQuiet_nil ?_); intro r))
          go_returns
          exact ⟨rfl, (by repeat (first | exact More.refl _ | refine More.alloc ?_ _ | refine More.more ?_ _ | refine More.drew ?_ | refine More.drewN ?_ _))⟩
        · rw [if_neg hc]
          go_enter Tryz.func84, Tryz.ntmps84
          go_wp2_with (first | (go_at_call 61; (with_reducible refine (decRight_c _ _).mono ?_); rintro e w' ⟨rfl, r, rfl⟩) | (go_at_call 61; (with_reducible refine (decRight_c ⟨_, _⟩ _).mono ?_); rintro e w' ⟨rfl, r, rfl⟩) | (go_at_call 73; (with_reducible refine (cutMin_c _ () _).mono ?_); rintro e w' ⟨rfl, rfl⟩) | (go_at_call 102; (with_reducible refine Calls.mono (itoa_c _ _ (by omega) (by omega) (by (repeat (first | assumption | with_reducible apply Tab.more | with_reducible apply Tab.alloc | with_reducible apply Tab.drew | with_reducible apply Tab.drewN)))) ?_); rintro e w' ⟨rfl, r, rfl⟩) | (go_at_call 103; (with_reducible refine (repeat_c () _ (by omega) (by omega) _).mono ?_); rintro e w' ⟨rfl, r, rfl⟩) | ((with_reducible show Code.wp _ (Code.region 5 _ true) _ _ _); (with_reducible refine wp_more_quick_m (id := 5) ?_ ?_ ?_); kernel_rfl; kernel_rfl; (try simp only [List.take_succ_cons, List.take_zero, List.drop_succ_cons, List.drop_zero]); (repeat (any_goals (first | go_big_quiet_step (fail) | quiet_step (fail)))); (with_reducible refine wpQuiet_nil ?_); intro r) | ((with_reducible show Code.wp _ (Code.region 5 _ true) _ _ _); (with_reducible refine wp_more_quick (id := 5) ?_ ?_ ?_); kernel_rfl; kernel_rfl; (try simp only [List.take_succ_cons, List.take_zero, List.drop_succ_cons, List.drop_zero]); (repeat (any_goals (first | go_big_quiet_step (fail) | quiet_step (fail)))); (with_reducible refine wpQuiet_nil ?_); intro r))
          go_returns
          exact ⟨rfl, (by repeat (first | exact More.refl _ | refine More.alloc ?_ _ | refine More.more ?_ _ | refine More.drew ?_ | refine More.drewN ?_ _))⟩
      · rw [if_neg hl]
        go_enter Tryz.func84, Tryz.ntmps84
        go_wp2_with (first | (go_at_call 61; (with_reducible refine (decRight_c _ _).mono ?_); rintro e w' ⟨rfl, r, rfl⟩) | (go_at_call 61; (with_reducible refine (decRight_c ⟨_, _⟩ _).mono ?_); rintro e w' ⟨rfl, r, rfl⟩) | (go_at_call 73; (with_reducible refine (cutMin_c _ () _).mono ?_); rintro e w' ⟨rfl, rfl⟩) | (go_at_call 102; (with_reducible refine Calls.mono (itoa_c _ _ (by omega) (by omega) (by (repeat (first | assumption | with_reducible apply Tab.more | with_reducible apply Tab.alloc | with_reducible apply Tab.drew | with_reducible apply Tab.drewN)))) ?_); rintro e w' ⟨rfl, r, rfl⟩) | (go_at_call 103; (with_reducible refine (repeat_c () _ (by omega) (by omega) _).mono ?_); rintro e w' ⟨rfl, r, rfl⟩) | ((with_reducible show Code.wp _ (Code.region 5 _ true) _ _ _); (with_reducible refine wp_more_quick_m (id := 5) ?_ ?_ ?_); kernel_rfl; kernel_rfl; (try simp only [List.take_succ_cons, List.take_zero, List.drop_succ_cons, List.drop_zero]); (repeat (any_goals (first | go_big_quiet_step (fail) | quiet_step (fail)))); (with_reducible refine wpQuiet_nil ?_); intro r) | ((with_reducible show Code.wp _ (Code.region 5 _ true) _ _ _); (with_reducible refine wp_more_quick (id := 5) ?_ ?_ ?_); kernel_rfl; kernel_rfl; (try simp only [List.take_succ_cons, List.take_zero, List.drop_succ_cons, List.drop_zero]); (repeat (any_goals (first | go_big_quiet_step (fail) | quiet_step (fail)))); (with_reducible refine wpQuiet_nil ?_); intro r))
        go_returns
        exact ⟨rfl, (by repeat (first | exact More.refl _ | refine More.alloc ?_ _ | refine More.more ?_ _ | refine More.drew ?_ | refine More.drewN ?_ _))⟩
    · rw [if_neg (show ¬ (k : Int) = 0 by omega)]
      have hBe : B.isEmpty = false := by cases B with | nil => exact absurd hB.symm hk | cons b r => rfl
      by_cases hl : A.length ≤ 5
      · rw [if_pos hl]
        by_cases hc : c < 0
        · rw [if_pos hc]
          go_enter Tryz.func84, Tryz.ntmps84
          go_wp2_with (first | (go_at_call 61; (with_reducible refine (decRight_c _ _).mono ?_); rintro e w' ⟨rfl, r, rfl⟩) | (go_at_call 61; (with_reducible refine (decRight_c ⟨_, _⟩ _).mono ?_); rintro e w' ⟨rfl, r, rfl⟩) | (go_at_call 73; (with_reducible refine (cutMin_c _ () _).mono ?_); rintro e w' ⟨rfl, rfl⟩) | (go_at_call 102; (with_reducible refine Calls.mono (itoa_c _ _ (by omega) (by omega) (by (repeat (first | assumption | with_reducible apply Tab.more | with_reducible apply Tab.alloc | with_reducible apply Tab.drew | with_reducible apply Tab.drewN)))) ?_); rintro e w' ⟨rfl, r, rfl⟩) | (go_at_call 103; (with_reducible refine (repeat_c () _ (by omega) (by omega) _).mono ?_); rintro e w' ⟨rfl, r, rfl⟩) | ((with_reducible show Code.wp _ (Code.region 5 _ true) _ _ _); (with_reducible refine wp_more_quick_m (id := 5) ?_ ?_ ?_); kernel_rfl; kernel_rfl; (try simp only [List.take_succ_cons, List.take_zero, List.drop_succ_cons, List.drop_zero]); (repeat (any_goals (first | go_big_quiet_step (fail) | quiet_step (fail)))); (with_reducible refine wpQuiet_nil ?_); intro r) | ((with_reducible show Code.wp _ (Code.region 5 _ true) _ _ _); (with_reducible refine wp_more_quick (id := 5) ?_ ?_ ?_); kernel_rfl; kernel_rfl; (try simp only [List.take_succ_cons, List.take_zero, List.drop_succ_cons, List.drop_zero]); (repeat (any_goals (first | go_big_quiet_step (fail) | quiet_step (fail)))); (with_reducible refine wpQuiet_nil ?_); intro r))
          go_returns
          exact ⟨rfl, (by repeat (first | exact More.refl _ | refine More.alloc ?_ _ | refine More.more ?_ _ | refine More.drew ?_ | refine More.drewN ?_ _))⟩
        · rw [if_neg hc]
          go_enter Tryz.func84, Tryz.ntmps84
          go_wp2_with (first | (go_at_call 61; (with_reducible refine (decRight_c _ _).mono ?_); rintro e w' ⟨rfl, r, rfl⟩) | (go_at_call 61; (with_reducible refine (decRight_c ⟨_, _⟩ _).mono ?_); rintro e w' ⟨rfl, r, rfl⟩) | (go_at_call 73; (with_reducible refine (cutMin_c _ () _).mono ?_); rintro e w' ⟨rfl, rfl⟩) | (go_at_call 102; (with_reducible refine Calls.mono (itoa_c _ _ (by omega) (by omega) (by (repeat (first | assumption | with_reducible apply Tab.more | with_reducible apply Tab.alloc | with_reducible apply Tab.drew | with_reducible apply Tab.drewN)))) ?_); rintro e w' ⟨rfl, r, rfl⟩) | (go_at_call 103; (with_reducible refine (repeat_c () _ (by omega) (by omega) _).mono ?_); rintro e w' ⟨rfl, r, rfl⟩) | ((with_reducible show Code.wp _ (Code.region 5 _ true) _ _ _); (with_reducible refine wp_more_quick_m (id := 5) ?_ ?_ ?_); kernel_rfl; kernel_rfl; (try simp only [List.take_succ_cons, List.take_zero, List.drop_succ_cons, List.drop_zero]); (repeat (any_goals (first | go_big_quiet_step (fail) | quiet_step (fail)))); (with_reducible refine wpQuiet_nil ?_); intro r) | ((with_reducible show Code.wp _ (Code.region 5 _ true) _ _ _); (with_reducible refine wp_more_quick (id := 5) ?_ ?_ ?_); kernel_rfl; kernel_rfl; (try simp only [List.take_succ_cons, List.take_zero, List.drop_succ_cons, List.drop_zero]); (repeat (any_goals (first | go_big_quiet_step (fail) | quiet_step (fail)))); (with_reducible refine wpQuiet_nil ?_); intro r))
          go_returns
          exact ⟨rfl, (by repeat (first | exact More.refl _ | refine More.alloc ?_ _ | refine More.more ?_ _ | refine More.drew ?_ | refine More.drewN ?_ _))⟩
      · rw [if_neg hl]
        go_enter Tryz.func84, Tryz.ntmps84
        go_wp2_with (first | (go_at_call 61; (with_reducible refine (decRight_c _ _).mono ?_); rintro e w' ⟨rfl, r, rfl⟩) | (go_at_call 61; (with_reducible refine (decRight_c ⟨_, _⟩ _).mono ?_); rintro e w' ⟨rfl, r, rfl⟩) | (go_at_call 73; (with_reducible refine (cutMin_c _ () _).mono ?_); rintro e w' ⟨rfl, rfl⟩) | (go_at_call 102; (with_reducible refine Calls.mono (itoa_c _ _ (by omega) (by omega) (by (repeat (first | assumption | with_reducible apply Tab.more | with_reducible apply Tab.alloc | with_reducible apply Tab.drew | with_reducible apply Tab.drewN)))) ?_); rintro e w' ⟨rfl, r, rfl⟩) | (go_at_call 103; (with_reducible refine (repeat_c () _ (by omega) (by omega) _).mono ?_); rintro e w' ⟨rfl, r, rfl⟩) | ((with_reducible show Code.wp _ (Code.region 5 _ true) _ _ _); (with_reducible refine wp_more_quick_m (id := 5) ?_ ?_ ?_); kernel_rfl; kernel_rfl; (try simp only [List.take_succ_cons, List.take_zero, List.drop_succ_cons, List.drop_zero]); (repeat (any_goals (first | go_big_quiet_step (fail) | quiet_step (fail)))); (with_reducible refine wpQuiet_nil ?_); intro r) | ((with_reducible show Code.wp _ (Code.region 5 _ true) _ _ _); (with_reducible refine wp_more_quick (id := 5) ?_ ?_ ?_); kernel_rfl; kernel_rfl; (try simp only [List.take_succ_cons, List.take_zero, List.drop_succ_cons, List.drop_zero]); (repeat (any_goals (first | go_big_quiet_step (fail) | quiet_step (fail)))); (with_reducible refine wpQuiet_nil ?_); intro r))
        go_returns
        exact ⟨rfl, (by repeat (first | exact More.refl _ | refine More.alloc ?_ _ | refine More.more ?_ _ | refine More.drew ?_ | refine More.drewN ?_ _))⟩

end Go.Proofs.YtekhhekkepijoaaGreatDoor

