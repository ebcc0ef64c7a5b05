/-
  The contracts of the numbers that are handed in: any number as a number of steps.
-/
import Derived.Test.YtgkkfmjlgmoefaaNum
import Derived.Test.YtgkkfmjlgmoefaaIvMath
import Derived.Test.YtgkkfmjlgmoefaaReg3
namespace Go.Proofs.Ytgkkfmjlgmoefaa
set_option linter.unusedVariables false
open Go.ChangeShapes Go.WideShapes Go.ChangeAt Go.RowKit

set_option maxHeartbeats 4000000 in
theorem pick_c (n m : Int) (hn : -9223372036854775808 ≤ n) (hn' : n ≤ 9223372036854775807) (hm : 0 < m) (hm' : m ≤ 9223372036854775807) (W : World) :
    Calls Try.prog 17 #[.int .i64 n, .int .i64 m] W fun e w' => e = .returned (.int .i64 (n % m)) ∧ W = w' := by
  have h1 := Int.emod_nonneg n (show m ≠ 0 by omega)
  have h2 := Int.emod_lt_of_pos n hm
  by_cases h0 : 0 ≤ n
  · have h3 : ¬ n % m < 0 := by omega
    go_enter Try.func17, Try.ntmps17
    go_wp2_with fail
    go_ret
    exact ⟨rfl, rfl⟩
  · have h4 : n.tmod m = -((-n).tmod m) := by rw [Int.neg_tmod]; omega
    have h5 : (-n).tmod m = (-n) % m := Int.tmod_eq_emod_of_nonneg (by omega)
    have h6 := Int.emod_nonneg (-n) (show m ≠ 0 by omega)
    have h7 := Int.emod_lt_of_pos (-n) hm
    have h8 : n % m = if n.tmod m < 0 then n.tmod m + m else n.tmod m := by
      have h9 := Int.tmod_eq_emod (a := n) (b := m)
      have h10 : m.natAbs = m := by omega
      split at h9 <;> split <;> omega
    rw [h8]
    clear h8
    by_cases h11 : n.tmod m < 0
    · rw [if_pos h11]
      have hb : -m < n.tmod m := by omega
      clear h4 h5 h6 h7 h1 h2
      go_enter Try.func17, Try.ntmps17
      go_wp2_with fail
      go_ret
      exact ⟨rfl, rfl⟩
    · rw [if_neg h11]
      clear h4 h5 h6 h7 h1 h2
      go_enter Try.func17, Try.ntmps17
      go_wp2_with fail
      go_ret
      exact ⟨rfl, rfl⟩

set_option maxHeartbeats 4000000 in
theorem hnum_c (n : Int) (hn : -9223372036854775808 ≤ n) (hn' : n ≤ 9223372036854775807) (W : World) :
    Calls Try.prog 50 #[.int .i64 n] W fun e w' => e = .returned (.int .i64 (hnum n)) ∧ W = w' := by
  have d := tdiv_bd n 9 hn hn' (by omega)
  have p0 := Int.emod_nonneg n (show (9 : Int) ≠ 0 by omega)
  have p1 := Int.emod_lt_of_pos n (show (0 : Int) < 9 by omega)
  have e : ∃ y, y = hnum n := ⟨_, rfl⟩
  obtain ⟨y, hy⟩ := e
  rw [← hy]
  unfold hnum at hy
  by_cases h0 : n % 9 = 0
  · rw [if_pos h0] at hy
    have HY := Lib.hid hy
    clear hy
    go_enter Try.func50, Try.ntmps50
    go_wp2_with (first | (go_at_call 17; (with_reducible refine (pick_c _ _ (by omega) (by omega) (by omega) (by omega) _).mono ?_); rintro e w' ⟨rfl, rfl⟩))
    go_ret
    exact ⟨ret_int HY.out.symm, rfl⟩
  · rw [if_neg h0] at hy
    by_cases h1 : n % 9 = 1
    · rw [if_pos h1] at hy
      have HY := Lib.hid hy
      clear hy
      go_enter Try.func50, Try.ntmps50
      go_wp2_with (first | (go_at_call 17; (with_reducible refine (pick_c _ _ (by omega) (by omega) (by omega) (by omega) _).mono ?_); rintro e w' ⟨rfl, rfl⟩))
      go_ret
      exact ⟨ret_int HY.out.symm, rfl⟩
    · rw [if_neg h1] at hy
      by_cases h2 : n % 9 = 2
      · rw [if_pos h2] at hy
        have HY := Lib.hid hy
        clear hy
        go_enter Try.func50, Try.ntmps50
        go_wp2_with (first | (go_at_call 17; (with_reducible refine (pick_c _ _ (by omega) (by omega) (by omega) (by omega) _).mono ?_); rintro e w' ⟨rfl, rfl⟩))
        go_ret
        exact ⟨ret_int HY.out.symm, rfl⟩
      · rw [if_neg h2] at hy
        by_cases h3 : n % 9 = 3
        · rw [if_pos h3] at hy
          have HY := Lib.hid hy
          clear hy
          go_enter Try.func50, Try.ntmps50
          go_wp2_with (first | (go_at_call 17; (with_reducible refine (pick_c _ _ (by omega) (by omega) (by omega) (by omega) _).mono ?_); rintro e w' ⟨rfl, rfl⟩))
          go_ret
          exact ⟨ret_int HY.out.symm, rfl⟩
        · rw [if_neg h3] at hy
          have HY := Lib.hid hy
          clear hy
          go_enter Try.func50, Try.ntmps50
          go_wp2_with (first | (go_at_call 17; (with_reducible refine (pick_c _ _ (by omega) (by omega) (by omega) (by omega) _).mono ?_); rintro e w' ⟨rfl, rfl⟩))
          go_ret
          exact ⟨ret_int HY.out.symm, rfl⟩

end Go.Proofs.Ytgkkfmjlgmoefaa

