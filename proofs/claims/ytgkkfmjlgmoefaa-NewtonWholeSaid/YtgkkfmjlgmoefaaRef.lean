/-
  The contracts of what the statements of chapter 1 lean on: the plain saying of the chapter, and the numbers that are handed in.
-/
import Derived.Test.YtgkkfmjlgmoefaaNum
namespace Go.Proofs.Ytgkkfmjlgmoefaa
set_option linter.unusedVariables false
open Go.ChangeShapes Go.WideShapes Go.ChangeAt Go.RowKit

set_option maxHeartbeats 4000000 in
theorem rin_c (n : Int) (W : World) :
    Calls Try.prog 70 #[.int .i64 n] W fun e w' => e = .returned (.bool (isIn n)) ∧ W = w' := by
  by_cases h1 : -1073741824 ≤ n <;> by_cases h2 : n ≤ 1073741824
  all_goals
    go_enter Try.func70, Try.ntmps70
    go_wp2_with fail
    go_ret
    exact ⟨by simp [isIn, h1, h2], rfl⟩

set_option maxHeartbeats 4000000 in
theorem rtold_c (n : Int) (W : World) :
    Calls Try.prog 87 #[.int .i64 n] W fun e w' => e = .returned (.tuple #[.int .i64 (told n).1, .bool (told n).2]) ∧ W = w' := by
  by_cases h1 : isIn n = true
  all_goals
    go_enter Try.func87, Try.ntmps87
    go_wp2_with (first | (go_at_call 70; (with_reducible refine (rin_c _ _).mono ?_); rintro e w' ⟨rfl, rfl⟩))
    go_ret2
    exact ⟨by simp [told, h1], rfl⟩

set_option maxHeartbeats 4000000 in
theorem rfloor_c (a b : Int) (ha : -9223372036854775808 ≤ a) (ha' : a ≤ 9223372036854775807) (hn : ¬ (a = -9223372036854775808 ∧ b = -1)) (W : World) :
    Calls Try.prog 73 #[.int .i64 a, .int .i64 b] W fun e w' => e = .returned (.int .i64 (a.fdiv b)) ∧ W = w' := by
  have hb := tdiv_bd a b ha ha' hn
  clear hn
  by_cases h0 : b = 0
  · subst h0
    go_enter Try.func73, Try.ntmps73
    go_wp2_with fail
    go_ret
    exact ⟨ret_int (by simp), rfl⟩
  · have hf := fdiv_of a b h0
    by_cases hr : a.tmod b = 0
    · rw [if_neg (by simp [hr])] at hf
      rw [hf]
      clear hf
      go_enter Try.func73, Try.ntmps73
      go_wp2_with fail
      go_ret
      exact ⟨rfl, rfl⟩
    · have hb2 := tdiv_bd2 a b ha ha' hr
      have hr2 : 0 ≤ a → ¬ a % b = 0 := fun h => by rw [← Int.tmod_eq_emod_of_nonneg h]; exact hr
      have hs : 0 ≤ a → ¬ a % b < 0 := fun h => by have := Int.emod_nonneg a h0; omega
      have hs1 : a < 0 → a.tmod b < 0 := fun h => by
        have h1 : a.tmod b = -((-a).tmod b) := by rw [Int.neg_tmod]; omega
        have h2 := Int.tmod_nonneg b (show 0 ≤ -a by omega)
        omega
      by_cases h1 : a < 0 <;> by_cases h2 : b < 0
      all_goals
        first
        | (rw [if_neg (fun h => h.2 (by omega))] at hf)
        | (rw [if_pos ⟨hr, by omega⟩] at hf)
        rw [hf]
        clear hf
        first
        | (have hr3 := hr2 (by omega); have hs3 := hs (by omega))
        | have hs3 := hs1 (by omega)
        clear hr2 hs hs1
        go_enter Try.func73, Try.ntmps73
        go_wp2_with fail
        go_ret
        exact ⟨rfl, rfl⟩


set_option maxHeartbeats 4000000 in
theorem rceil_c (a b : Int) (ha : -1152921504606846976 ≤ a ∧ a ≤ 1152921504606846976) (hb : -1152921504606846976 ≤ b ∧ b ≤ 1152921504606846976) (h0 : b ≠ 0) (W : World) :
    Calls Try.prog 88 #[.int .i64 a, .int .i64 b] W fun e w' => e = .returned (.int .i64 (-((-a).fdiv b))) ∧ W = w' := by
  rw [ceil_eq a b h0]
  have h1 := fdiv_abs a b
  have h2 := fdiv_mul_bd a b ha hb
  by_cases hc : a.fdiv b * b = a
  · rw [if_pos hc]
    have HC := Lib.hid hc
    have hd : ((a.fdiv b * b) == a) = true := by simp [hc]
    clear hc
    go_enter Try.func88, Try.ntmps88
    go_wp2_with (first | (go_at_call 73; (with_reducible refine (rfloor_c _ _ (by omega) (by omega) (by omega) _).mono ?_); rintro e w' ⟨rfl, rfl⟩))
    go_ret
    exact ⟨rfl, rfl⟩
  · rw [if_neg hc]
    go_enter Try.func88, Try.ntmps88
    go_wp2_with (first | (go_at_call 73; (with_reducible refine (rfloor_c _ _ (by omega) (by omega) (by omega) _).mono ?_); rintro e w' ⟨rfl, rfl⟩))
    go_ret
    exact ⟨rfl, rfl⟩

set_option maxHeartbeats 4000000 in
theorem rmul_c (a b : Int) (up : Bool) (W : World) :
    Calls Try.prog 79 #[.int .i64 a, .int .i64 b, .bool up] W fun e w' => e = .returned (.tuple #[.int .i64 (mulN a b up).1, .bool (mulN a b up).2]) ∧ W = w' := by
  by_cases ha : isIn a = true <;> by_cases hb : isIn b = true
  · have h1 := in_mul ha hb
    have e : mulN a b up = told (quo (a * b) 65536 up) := by simp [mulN, ha, hb]
    rw [e]
    clear e
    cases up
    all_goals
      first | rw [quo_up] | rw [quo_dn]
      go_enter Try.func79, Try.ntmps79
      go_wp2_with (first | (go_at_call 70; (with_reducible refine (rin_c _ _).mono ?_); rintro e w' ⟨rfl, rfl⟩) | (go_at_call 73; (with_reducible refine (rfloor_c _ _ (by omega) (by omega) (by omega) _).mono ?_); rintro e w' ⟨rfl, rfl⟩) | (go_at_call 87; (with_reducible refine (rtold_c _ _).mono ?_); rintro e w' ⟨rfl, rfl⟩) | (go_at_call 88; (with_reducible refine (rceil_c _ _ (by omega) (by omega) (by omega) _).mono ?_); rintro e w' ⟨rfl, rfl⟩))
      go_ret2
      exact ⟨rfl, rfl⟩
  all_goals
    have e : mulN a b up = (0, false) := by simp [mulN, ha, hb]
    rw [e]
    clear e
    go_enter Try.func79, Try.ntmps79
    go_wp2_with (first | (go_at_call 70; (with_reducible refine (rin_c _ _).mono ?_); rintro e w' ⟨rfl, rfl⟩) | (go_at_call 73; (with_reducible refine (rfloor_c _ _ (by omega) (by omega) (by omega) _).mono ?_); rintro e w' ⟨rfl, rfl⟩) | (go_at_call 87; (with_reducible refine (rtold_c _ _).mono ?_); rintro e w' ⟨rfl, rfl⟩) | (go_at_call 88; (with_reducible refine (rceil_c _ _ (by omega) (by omega) (by omega) _).mono ?_); rintro e w' ⟨rfl, rfl⟩))
    go_ret2
    exact ⟨rfl, rfl⟩

set_option maxHeartbeats 4000000 in
theorem rdiv_c (a b : Int) (up : Bool) (W : World) :
    Calls Try.prog 80 #[.int .i64 a, .int .i64 b, .bool up] W fun e w' => e = .returned (.tuple #[.int .i64 (divN a b up).1, .bool (divN a b up).2]) ∧ W = w' := by
  by_cases ha : isIn a = true <;> by_cases hb : isIn b = true <;> by_cases h0 : (b == 0) = true
  case neg =>
    have h1 := isIn_iff.1 ha
    have h2 := isIn_iff.1 hb
    have h3 : b ≠ 0 := by simpa using h0
    have e : divN a b up = told (quo (a * 65536) b up) := by simp [divN, ha, hb, h3]
    rw [e]
    clear e
    cases up
    all_goals
      first | rw [quo_up] | rw [quo_dn]
      go_enter Try.func80, Try.ntmps80
      go_wp2_with (first | (go_at_call 70; (with_reducible refine (rin_c _ _).mono ?_); rintro e w' ⟨rfl, rfl⟩) | (go_at_call 73; (with_reducible refine (rfloor_c _ _ (by omega) (by omega) (by omega) _).mono ?_); rintro e w' ⟨rfl, rfl⟩) | (go_at_call 87; (with_reducible refine (rtold_c _ _).mono ?_); rintro e w' ⟨rfl, rfl⟩) | (go_at_call 88; (with_reducible refine (rceil_c _ _ (by omega) (by omega) (by omega) _).mono ?_); rintro e w' ⟨rfl, rfl⟩))
      go_ret2
      exact ⟨rfl, rfl⟩
  all_goals
    have e : divN a b up = (0, false) := by simp only [divN, ha, hb, h0]; rfl
    rw [e]
    clear e
    go_enter Try.func80, Try.ntmps80
    go_wp2_with (first | (go_at_call 70; (with_reducible refine (rin_c _ _).mono ?_); rintro e w' ⟨rfl, rfl⟩) | (go_at_call 73; (with_reducible refine (rfloor_c _ _ (by omega) (by omega) (by omega) _).mono ?_); rintro e w' ⟨rfl, rfl⟩) | (go_at_call 87; (with_reducible refine (rtold_c _ _).mono ?_); rintro e w' ⟨rfl, rfl⟩) | (go_at_call 88; (with_reducible refine (rceil_c _ _ (by omega) (by omega) (by omega) _).mono ?_); rintro e w' ⟨rfl, rfl⟩))
    go_ret2
    exact ⟨rfl, rfl⟩

set_option maxHeartbeats 4000000 in
theorem rroot_c (a : Int) (up : Bool) (W : World) :
    Calls Try.prog 89 #[.int .i64 a, .bool up] W fun e w' => e = .returned (.tuple #[.int .i64 (rootN a up).1, .bool (rootN a up).2]) ∧ W = w' := by
  by_cases ha : isIn a = true <;> by_cases h0 : a < 0
  case neg =>
    have h1 := isIn_iff.1 ha
    have ⟨y1, y2⟩ := in_root ha h0
    have y3 := mul_bd (a := flRoot (a * 65536)) (b := flRoot (a * 65536)) (A := 8388608) (B := 8388608) (by omega) (by omega)
    have e : rootN a up = told (upRoot (a * 65536) up) := by simp [rootN, ha, h0]
    have e2 : ∃ y, y = upRoot (a * 65536) up := ⟨_, rfl⟩
    obtain ⟨y, hy⟩ := e2
    rw [e, ← hy]
    clear e
    have HY := Lib.hid hy
    clear hy
    cases up <;> by_cases hr : (flRoot (a * 65536) * flRoot (a * 65536) == a * 65536) = true
    all_goals
      have hy := HY.out
      simp [upRoot, hr] at hy
      have HY2 := Lib.hid hy
      clear hy HY
      have hr2 : (flRoot (a * 65536) * flRoot (a * 65536) != a * 65536) = !(flRoot (a * 65536) * flRoot (a * 65536) == a * 65536) := rfl
      (try simp only [Bool.not_eq_true] at hr)
      rw [hr] at hr2
      simp only [Bool.not_true, Bool.not_false] at hr2
      go_enter Try.func89, Try.ntmps89
      go_wp2_with (first | (go_at_call 70; (with_reducible refine (rin_c _ _).mono ?_); rintro e w' ⟨rfl, rfl⟩) | (go_at_call 87; (with_reducible refine (rtold_c _ _).mono ?_); rintro e w' ⟨rfl, rfl⟩))
      go_loop [7, 8] (fun r b => ∃ (k : Nat) (x : Int), k ≤ 24 ∧ b = .int .i64 ((k : Int) - 1) ∧ r = .int .i64 x ∧ 0 ≤ x ∧ x + 2 * bitv k ≤ 16777216 ∧ rootGo (a * 65536) k x = flRoot (a * 65536)) (fun _ b => (intOf b + 1).toNat)
      case atStart => exact ⟨24, 0, by omega, rfl, rfl, by omega, by decide, rfl⟩
      case round =>
        obtain ⟨k, x, hk, rfl, rfl, hx, hx2, hg⟩ := hrel
        cases k with
        | zero =>
          have hg2 : x = flRoot (a * 65536) := hg
          subst hg2
          clear hg
          go_wp2_with (first | (go_at_call 70; refine (rin_c _ _).mono ?_; rintro e w' ⟨rfl, rfl⟩) | (go_at_call 87; refine (rtold_c _ _).mono ?_; rintro e w' ⟨rfl, rfl⟩))
          go_ret2
          rw [HY2.out]
          exact ⟨rfl, rfl⟩
        | succ k =>
          have b1 := bitv_pos k
          have b2 := bitv_le k (by omega)
          have b3 := bitv_half k
          have b4 := mul_bd (a := x + bitv (k + 1)) (b := x + bitv (k + 1)) (A := 16777216) (B := 16777216) (by omega) (by omega)
          rw [rootGo_succ] at hg
          have b5 : 2 * bitv k ≤ bitv (k + 1) := by omega
          have B5 := Lib.hid b5
          clear b3 b5
          have hc : bitv (k + 1) = 2 ^ k := rfl
          rw [hc] at hg hx2 b1 b2 b4 B5
          clear hc
          have HG := Lib.hid hg
          clear hg
          have hk1 : ((k + 1 : Nat) : Int) - 1 = (k : Int) := by omega
          rw [hk1]
          clear hk1
          by_cases hc : (x + 2 ^ k) * (x + 2 ^ k) ≤ a * 65536
          · go_wp2
            go_round
            case rel => exact ⟨k, x + 2 ^ k, by omega, rfl, rfl, by omega, by have := B5.out; omega, by have := HG.out; rw [if_pos hc] at this; exact this⟩
            case measure => simp [intOf]
          · go_wp2
            go_round
            case rel => exact ⟨k, x, by omega, rfl, rfl, by omega, by have := B5.out; omega, by have := HG.out; rw [if_neg hc] at this; exact this⟩
            case measure => simp [intOf]
  all_goals
    have e : rootN a up = (0, false) := by simp [rootN, ha, h0]
    rw [e]
    clear e
    go_enter Try.func89, Try.ntmps89
    go_wp2_with (first | (go_at_call 70; (with_reducible refine (rin_c _ _).mono ?_); rintro e w' ⟨rfl, rfl⟩) | (go_at_call 87; (with_reducible refine (rtold_c _ _).mono ?_); rintro e w' ⟨rfl, rfl⟩))
    go_ret2
    exact ⟨rfl, rfl⟩

end Go.Proofs.Ytgkkfmjlgmoefaa

