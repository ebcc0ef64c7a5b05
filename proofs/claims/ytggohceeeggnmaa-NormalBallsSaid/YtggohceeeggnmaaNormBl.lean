/-
  NormalBalls: the walk.
-/
import Derived.Test.YtggohceeeggnmaaGu5
namespace Go.Proofs.Ytggohceeeggnmaa
set_option linter.unusedVariables false
open Go.ChangeShapes Go.WideShapes Go.ChangeAt Go.RowKit

set_option maxHeartbeats 16000000 in
set_option maxRecDepth 100000 in
theorem normalBalls_walk (w : World) (a0 : Int) (w0 : (Lit.int .i64 a0).wf = true) (a1 : Int) (w1 : (Lit.int .i64 a1).wf = true) (a2 : Bool) :
    Calls Try.prog 6 #[.int .i64 a0, .int .i64 a1, .bool a2] w fun e w' => e = .returned (.bool true) ∧ More w w' := by
  obtain ⟨b01, b02⟩ := bounds_i64 w0
  obtain ⟨b11, b12⟩ := bounds_i64 w1
  obtain ⟨m, hm⟩ : ∃ m, 2 + a0 % 3 = m := ⟨_, rfl⟩
  have m0 : 2 ≤ m := by omega
  have m1 : m ≤ 4 := by omega
  obtain ⟨n, hn⟩ : ∃ n, 1 + a1 % (m - 1) = n := ⟨_, rfl⟩
  have n0 : 1 ≤ n := by have := Int.emod_nonneg a1 (show m - 1 ≠ 0 by omega); omega
  have n1 : n < m := by have := Int.emod_lt_of_pos a1 (show 0 < m - 1 by omega); omega
  have hball := nball_has m0 m1 n0 n1 a2
  unfold nballOk nballS at hball
  dsimp only at hball
  obtain ⟨M, hM⟩ : ∃ M, m * m = M := ⟨_, rfl⟩
  obtain ⟨N, hN⟩ : ∃ N, n * n = N := ⟨_, rfl⟩
  obtain ⟨Q, hQ⟩ : ∃ Q, 2 * m * n = Q := ⟨_, rfl⟩
  rw [hM, hN, hQ] at hball
  have hb : (4 ≤ M ∧ M ≤ 16) ∧ (1 ≤ N ∧ N ≤ 9) ∧ (4 ≤ Q ∧ Q ≤ 24) := by
    rcases (show m = 2 ∨ m = 3 ∨ m = 4 by omega) with h | h | h <;> rcases (show n = 1 ∨ n = 2 ∨ n = 3 by omega) with g | g | g <;> (rw [h] at hM hQ; rw [g] at hN hQ; omega)
  obtain ⟨⟨M0, M1⟩, ⟨N0, N1⟩, Q0, Q1⟩ := hb
  obtain ⟨D, hD⟩ : ∃ D, M - N = D := ⟨_, rfl⟩
  obtain ⟨R, hR⟩ : ∃ R, M + N = R := ⟨_, rfl⟩
  obtain ⟨U, hU⟩ : ∃ U, R - Q = U := ⟨_, rfl⟩
  have D0 : -10 ≤ D := by omega
  have D1 : D ≤ 20 := by omega
  have R0 : 5 ≤ R := by omega
  have R1 : R ≤ 25 := by omega
  have U0 : -30 ≤ U := by omega
  have U1 : U ≤ 30 := by omega
  rw [hD, hR, hU] at hball
  have W1 : ivWhole 1 = ⟨65536, 65536, false⟩ := by kernel_rfl
  have p0 : ivPoint 0 = ⟨0, 0, false⟩ := by kernel_rfl
  rw [W1] at hball
  obtain ⟨⟨r1, r2, r3⟩, hr⟩ : ∃ d, ivWhole R = d := ⟨_, rfl⟩
  rw [hr] at hball
  obtain ⟨⟨c1, c2, c3⟩, hc⟩ : ∃ d, ivDiv ⟨65536, 65536, false⟩ ⟨r1, r2, r3⟩ = d := ⟨_, rfl⟩
  obtain ⟨⟨d1, d2, d3⟩, hd⟩ : ∃ d, ivWhole D = d := ⟨_, rfl⟩
  obtain ⟨⟨u1, u2, u3⟩, hu⟩ : ∃ d, ivWhole U = d := ⟨_, rfl⟩
  rw [hc, hd, hu] at hball
  have hND : IntKind.i64.wrap (-D) = -D := IntWalk.i64_in _ ⟨by omega, by omega⟩
  have hND2 : IntKind.i64.wrap (-D * 65536) = -D * 65536 := IntWalk.i64_in _ ⟨by omega, by omega⟩
  have hQ2 : IntKind.i64.wrap (Q * 65536) = Q * 65536 := IntWalk.i64_in _ ⟨by omega, by omega⟩
  cases a2 with
  | false =>
    simp only [if_false, Bool.false_eq_true] at hball
    obtain ⟨⟨⟨x1, x2, x3⟩, ⟨y1, y2, y3⟩, ⟨z1, z2, z3⟩⟩, hA⟩ : ∃ d, normP ⟨false, false, ⟨c1, c2, c3⟩, ⟨65536, 65536, false⟩, ⟨0, 0, false⟩, ⟨0, 0, false⟩, ⟨0, 0, false⟩, ⟨6553600, 6553600, false⟩, ⟨65536, 65536, false⟩⟩ ⟨⟨d1, d2, d3⟩, ⟨0, 0, false⟩, ⟨u1, u2, u3⟩⟩ = d := ⟨_, rfl⟩
    rw [hA] at hball
    simp only [Bool.and_eq_true, decide_eq_true_eq] at hball
    obtain ⟨⟨⟨⟨g1, g2⟩, g3, g4⟩, g5⟩, ⟨⟨⟨k1, k2⟩, k3, k4⟩, k5, k6⟩, k7, k8⟩ := hball
    have vA1 := mul_bd (a := x1) (b := R) (A := 100000) (B := 25) (by omega) (by omega)
    obtain ⟨A1, hA1⟩ : ∃ A1, x1 * R = A1 := ⟨_, rfl⟩
    rw [hA1] at vA1
    obtain ⟨vA11, vA12⟩ := vA1
    have wA1 : IntKind.i64.wrap A1 = A1 := IntWalk.i64_in _ ⟨by omega, by omega⟩
    have vA2 := mul_bd (a := x2) (b := R) (A := 100000) (B := 25) (by omega) (by omega)
    obtain ⟨A2, hA2⟩ : ∃ A2, x2 * R = A2 := ⟨_, rfl⟩
    rw [hA2] at vA2
    obtain ⟨vA21, vA22⟩ := vA2
    have wA2 : IntKind.i64.wrap A2 = A2 := IntWalk.i64_in _ ⟨by omega, by omega⟩
    have vZ1 := mul_bd (a := z1) (b := R) (A := 100000) (B := 25) (by omega) (by omega)
    obtain ⟨Z1, hZ1⟩ : ∃ Z1, z1 * R = Z1 := ⟨_, rfl⟩
    rw [hZ1] at vZ1
    obtain ⟨vZ11, vZ12⟩ := vZ1
    have wZ1 : IntKind.i64.wrap Z1 = Z1 := IntWalk.i64_in _ ⟨by omega, by omega⟩
    have vZ2 := mul_bd (a := z2) (b := R) (A := 100000) (B := 25) (by omega) (by omega)
    obtain ⟨Z2, hZ2⟩ : ∃ Z2, z2 * R = Z2 := ⟨_, rfl⟩
    rw [hZ2] at vZ2
    obtain ⟨vZ21, vZ22⟩ := vZ2
    have wZ2 : IntKind.i64.wrap Z2 = Z2 := IntWalk.i64_in _ ⟨by omega, by omega⟩
    rw [hA1] at g1
    rw [hA2] at g2
    rw [hZ1] at g3
    rw [hZ2] at g4
    have c1' : decide (A1 ≤ -D * 65536) = true := decide_eq_true (by omega)
    have c2' : decide (-D * 65536 ≤ A2) = true := decide_eq_true (by omega)
    have c3' : decide (Z1 ≤ Q * 65536) = true := decide_eq_true (by omega)
    have c4' : decide (Q * 65536 ≤ Z2) = true := decide_eq_true (by omega)
    clear g1 g2 g3 g4 k1 k2 k3 k4 k5 k6 k7 k8
    go_enter Try.func6, Try.ntmps6
    go_wp2_with (first | (go_at_call 9; (with_reducible refine (flat16_c _).mono ?_); rintro e w' ⟨rfl, r, rfl⟩) | (go_at_call 12; (with_reducible refine (norm_c ⟨false, false, ⟨c1, c2, c3⟩, ⟨65536, 65536, false⟩, ⟨0, 0, false⟩, ⟨0, 0, false⟩, ⟨0, 0, false⟩, ⟨6553600, 6553600, false⟩, ⟨65536, 65536, false⟩⟩ ⟨⟨d1, d2, d3⟩, ⟨0, 0, false⟩, ⟨u1, u2, u3⟩⟩ _).mono ?_); rintro e w' ⟨rfl, r5, rfl⟩; rw [hA]) | (first | (go_at_call 10; (with_reducible refine (idiv_c _ _ _).mono ?_); rintro e w' ⟨rfl, r, rfl⟩) | (go_at_call 10; (with_reducible refine (idiv_c _ ⟨_, _, _⟩ _).mono ?_); rintro e w' ⟨rfl, r, rfl⟩) | (go_at_call 10; (with_reducible refine (idiv_c ⟨_, _, _⟩ _ _).mono ?_); rintro e w' ⟨rfl, r, rfl⟩) | (go_at_call 10; (with_reducible refine (idiv_c ⟨_, _, _⟩ ⟨_, _, _⟩ _).mono ?_); rintro e w' ⟨rfl, r, rfl⟩) | (go_at_call 11; (with_reducible refine (whole_c _ _).mono ?_); rintro e w' ⟨rfl, r, rfl⟩) | (go_at_call 13; (with_reducible refine (vof_c _ _ _ _).mono ?_); rintro e w' ⟨rfl, r, rfl⟩) | (go_at_call 13; (with_reducible refine (vof_c ⟨_, _, _⟩ ⟨_, _, _⟩ ⟨_, _, _⟩ _).mono ?_); rintro e w' ⟨rfl, r, rfl⟩) | (go_at_call 14; (with_reducible refine (point_c _ _).mono ?_); rintro e w' ⟨rfl, r, rfl⟩) | (go_at_call 16; (with_reducible refine (known16_c _).mono ?_); rintro e w' ⟨rfl, r, rfl⟩) | (go_at_call 17; (with_reducible refine (has_c _ _ _).mono ?_); rintro e w' ⟨rfl, r, rfl⟩) | (go_at_call 17; (with_reducible refine (has_c ⟨_, _, _⟩ _ _).mono ?_); rintro e w' ⟨rfl, r, rfl⟩) | (go_at_call 29; (with_reducible refine (pick_c _ _ (by omega) (by omega) (by omega) (by omega) _).mono ?_); rintro e w' ⟨rfl, rfl⟩)))
    (try simp only [List.append_eq, List.cons_append, List.nil_append])
    go_wp2_with (first | (first | (go_at_call 16; (with_reducible refine (known16_c _).mono ?_); rintro e w' ⟨rfl, r, rfl⟩) | (go_at_call 17; (with_reducible refine (has_c _ _ _).mono ?_); rintro e w' ⟨rfl, r, rfl⟩) | (go_at_call 17; (with_reducible refine (has_c ⟨_, _, _⟩ _ _).mono ?_); rintro e w' ⟨rfl, r, rfl⟩)))
    go_returns
    exact ⟨rfl, (by repeat (first | exact More.refl _ | refine More.alloc ?_ _ | refine More.more ?_ _ | refine More.drew ?_ | refine More.drewN ?_ _))⟩
  | true =>
    simp only [if_true] at hball
    obtain ⟨⟨⟨x1, x2, x3⟩, ⟨y1, y2, y3⟩, ⟨z1, z2, z3⟩⟩, hA⟩ : ∃ d, normP ⟨false, false, ⟨c1, c2, c3⟩, ⟨65536, 65536, false⟩, ⟨0, 0, false⟩, ⟨0, 0, false⟩, ⟨0, 0, false⟩, ⟨6553600, 6553600, false⟩, ⟨65536, 65536, false⟩⟩ ⟨⟨0, 0, false⟩, ⟨d1, d2, d3⟩, ⟨u1, u2, u3⟩⟩ = d := ⟨_, rfl⟩
    rw [hA] at hball
    simp only [Bool.and_eq_true, decide_eq_true_eq] at hball
    obtain ⟨⟨⟨⟨g1, g2⟩, g3, g4⟩, g5⟩, ⟨⟨⟨k1, k2⟩, k3, k4⟩, k5, k6⟩, k7, k8⟩ := hball
    have vA1 := mul_bd (a := y1) (b := R) (A := 100000) (B := 25) (by omega) (by omega)
    obtain ⟨A1, hA1⟩ : ∃ A1, y1 * R = A1 := ⟨_, rfl⟩
    rw [hA1] at vA1
    obtain ⟨vA11, vA12⟩ := vA1
    have wA1 : IntKind.i64.wrap A1 = A1 := IntWalk.i64_in _ ⟨by omega, by omega⟩
    have vA2 := mul_bd (a := y2) (b := R) (A := 100000) (B := 25) (by omega) (by omega)
    obtain ⟨A2, hA2⟩ : ∃ A2, y2 * R = A2 := ⟨_, rfl⟩
    rw [hA2] at vA2
    obtain ⟨vA21, vA22⟩ := vA2
    have wA2 : IntKind.i64.wrap A2 = A2 := IntWalk.i64_in _ ⟨by omega, by omega⟩
    have vZ1 := mul_bd (a := z1) (b := R) (A := 100000) (B := 25) (by omega) (by omega)
    obtain ⟨Z1, hZ1⟩ : ∃ Z1, z1 * R = Z1 := ⟨_, rfl⟩
    rw [hZ1] at vZ1
    obtain ⟨vZ11, vZ12⟩ := vZ1
    have wZ1 : IntKind.i64.wrap Z1 = Z1 := IntWalk.i64_in _ ⟨by omega, by omega⟩
    have vZ2 := mul_bd (a := z2) (b := R) (A := 100000) (B := 25) (by omega) (by omega)
    obtain ⟨Z2, hZ2⟩ : ∃ Z2, z2 * R = Z2 := ⟨_, rfl⟩
    rw [hZ2] at vZ2
    obtain ⟨vZ21, vZ22⟩ := vZ2
    have wZ2 : IntKind.i64.wrap Z2 = Z2 := IntWalk.i64_in _ ⟨by omega, by omega⟩
    rw [hA1] at g1
    rw [hA2] at g2
    rw [hZ1] at g3
    rw [hZ2] at g4
    have c1' : decide (A1 ≤ -D * 65536) = true := decide_eq_true (by omega)
    have c2' : decide (-D * 65536 ≤ A2) = true := decide_eq_true (by omega)
    have c3' : decide (Z1 ≤ Q * 65536) = true := decide_eq_true (by omega)
    have c4' : decide (Q * 65536 ≤ Z2) = true := decide_eq_true (by omega)
    clear g1 g2 g3 g4 k1 k2 k3 k4 k5 k6 k7 k8
    go_enter Try.func6, Try.ntmps6
    go_wp2_with (first | (go_at_call 9; (with_reducible refine (flat16_c _).mono ?_); rintro e w' ⟨rfl, r, rfl⟩) | (go_at_call 12; (with_reducible refine (norm_c ⟨false, false, ⟨c1, c2, c3⟩, ⟨65536, 65536, false⟩, ⟨0, 0, false⟩, ⟨0, 0, false⟩, ⟨0, 0, false⟩, ⟨6553600, 6553600, false⟩, ⟨65536, 65536, false⟩⟩ ⟨⟨0, 0, false⟩, ⟨d1, d2, d3⟩, ⟨u1, u2, u3⟩⟩ _).mono ?_); rintro e w' ⟨rfl, r5, rfl⟩; rw [hA]) | (first | (go_at_call 10; (with_reducible refine (idiv_c _ _ _).mono ?_); rintro e w' ⟨rfl, r, rfl⟩) | (go_at_call 10; (with_reducible refine (idiv_c _ ⟨_, _, _⟩ _).mono ?_); rintro e w' ⟨rfl, r, rfl⟩) | (go_at_call 10; (with_reducible refine (idiv_c ⟨_, _, _⟩ _ _).mono ?_); rintro e w' ⟨rfl, r, rfl⟩) | (go_at_call 10; (with_reducible refine (idiv_c ⟨_, _, _⟩ ⟨_, _, _⟩ _).mono ?_); rintro e w' ⟨rfl, r, rfl⟩) | (go_at_call 11; (with_reducible refine (whole_c _ _).mono ?_); rintro e w' ⟨rfl, r, rfl⟩) | (go_at_call 13; (with_reducible refine (vof_c _ _ _ _).mono ?_); rintro e w' ⟨rfl, r, rfl⟩) | (go_at_call 13; (with_reducible refine (vof_c ⟨_, _, _⟩ ⟨_, _, _⟩ ⟨_, _, _⟩ _).mono ?_); rintro e w' ⟨rfl, r, rfl⟩) | (go_at_call 14; (with_reducible refine (point_c _ _).mono ?_); rintro e w' ⟨rfl, r, rfl⟩) | (go_at_call 16; (with_reducible refine (known16_c _).mono ?_); rintro e w' ⟨rfl, r, rfl⟩) | (go_at_call 17; (with_reducible refine (has_c _ _ _).mono ?_); rintro e w' ⟨rfl, r, rfl⟩) | (go_at_call 17; (with_reducible refine (has_c ⟨_, _, _⟩ _ _).mono ?_); rintro e w' ⟨rfl, r, rfl⟩) | (go_at_call 29; (with_reducible refine (pick_c _ _ (by omega) (by omega) (by omega) (by omega) _).mono ?_); rintro e w' ⟨rfl, rfl⟩)))
    (try simp only [List.append_eq, List.cons_append, List.nil_append])
    go_wp2_with (first | (first | (go_at_call 16; (with_reducible refine (known16_c _).mono ?_); rintro e w' ⟨rfl, r, rfl⟩) | (go_at_call 17; (with_reducible refine (has_c _ _ _).mono ?_); rintro e w' ⟨rfl, r, rfl⟩) | (go_at_call 17; (with_reducible refine (has_c ⟨_, _, _⟩ _ _).mono ?_); rintro e w' ⟨rfl, r, rfl⟩)))
    go_returns
    exact ⟨rfl, (by repeat (first | exact More.refl _ | refine More.alloc ?_ _ | refine More.more ?_ _ | refine More.drew ?_ | refine More.drewN ?_ _))⟩
end Go.Proofs.Ytggohceeeggnmaa

