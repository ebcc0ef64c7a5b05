/-
  GaussTurns: turns add up, four are none; a mirrored turn is a turn the other way; norms multiply with numbers, and stay when turned or mirrored. No condition.
-/
import Derived.Test.YtnkiikdlmlaklaaRows
import Derived.Test.YtnkiikdlmlaklaaKnown8
import Derived.Test.YtnkiikdlmlaklaaTurnMath
import Derived.WalkKit
import Derived.ProofKit
import Derived.OpenShut
namespace Go.Proofs.Ytnkiikdlmlaklaa.gaussTurns
open Go.ChangeShapes Go.WideShapes Go.ChangeAt Go.RowKit
set_option linter.unusedVariables false      -- a walk need not use every 'w<i>' (that an integer argument fits its kind)

theorem own : ownKnob Try.prog.godebug = none := by kernel_rfl

set_option maxRecDepth 100000 in
set_option maxHeartbeats 16000000 in
theorem walk (a0 : Int) (a1 : Int) (a2 : Int) (a3 : Int) (a4 : Int) (a5 : Int) (w0 : (Lit.int .i64 a0).wf = true) (w1 : (Lit.int .i64 a1).wf = true) (w2 : (Lit.int .i64 a2).wf = true) (w3 : (Lit.int .i64 a3).wf = true) (w4 : (Lit.int .i64 a4).wf = true) (w5 : (Lit.int .i64 a5).wf = true) (w : World) :
    Calls Try.prog 5 #[.int .i64 a0, .int .i64 a1, .int .i64 a2, .int .i64 a3, .int .i64 a4, .int .i64 a5] w fun e w' => e = .returned (.bool true) ∧ More w w' := by
  have b0 := bounds_i64 w0
  have b1 := bounds_i64 w1
  have b2 := bounds_i64 w2
  have b3 := bounds_i64 w3
  have b4 := bounds_i64 w4
  have b5 := bounds_i64 w5
  clear w0 w1 w2 w3 w4 w5
  have p0 := Int.emod_nonneg a0 (show (81 : Int) ≠ 0 by omega)
  have q0 := Int.emod_lt_of_pos a0 (show (0 : Int) < 81 by omega)
  have p1 := Int.emod_nonneg a1 (show (81 : Int) ≠ 0 by omega)
  have q1 := Int.emod_lt_of_pos a1 (show (0 : Int) < 81 by omega)
  have p2 := Int.emod_nonneg a2 (show (81 : Int) ≠ 0 by omega)
  have q2 := Int.emod_lt_of_pos a2 (show (0 : Int) < 81 by omega)
  have p3 := Int.emod_nonneg a3 (show (81 : Int) ≠ 0 by omega)
  have q3 := Int.emod_lt_of_pos a3 (show (0 : Int) < 81 by omega)
  obtain ⟨x, hx, x1, x2⟩ : ∃ x, a0 % 81 - 40 = x ∧ -40 ≤ x ∧ x ≤ 40 := ⟨_, rfl, by omega, by omega⟩
  obtain ⟨y, hy, y1, y2⟩ : ∃ x, a1 % 81 - 40 = x ∧ -40 ≤ x ∧ x ≤ 40 := ⟨_, rfl, by omega, by omega⟩
  obtain ⟨u, hu, u1, u2⟩ : ∃ x, a2 % 81 - 40 = x ∧ -40 ≤ x ∧ x ≤ 40 := ⟨_, rfl, by omega, by omega⟩
  obtain ⟨v, hv, v1, v2⟩ : ∃ x, a3 % 81 - 40 = x ∧ -40 ≤ x ∧ x ≤ 40 := ⟨_, rfl, by omega, by omega⟩
  obtain ⟨k, hk, k1, k2⟩ : ∃ k, a4.tmod 1000 = k ∧ -1000 ≤ k ∧ k ≤ 1000 := ⟨_, rfl, (tmod1000 a4).1, (tmod1000 a4).2⟩
  obtain ⟨j, hj, j1, j2⟩ : ∃ k, a5.tmod 1000 = k ∧ -1000 ≤ k ∧ k ≤ 1000 := ⟨_, rfl, (tmod1000 a5).1, (tmod1000 a5).2⟩
  clear p0 q0 p1 q1 p2 q2 p3 q3
  obtain ⟨c1, d1, t1, f1⟩ := turn_form x y k
  obtain ⟨c1x, c1y⟩ : (-40 ≤ c1 ∧ c1 ≤ 40) ∧ (-40 ≤ d1 ∧ d1 ≤ 40) := by omega
  have n3 := nrm_turn f1
  have t3 := turn_add x y k j
  rw [t1] at t3
  have t5 := turn_mirror x y k
  rw [t1] at t5
  dsimp only at t5
  obtain ⟨c2, d2, t2, f2⟩ := turn_form c1 d1 j
  obtain ⟨c2x, c2y⟩ : (-40 ≤ c2 ∧ c2 ≤ 40) ∧ (-40 ≤ d2 ∧ d2 ≤ 40) := by omega
  rw [t2] at t3
  replace t3 := t3.symm
  have t4 := turn_four x y k
  have t6 : turnI ⟨x, y⟩ 1 = ⟨-y, x⟩ := turnI_1 (by omega)
  clear f1 f2
  have s1 := small_mul ⟨x1, x2⟩ ⟨u1, u2⟩
  have s2 := small_mul ⟨y1, y2⟩ ⟨v1, v2⟩
  have s3 := small_mul ⟨x1, x2⟩ ⟨v1, v2⟩
  have s4 := small_mul ⟨y1, y2⟩ ⟨u1, u2⟩
  have s5 := small_mul ⟨x1, x2⟩ ⟨x1, x2⟩
  have s6 := small_mul ⟨y1, y2⟩ ⟨y1, y2⟩
  have s7 := small_mul ⟨x1, x2⟩ ⟨y1, y2⟩
  obtain ⟨z1, z2, m1⟩ := cmul (P := Try.prog) (a := x) (b := y) (c := u) (d := v) false false false false (by omega) (by omega) (by omega) (by omega) (by omega) (by omega) (by omega) (by omega) _ _ rfl rfl
  have n1 := nrm_mul x y u v
  obtain ⟨X, hX⟩ : ∃ X, x * u - y * v = X := ⟨_, rfl⟩
  obtain ⟨Y, hY⟩ : ∃ X, x * v + y * u = X := ⟨_, rfl⟩
  have hXb : -3200 ≤ X ∧ X ≤ 3200 := by omega
  have hYb : -3200 ≤ Y ∧ Y ≤ 3200 := by omega
  obtain ⟨X1, X2⟩ := hXb
  obtain ⟨Y1, Y2⟩ := hYb
  rw [hX, hY] at m1 n1
  have e1 : y * -y = -(y * y) := Int.mul_neg y y
  have e2 : x * -y = -(x * y) := Int.mul_neg x y
  have e3 : y * x = x * y := Int.mul_comm y x
  obtain ⟨z3, z4, m2⟩ := cmul (P := Try.prog) (a := x) (b := y) (c := x) (d := -y) false false false false (by omega) (by omega) (by omega) (by omega) (by omega) (by rw [e1]; omega) (by rw [e2]; omega) (by rw [e3]; omega) (nrm x y) 0 (by rw [e1]; unfold nrm; omega) (by rw [e2, e3]; omega)
  obtain ⟨z5, z6, m3⟩ := mul_i (P := Try.prog) (x := x) (y := y) false false (by omega) (by omega)
  have N1 := nrm_small ⟨x1, x2⟩ ⟨y1, y2⟩
  have N2 := nrm_small ⟨u1, u2⟩ ⟨v1, v2⟩
  have N3 := pos_mul N1 N2
  have n4 := nrm_neg2 x y
  obtain ⟨N, hN⟩ : ∃ N, nrm x y = N := ⟨_, rfl⟩
  obtain ⟨M, hM⟩ : ∃ N, nrm u v = N := ⟨_, rfl⟩
  rw [hN] at N1 N3 n1 n3 n4 m2
  rw [hM] at N2 N3 n1
  obtain ⟨N11, N12⟩ := N1
  obtain ⟨N21, N22⟩ := N2
  obtain ⟨N31, N32⟩ := N3
  obtain ⟨c11, c12⟩ := c1x
  obtain ⟨d11, d12⟩ := c1y
  obtain ⟨c21, c22⟩ := c2x
  obtain ⟨d21, d22⟩ := c2y
  have g1 := eq_ww (a := c2) (b := c2) false false (by omega) (by omega)
  have g2 := eq_ww (a := d2) (b := d2) false false (by omega) (by omega)
  have g3 := eq_ww (a := x) (b := x) false false (by omega) (by omega)
  have g4 := eq_ww (a := y) (b := y) false false (by omega) (by omega)
  have g5 := eq_ww (a := c1) (b := c1) false false (by omega) (by omega)
  have g6 := eq_ww (a := -d1) (b := -d1) false false (by omega) (by omega)
  have g7 := eq_ww (a := -y) (b := -y) false z5 (by omega) (by omega)
  have g8 := eq_ww (a := x) (b := x) false z6 (by omega) (by omega)
  have g9 := eq_ww (a := N) (b := N) false z3 (by omega) (by omega)
  have g10 := eq_ww (a := 0) (b := 0) false z4 (by omega) (by omega)
  rw [← lit_zero] at g10
  rw [decide_eq_true rfl] at g1 g2 g3 g4 g5 g6 g7 g8 g9 g10
  clear hX hY s1 s2 s3 s4 s5 s6 s7 e1 e2 e3
  go_enter Try.func5, Try.ntmps5
  go_wp2_with (first | (go_at_call 10; (with_reducible refine (known8_c _).mono ?_); rintro e w' ⟨rfl, r, rfl⟩) | (go_at_call 11; (with_reducible refine (turn_c _ _ (by (try dsimp only); omega) (by (try dsimp only); omega) (by (try dsimp only); omega) (by (try dsimp only); omega) _).mono ?_); rintro e w' ⟨rfl, rfl⟩) | (go_at_call 11; (with_reducible refine (turn_c ⟨_, _, _, _⟩ _ (by (try dsimp only); omega) (by (try dsimp only); omega) (by (try dsimp only); omega) (by (try dsimp only); omega) _).mono ?_); rintro e w' ⟨rfl, rfl⟩) | (go_at_call 11; (with_reducible refine (turn_n _ _ (by assumption) _).mono ?_); rintro e w' ⟨rfl, rfl⟩) | (go_at_call 11; (with_reducible refine (turn_n ⟨_, _⟩ _ (by assumption) _).mono ?_); rintro e w' ⟨rfl, rfl⟩) | (go_at_call 12; (with_reducible refine (mirror_c _ (by (try dsimp only); omega) (by (try dsimp only); omega) (by (try dsimp only); omega) (by (try dsimp only); omega) _).mono ?_); rintro e w' ⟨rfl, rfl⟩) | (go_at_call 12; (with_reducible refine (mirror_c ⟨_, _, _, _⟩ (by (try dsimp only); omega) (by (try dsimp only); omega) (by (try dsimp only); omega) (by (try dsimp only); omega) _).mono ?_); rintro e w' ⟨rfl, rfl⟩) | (go_at_call 12; (with_reducible refine (mirror_n _ (by assumption) _).mono ?_); rintro e w' ⟨rfl, rfl⟩) | (go_at_call 12; (with_reducible refine (mirror_n ⟨_, _⟩ (by assumption) _).mono ?_); rintro e w' ⟨rfl, rfl⟩) | (go_at_call 14; (with_reducible refine (gnorm_c _ (by (try dsimp only); omega) (by (try dsimp only); omega) (by (try dsimp only); omega) (by (try dsimp only); omega) _).mono ?_); rintro e w' ⟨rfl, rfl⟩) | (go_at_call 14; (with_reducible refine (gnorm_c ⟨_, _, _, _⟩ (by (try dsimp only); omega) (by (try dsimp only); omega) (by (try dsimp only); omega) (by (try dsimp only); omega) _).mono ?_); rintro e w' ⟨rfl, rfl⟩) | (go_at_call 14; (with_reducible refine (gnorm_n _ (by assumption) _).mono ?_); rintro e w' ⟨rfl, rfl⟩) | (go_at_call 14; (with_reducible refine (gnorm_n ⟨_, _⟩ (by assumption) _).mono ?_); rintro e w' ⟨rfl, rfl⟩) | (go_at_call 17; (with_reducible refine (number0_c _ _ () (by omega) (by omega) (by omega) (by omega) _).mono ?_); rintro e w' ⟨rfl, rfl⟩) | (go_at_call 17; (with_reducible refine (number_c _ _ _ (by omega) (by omega) (by omega) (by omega) (by omega) (by omega) _).mono ?_); rintro e w' ⟨rfl, rfl⟩))
  all_goals (try simp only [List.append_eq, List.cons_append, List.nil_append])
  go_wp2_with (first | (go_at_call 10; (with_reducible refine (known8_c _).mono ?_); rintro e w' ⟨rfl, r, rfl⟩) | (go_at_call 11; (with_reducible refine (turn_c _ _ (by (try dsimp only); omega) (by (try dsimp only); omega) (by (try dsimp only); omega) (by (try dsimp only); omega) _).mono ?_); rintro e w' ⟨rfl, rfl⟩) | (go_at_call 11; (with_reducible refine (turn_c ⟨_, _, _, _⟩ _ (by (try dsimp only); omega) (by (try dsimp only); omega) (by (try dsimp only); omega) (by (try dsimp only); omega) _).mono ?_); rintro e w' ⟨rfl, rfl⟩) | (go_at_call 11; (with_reducible refine (turn_n _ _ (by assumption) _).mono ?_); rintro e w' ⟨rfl, rfl⟩) | (go_at_call 11; (with_reducible refine (turn_n ⟨_, _⟩ _ (by assumption) _).mono ?_); rintro e w' ⟨rfl, rfl⟩) | (go_at_call 12; (with_reducible refine (mirror_c _ (by (try dsimp only); omega) (by (try dsimp only); omega) (by (try dsimp only); omega) (by (try dsimp only); omega) _).mono ?_); rintro e w' ⟨rfl, rfl⟩) | (go_at_call 12; (with_reducible refine (mirror_c ⟨_, _, _, _⟩ (by (try dsimp only); omega) (by (try dsimp only); omega) (by (try dsimp only); omega) (by (try dsimp only); omega) _).mono ?_); rintro e w' ⟨rfl, rfl⟩) | (go_at_call 12; (with_reducible refine (mirror_n _ (by assumption) _).mono ?_); rintro e w' ⟨rfl, rfl⟩) | (go_at_call 12; (with_reducible refine (mirror_n ⟨_, _⟩ (by assumption) _).mono ?_); rintro e w' ⟨rfl, rfl⟩) | (go_at_call 14; (with_reducible refine (gnorm_c _ (by (try dsimp only); omega) (by (try dsimp only); omega) (by (try dsimp only); omega) (by (try dsimp only); omega) _).mono ?_); rintro e w' ⟨rfl, rfl⟩) | (go_at_call 14; (with_reducible refine (gnorm_c ⟨_, _, _, _⟩ (by (try dsimp only); omega) (by (try dsimp only); omega) (by (try dsimp only); omega) (by (try dsimp only); omega) _).mono ?_); rintro e w' ⟨rfl, rfl⟩) | (go_at_call 14; (with_reducible refine (gnorm_n _ (by assumption) _).mono ?_); rintro e w' ⟨rfl, rfl⟩) | (go_at_call 14; (with_reducible refine (gnorm_n ⟨_, _⟩ (by assumption) _).mono ?_); rintro e w' ⟨rfl, rfl⟩) | (go_at_call 17; (with_reducible refine (number0_c _ _ () (by omega) (by omega) (by omega) (by omega) _).mono ?_); rintro e w' ⟨rfl, rfl⟩) | (go_at_call 17; (with_reducible refine (number_c _ _ _ (by omega) (by omega) (by omega) (by omega) (by omega) (by omega) _).mono ?_); rintro e w' ⟨rfl, rfl⟩))
  go_returns
  exact ⟨rfl, (by repeat (first | exact More.refl _ | refine More.alloc ?_ _ | refine More.more ?_ _ | refine More.drew ?_ | refine More.drewN ?_ _))⟩

set_option maxRecDepth 100000 in
theorem lifted (os : Os) (started : os.Started) (H : Type) (enc : TypeId × Value → H) :
    ReturnsInHanded {} Try.checked os 5 .any (Rows.gaussTurnsSpec.pre6 enc Try.prog Try.f5 Rows.gaussTurnsRow.domain false) (Rows.gaussTurnsSpec.post enc Try.prog Try.f5 false true false false) := by
  refine returnsInHanded_of_change (C := Try.checked) own started (by kernel_rfl) Try.func5
    (ChangeSpec.witness6 (enc := enc) (C := Try.checked) false ⟨#[], #[.int .i64 0, .int .i64 0, .int .i64 0, .int .i64 0, .int .i64 0, .int .i64 0], []⟩ 8 (by kernel_rfl) (by kernel_rfl) (by kernel_rfl) (by kernel_rfl)) ?_
  intro W base args ds gs before hval0 hW hcnd _
  have hval : ∀ (j : Nat) t v, Try.f5.params[j]? = some t → args[j]? = some v → Value.okWide Try.prog W .any base t v := hval0
  have hW' := hW
  obtain ⟨p, q, hA0, hV, rfl, hfz, hnd⟩ := hW
  have hA : DataW.TrodAll enc Try.prog W 0 (fun _ => true) true Try.f5.params.toList args.toList ds p := hA0
  rw [Try.params5] at hA hval
  obtain ⟨v0, vs0, d0, ds0, p0, q0, hargs, rfl, rfl, h0, r0⟩ := trodAll_cons hA
  obtain ⟨v1, vs1, d1, ds1, p1, q1, rfl, rfl, rfl, h1, r1⟩ := trodAll_cons r0
  obtain ⟨v2, vs2, d2, ds2, p2, q2, rfl, rfl, rfl, h2, r2⟩ := trodAll_cons r1
  obtain ⟨v3, vs3, d3, ds3, p3, q3, rfl, rfl, rfl, h3, r3⟩ := trodAll_cons r2
  obtain ⟨v4, vs4, d4, ds4, p4, q4, rfl, rfl, rfl, h4, r4⟩ := trodAll_cons r3
  obtain ⟨v5, vs5, d5, ds5, p5, q5, rfl, rfl, rfl, h5, r5⟩ := trodAll_cons r4
  obtain ⟨rfl, rfl, rfl⟩ := trodAll_nil r5
  obtain rfl : args = #[v0, v1, v2, v3, v4, v5] := by cases args; simp_all
  obtain ⟨rfl, rfl⟩ := trodVars_none hV
  obtain ⟨a0, rfl, rfl, rfl, w0⟩ := open_int Try.underlying3 (hval 0 3 v0 rfl rfl) h0
  obtain ⟨a1, rfl, rfl, rfl, w1⟩ := open_int Try.underlying3 (hval 1 3 v1 rfl rfl) h1
  obtain ⟨a2, rfl, rfl, rfl, w2⟩ := open_int Try.underlying3 (hval 2 3 v2 rfl rfl) h2
  obtain ⟨a3, rfl, rfl, rfl, w3⟩ := open_int Try.underlying3 (hval 3 3 v3 rfl rfl) h3
  obtain ⟨a4, rfl, rfl, rfl, w4⟩ := open_int Try.underlying3 (hval 4 3 v4 rfl rfl) h4
  obtain ⟨a5, rfl, rfl, rfl, w5⟩ := open_int Try.underlying3 (hval 5 3 v5 rfl rfl) h5
  clear hA0 hval0
  simp only [List.append_nil] at hW'
  refine (walk a0 a1 a2 a3 a4 a5 w0 w1 w2 w3 w4 w5 W).mono fun e W' ⟨he, hg⟩ => ?_
  subst he
  exact ⟨_, rfl, _, _, _, [], [], [], hW', (trodAll_cons_mk (shut_bool Try.underlying4 _) trodAll_mk0), (trodAll_cons_mk (shut_int Try.underlying3 w0) (trodAll_cons_mk (shut_int Try.underlying3 w1) (trodAll_cons_mk (shut_int Try.underlying3 w2) (trodAll_cons_mk (shut_int Try.underlying3 w3) (trodAll_cons_mk (shut_int Try.underlying3 w4) (trodAll_cons_mk (shut_int Try.underlying3 w5) trodAll_mk0)))))), rfl, hg.below.frame _, fun h => by cases h⟩

theorem over : Rows.gaussTurnsRow.holds Try.pinned (OpenSpec.ofChange Rows.gaussTurnsSpec) :=
  OpenClaim.holds_of_wide 5 Try.f5 rfl rfl rfl rfl rfl rfl rfl ⟨rfl, rfl, rfl, rfl, rfl⟩ rfl rfl rfl rfl rfl (by kernel_rfl) Try.func5 (by kernel_rfl)
    (of_decide_eq_true (by kernel_rfl)) (by unfold Func.isWrapper; first | (rw [if_pos (by decide +kernel)]; kernel_rfl) | (rw [if_neg (by decide +kernel)]; exact ⟨rfl, rfl⟩))
    (fun os started H enc _ => lifted os started H enc)

/-- The statement. -/
theorem proved : Rows.GaussTurnsSaid :=
  over
#print axioms proved
end Go.Proofs.Ytnkiikdlmlaklaa.gaussTurns
