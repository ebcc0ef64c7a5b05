/-
  The plain saying of chapter 8: whole numbers as pairs; what the statements of the chapter lean on.
-/
import Derived.Test.YtnkiikdlmlaklaaGauss
namespace Go.Proofs.Ytnkiikdlmlaklaa
set_option linter.unusedVariables false
open Go.ChangeShapes Go.WideShapes Go.ChangeAt Go.RowKit

set_option maxHeartbeats 4000000 in
theorem rsmall_c (n : Int) (W : World) :
    Calls Try.prog 40 #[.int .i64 n] W fun e w' => e = .returned (.bool (smallI n)) ∧ W = w' := by
  unfold smallI
  by_cases h1 : -1048576 ≤ n <;> by_cases h2 : n ≤ 1048576
  all_goals
    go_enter Try.func40, Try.ntmps40
    go_wp2_with fail
    all_goals
      go_returns
      refine ⟨?_, rfl⟩
      simp [h1, h2] <;> omega

set_option maxHeartbeats 4000000 in
theorem within_c (n l h : Int) (W : World) :
    Calls Try.prog 36 #[.int .i64 n, .int .i64 l, .int .i64 h] W fun e w' => e = .returned (.int .i64 (max l (min h n))) ∧ W = w' := by
  go_enter Try.func36, Try.ntmps36
  go_wp2_with fail
  go_returns
  exact ⟨rfl, rfl⟩

set_option maxHeartbeats 4000000 in
theorem rnear_c (n : Int) (h1 : -1048577 ≤ n) (h2 : n ≤ 1048577) (W : World) :
    Calls Try.prog 37 #[.int .i64 n] W fun e w' => e = .returned (.int .i64 (nearI n)) ∧ W = w' := by
  unfold nearI
  by_cases h : n < 0
  · rw [if_pos h]
    have g : min (n + 1) 0 = n + 1 := by omega
    go_enter Try.func37, Try.ntmps37
    go_wp2_with fail
    go_returns
    exact ⟨rfl, rfl⟩
  · rw [if_neg h]
    go_enter Try.func37, Try.ntmps37
    go_wp2_with fail
    go_returns
    exact ⟨rfl, rfl⟩

set_option maxHeartbeats 4000000 in
theorem complex_c (p : Pt) (W : World) :
    Calls Try.prog 38 #[ptV p] W fun e w' => e = .returned (cxP p) ∧ More W w' := by
  obtain ⟨x, y⟩ := p
  go_enter Try.func38, Try.ntmps38
  go_wp2_with fail
  go_returns
  exact ⟨rfl, (by repeat (first | exact More.refl _ | refine More.alloc ?_ _ | refine More.more ?_ _ | refine More.drew ?_ | refine More.drewN ?_ _))⟩

set_option maxHeartbeats 4000000 in
theorem rnorm_c (p : Pt) (h1 : -1048577 ≤ p.x) (h2 : p.x ≤ 1048577) (h3 : -1048577 ≤ p.y) (h4 : p.y ≤ 1048577) (W : World) :
    Calls Try.prog 20 #[ptV p] W fun e w' => e = .returned (.int .i64 (nrm p.x p.y)) ∧ More W w' := by
  obtain ⟨x, y⟩ := p
  dsimp only at h1 h2 h3 h4 ⊢
  have q1 := sq_in ⟨h1, h2⟩
  have q2 := sq_in ⟨h3, h4⟩
  unfold nrm
  go_enter Try.func20, Try.ntmps20
  go_wp2_with fail
  go_returns
  exact ⟨rfl, (by repeat (first | exact More.refl _ | refine More.alloc ?_ _ | refine More.more ?_ _ | refine More.drew ?_ | refine More.drewN ?_ _))⟩

theorem of_at {x : Nat} (hx : OkW x) (h1 : inLo x = true) (h2 : inHi x = true) : ∃ n : Int, (∀ w, (convert 24 3 (.float .f64 x)).run Try.prog w = .ok (.int .i64 n) w) ∧ (Ieee.double.order (ww n false) x == some .eq) = wp x := by
  obtain ⟨n, -, -, h3, h4, -⟩ := in_facts hx h1 h2
  refine ⟨n, fun w => run_convert_float_int w _ _ .f64 .i64 _ _ (by kernel_rfl) (by kernel_rfl) h3, ?_⟩
  rw [h4]
  unfold wp
  rw [h1, h2]
  rfl

set_option maxHeartbeats 4000000 in
theorem of_c (c : Cx) (h1 : -1048576 ≤ c.x) (h2 : c.x ≤ 1048576) (h3 : -1048576 ≤ c.y) (h4 : c.y ≤ 1048576) (W : World) :
    Calls Try.prog 19 #[cxV c] W fun e w' => e = .returned (.tuple #[ptV ⟨c.x, c.y⟩, .bool true]) ∧ More W w' := by
  obtain ⟨x, s, y, t⟩ := c
  dsimp only at h1 h2 h3 h4 ⊢
  have a1 : (Ieee.double.order (ww x s) 13920626448202203136 == some .gt || Ieee.double.order (ww x s) 13920626448202203136 == some .eq) = true := by rw [inLo_ge, inLo_ww s (by omega)]; simp [h1]
  have a2 : (Ieee.double.order (ww x s) 4697254411347427328 == some .lt || Ieee.double.order (ww x s) 4697254411347427328 == some .eq) = true := by have := inHi_ww (n := x) s (by omega); unfold inHi at this; rw [this]; simp [h2]
  have a3 : (Ieee.double.order (ww y t) 13920626448202203136 == some .gt || Ieee.double.order (ww y t) 13920626448202203136 == some .eq) = true := by rw [inLo_ge, inLo_ww t (by omega)]; simp [h3]
  have a4 : (Ieee.double.order (ww y t) 4697254411347427328 == some .lt || Ieee.double.order (ww y t) 4697254411347427328 == some .eq) = true := by have := inHi_ww (n := y) t (by omega); unfold inHi at this; rw [this]; simp [h4]
  have v1 : ∀ w, (convert 24 3 (.float .f64 (ww x s))).run Try.prog w = .ok (.int .i64 x) w := fun w => run_convert_float_int w _ _ .f64 .i64 _ _ (by kernel_rfl) (by kernel_rfl) (val_ww s (by omega))
  have v2 : ∀ w, (convert 24 3 (.float .f64 (ww y t))).run Try.prog w = .ok (.int .i64 y) w := fun w => run_convert_float_int w _ _ .f64 .i64 _ _ (by kernel_rfl) (by kernel_rfl) (val_ww t (by omega))
  have e1 := eq_ww (a := x) (b := x) false s (by omega) (by omega)
  have e2 := eq_ww (a := y) (b := y) false t (by omega) (by omega)
  rw [decide_eq_true rfl] at e1 e2
  have f1 : (Ieee.double.order (ww x false) (ww x s) != some .eq) = false := by unfold bne; rw [e1]; rfl
  have f2 : (Ieee.double.order (ww y false) (ww y t) != some .eq) = false := by unfold bne; rw [e2]; rfl
  clear e1 e2
  go_enter Try.func19, Try.ntmps19
  go_wp2_with fail
  go_returns
  exact ⟨rfl, (by repeat (first | exact More.refl _ | refine More.alloc ?_ _ | refine More.more ?_ _ | refine More.drew ?_ | refine More.drewN ?_ _))⟩

set_option maxHeartbeats 4000000 in
theorem of_n (c : Cw) (h : OkNot c.a c.b) (ha : OkW c.a) (hb : OkW c.b) (W : World) :
    Calls Try.prog 19 #[cwV c] W fun e w' => e = .returned (.tuple #[ptV ⟨0, 0⟩, .bool false]) ∧ More W w' := by
  obtain ⟨a, b⟩ := c
  dsimp only at h ha hb
  unfold OkNot at h
  have ge := inLo_ge a
  have ge' := inLo_ge b
  cases h1 : inLo a
  · rw [h1] at ge
    go_enter Try.func19, Try.ntmps19
    go_wp2_with fail
    go_returns
    exact ⟨rfl, (by repeat (first | exact More.refl _ | refine More.alloc ?_ _ | refine More.more ?_ _ | refine More.drew ?_ | refine More.drewN ?_ _))⟩
  · rw [h1] at ge
    cases h2 : inHi a
    · have h2' := h2
      unfold inHi at h2'
      go_enter Try.func19, Try.ntmps19
      go_wp2_with fail
      go_returns
      exact ⟨rfl, (by repeat (first | exact More.refl _ | refine More.alloc ?_ _ | refine More.more ?_ _ | refine More.drew ?_ | refine More.drewN ?_ _))⟩
    · have h2' := h2
      unfold inHi at h2'
      cases h3 : inLo b
      · rw [h3] at ge'
        go_enter Try.func19, Try.ntmps19
        go_wp2_with fail
        go_returns
        exact ⟨rfl, (by repeat (first | exact More.refl _ | refine More.alloc ?_ _ | refine More.more ?_ _ | refine More.drew ?_ | refine More.drewN ?_ _))⟩
      · rw [h3] at ge'
        cases h4 : inHi b
        · have h4' := h4
          unfold inHi at h4'
          go_enter Try.func19, Try.ntmps19
          go_wp2_with fail
          go_returns
          exact ⟨rfl, (by repeat (first | exact More.refl _ | refine More.alloc ?_ _ | refine More.more ?_ _ | refine More.drew ?_ | refine More.drewN ?_ _))⟩
        · have h4' := h4
          unfold inHi at h4'
          obtain ⟨n, v1, e1⟩ := of_at ha h1 h2
          obtain ⟨k, v2, e2⟩ := of_at hb h3 h4
          clear h1 h2 h3 h4
          cases g1 : wp a
          · rw [g1] at e1
            have f1 : (Ieee.double.order (ww n false) a != some .eq) = true := by unfold bne; rw [e1]; rfl
            clear e1 e2
            go_enter Try.func19, Try.ntmps19
            go_wp2_with fail
            go_returns
            exact ⟨rfl, (by repeat (first | exact More.refl _ | refine More.alloc ?_ _ | refine More.more ?_ _ | refine More.drew ?_ | refine More.drewN ?_ _))⟩
          · rw [g1, Bool.true_and] at h
            rw [g1] at e1
            rw [h] at e2
            have f1 : (Ieee.double.order (ww n false) a != some .eq) = false := by unfold bne; rw [e1]; rfl
            have f2 : (Ieee.double.order (ww k false) b != some .eq) = true := by unfold bne; rw [e2]; rfl
            clear e1 e2
            go_enter Try.func19, Try.ntmps19
            go_wp2_with fail
            go_returns
            exact ⟨rfl, (by repeat (first | exact More.refl _ | refine More.alloc ?_ _ | refine More.more ?_ _ | refine More.drew ?_ | refine More.drewN ?_ _))⟩

def worst4 (x y : Int) : Int := max (max (max (max 0 (nrm x y)) (nrm (x + 1) y)) (nrm x (y + 1))) (nrm (x + 1) (y + 1))
theorem worst_far (x y : Int) : worst4 x y = farI x y := by
  unfold worst4 farI nrm
  have a := Int.natAbs_mul_self (a := x)
  have b := Int.natAbs_mul_self (a := y)
  omega

set_option maxRecDepth 100000 in
set_option maxHeartbeats 4000000 in
theorem rdisc_c (p : Pt) (n : Int) (h1 : -1048576 ≤ p.x) (h2 : p.x ≤ 1048576) (h3 : -1048576 ≤ p.y) (h4 : p.y ≤ 1048576) (W : World) :
    Calls Try.prog 21 #[ptV p, .int .i64 n] W fun e w' => e = .returned (.int .i64 (discI p.x p.y n)) ∧ More W w' := by
  obtain ⟨x, y⟩ := p
  dsimp only at h1 h2 h3 h4 ⊢
  have b1 : -1048577 ≤ nearI x ∧ nearI x ≤ 1048577 := by unfold nearI; split <;> omega
  have b2 : -1048577 ≤ nearI y ∧ nearI y ≤ 1048577 := by unfold nearI; split <;> omega
  obtain ⟨b3, b4⟩ := b1
  obtain ⟨b5, b6⟩ := b2
  have c1 : 0 ≤ clampI n 1048576 ∧ clampI n 1048576 ≤ 1048576 := by unfold clampI; omega
  have c2 := sq_in (n := clampI n 1048576) (by omega)
  have c3 : max 0 (min 1048576 n) = clampI n 1048576 := by unfold clampI; omega
  have w0 := worst_far x y
  unfold worst4 at w0
  unfold discI
  by_cases d1 : farI x y ≤ clampI n 1048576 * clampI n 1048576
  · rw [if_pos d1]
    go_enter Try.func21, Try.ntmps21
    go_wp2_with (first | (go_at_call 20; (with_reducible refine (rnorm_c _ (by (try dsimp only); omega) (by (try dsimp only); omega) (by (try dsimp only); omega) (by (try dsimp only); omega) _).mono ?_); rintro e w' ⟨rfl, r, rfl⟩) | (go_at_call 20; (with_reducible refine (rnorm_c ⟨_, _⟩ (by (try dsimp only); omega) (by (try dsimp only); omega) (by (try dsimp only); omega) (by (try dsimp only); omega) _).mono ?_); rintro e w' ⟨rfl, r, rfl⟩) | (go_at_call 36; (with_reducible refine (within_c _ _ _ _).mono ?_); rintro e w' ⟨rfl, rfl⟩) | (go_at_call 36; (with_reducible refine (within_c _ _ _ _).mono ?_); rintro e w' ⟨rfl, rfl⟩) | (go_at_call 37; (with_reducible refine (rnear_c _ (by omega) (by omega) _).mono ?_); rintro e w' ⟨rfl, rfl⟩) | ((with_reducible show Code.wp _ (Code.region 9 _ true) _ _ _); (with_reducible refine wp_more_quick_m (id := 9) ?_ ?_ ?_); kernel_rfl; kernel_rfl; (try simp only [List.take_succ_cons, List.take_zero, List.drop_succ_cons, List.drop_zero]); (repeat (any_goals (first | go_big_quiet_step ((first | (go_at_call 20; (with_reducible apply quiet_call); with_reducible exact rnorm_c _ (by (try dsimp only); omega) (by (try dsimp only); omega) (by (try dsimp only); omega) (by (try dsimp only); omega) _) | (go_at_call 20; (with_reducible apply quiet_call); with_reducible exact rnorm_c ⟨_, _⟩ (by (try dsimp only); omega) (by (try dsimp only); omega) (by (try dsimp only); omega) (by (try dsimp only); omega) _) | (go_at_call 36; (with_reducible apply quiet_call_same); with_reducible exact within_c _ _ _ _) | (go_at_call 36; (with_reducible apply quiet_call_same); with_reducible exact within_c _ _ _ _) | (go_at_call 37; (with_reducible apply quiet_call_same); with_reducible exact rnear_c _ (by omega) (by omega) _))) | quiet_step ((first | (go_at_call 20; (with_reducible apply quiet_call); with_reducible exact rnorm_c _ (by (try dsimp only); omega) (by (try dsimp only); omega) (by (try dsimp only); omega) (by (try dsimp only); omega) _) | (go_at_call 20; (with_reducible apply quiet_call); with_reducible exact rnorm_c ⟨_, _⟩ (by (try dsimp only); omega) (by (try dsimp only); omega) (by (try dsimp only); omega) (by (try dsimp only); omega) _) | (go_at_call 36; (with_reducible apply quiet_call_same); with_reducible exact within_c _ _ _ _) | (go_at_call 36; (with_reducible apply quiet_call_same); with_reducible exact within_c _ _ _ _) | (go_at_call 37; (with_reducible apply quiet_call_same); with_reducible exact rnear_c _ (by omega) (by omega) _)))))); (with_reducible refine wpQuiet_nil ?_); intro r) | ((with_reducible show Code.wp _ (Code.region 9 _ true) _ _ _); (with_reducible refine wp_more_quick (id := 9) ?_ ?_ ?_); kernel_rfl; kernel_rfl; (try simp only [List.take_succ_cons, List.take_zero, List.drop_succ_cons, List.drop_zero]); (repeat (any_goals (first | go_big_quiet_step ((first | (go_at_call 20; (with_reducible apply quiet_call); with_reducible exact rnorm_c _ (by (try dsimp only); omega) (by (try dsimp only); omega) (by (try dsimp only); omega) (by (try dsimp only); omega) _) | (go_at_call 20; (with_reducible apply quiet_call); with_reducible exact rnorm_c ⟨_, _⟩ (by (try dsimp only); omega) (by (try dsimp only); omega) (by (try dsimp only); omega) (by (try dsimp only); omega) _) | (go_at_call 36; (with_reducible apply quiet_call_same); with_reducible exact within_c _ _ _ _) | (go_at_call 36; (with_reducible apply quiet_call_same); with_reducible exact within_c _ _ _ _) | (go_at_call 37; (with_reducible apply quiet_call_same); with_reducible exact rnear_c _ (by omega) (by omega) _))) | quiet_step ((first | (go_at_call 20; (with_reducible apply quiet_call); with_reducible exact rnorm_c _ (by (try dsimp only); omega) (by (try dsimp only); omega) (by (try dsimp only); omega) (by (try dsimp only); omega) _) | (go_at_call 20; (with_reducible apply quiet_call); with_reducible exact rnorm_c ⟨_, _⟩ (by (try dsimp only); omega) (by (try dsimp only); omega) (by (try dsimp only); omega) (by (try dsimp only); omega) _) | (go_at_call 36; (with_reducible apply quiet_call_same); with_reducible exact within_c _ _ _ _) | (go_at_call 36; (with_reducible apply quiet_call_same); with_reducible exact within_c _ _ _ _) | (go_at_call 37; (with_reducible apply quiet_call_same); with_reducible exact rnear_c _ (by omega) (by omega) _)))))); (with_reducible refine wpQuiet_nil ?_); intro r))
    repeat (any_goals (first | (refine wp_loop_rounds 6 ?_) | (rw [rounds_succ]; go_wp2_with (first | (go_at_call 20; (with_reducible refine (rnorm_c _ (by (try dsimp only); omega) (by (try dsimp only); omega) (by (try dsimp only); omega) (by (try dsimp only); omega) _).mono ?_); rintro e w' ⟨rfl, r, rfl⟩) | (go_at_call 20; (with_reducible refine (rnorm_c ⟨_, _⟩ (by (try dsimp only); omega) (by (try dsimp only); omega) (by (try dsimp only); omega) (by (try dsimp only); omega) _).mono ?_); rintro e w' ⟨rfl, r, rfl⟩) | (go_at_call 36; (with_reducible refine (within_c _ _ _ _).mono ?_); rintro e w' ⟨rfl, rfl⟩) | (go_at_call 36; (with_reducible refine (within_c _ _ _ _).mono ?_); rintro e w' ⟨rfl, rfl⟩) | (go_at_call 37; (with_reducible refine (rnear_c _ (by omega) (by omega) _).mono ?_); rintro e w' ⟨rfl, rfl⟩) | ((with_reducible show Code.wp _ (Code.region 9 _ true) _ _ _); (with_reducible refine wp_more_quick_m (id := 9) ?_ ?_ ?_); kernel_rfl; kernel_rfl; (try simp only [List.take_succ_cons, List.take_zero, List.drop_succ_cons, List.drop_zero]); (repeat (any_goals (first | go_big_quiet_step ((first | (go_at_call 20; (with_reducible apply quiet_call); with_reducible exact rnorm_c _ (by (try dsimp only); omega) (by (try dsimp only); omega) (by (try dsimp only); omega) (by (try dsimp only); omega) _) | (go_at_call 20; (with_reducible apply quiet_call); with_reducible exact rnorm_c ⟨_, _⟩ (by (try dsimp only); omega) (by (try dsimp only); omega) (by (try dsimp only); omega) (by (try dsimp only); omega) _) | (go_at_call 36; (with_reducible apply quiet_call_same); with_reducible exact within_c _ _ _ _) | (go_at_call 36; (with_reducible apply quiet_call_same); with_reducible exact within_c _ _ _ _) | (go_at_call 37; (with_reducible apply quiet_call_same); with_reducible exact rnear_c _ (by omega) (by omega) _))) | quiet_step ((first | (go_at_call 20; (with_reducible apply quiet_call); with_reducible exact rnorm_c _ (by (try dsimp only); omega) (by (try dsimp only); omega) (by (try dsimp only); omega) (by (try dsimp only); omega) _) | (go_at_call 20; (with_reducible apply quiet_call); with_reducible exact rnorm_c ⟨_, _⟩ (by (try dsimp only); omega) (by (try dsimp only); omega) (by (try dsimp only); omega) (by (try dsimp only); omega) _) | (go_at_call 36; (with_reducible apply quiet_call_same); with_reducible exact within_c _ _ _ _) | (go_at_call 36; (with_reducible apply quiet_call_same); with_reducible exact within_c _ _ _ _) | (go_at_call 37; (with_reducible apply quiet_call_same); with_reducible exact rnear_c _ (by omega) (by omega) _)))))); (with_reducible refine wpQuiet_nil ?_); intro r) | ((with_reducible show Code.wp _ (Code.region 9 _ true) _ _ _); (with_reducible refine wp_more_quick (id := 9) ?_ ?_ ?_); kernel_rfl; kernel_rfl; (try simp only [List.take_succ_cons, List.take_zero, List.drop_succ_cons, List.drop_zero]); (repeat (any_goals (first | go_big_quiet_step ((first | (go_at_call 20; (with_reducible apply quiet_call); with_reducible exact rnorm_c _ (by (try dsimp only); omega) (by (try dsimp only); omega) (by (try dsimp only); omega) (by (try dsimp only); omega) _) | (go_at_call 20; (with_reducible apply quiet_call); with_reducible exact rnorm_c ⟨_, _⟩ (by (try dsimp only); omega) (by (try dsimp only); omega) (by (try dsimp only); omega) (by (try dsimp only); omega) _) | (go_at_call 36; (with_reducible apply quiet_call_same); with_reducible exact within_c _ _ _ _) | (go_at_call 36; (with_reducible apply quiet_call_same); with_reducible exact within_c _ _ _ _) | (go_at_call 37; (with_reducible apply quiet_call_same); with_reducible exact rnear_c _ (by omega) (by omega) _))) | quiet_step ((first | (go_at_call 20; (with_reducible apply quiet_call); with_reducible exact rnorm_c _ (by (try dsimp only); omega) (by (try dsimp only); omega) (by (try dsimp only); omega) (by (try dsimp only); omega) _) | (go_at_call 20; (with_reducible apply quiet_call); with_reducible exact rnorm_c ⟨_, _⟩ (by (try dsimp only); omega) (by (try dsimp only); omega) (by (try dsimp only); omega) (by (try dsimp only); omega) _) | (go_at_call 36; (with_reducible apply quiet_call_same); with_reducible exact within_c _ _ _ _) | (go_at_call 36; (with_reducible apply quiet_call_same); with_reducible exact within_c _ _ _ _) | (go_at_call 37; (with_reducible apply quiet_call_same); with_reducible exact rnear_c _ (by omega) (by omega) _)))))); (with_reducible refine wpQuiet_nil ?_); intro r)))))
    all_goals
      go_returns
      exact ⟨rfl, (by repeat (first | exact More.refl _ | refine More.alloc ?_ _ | refine More.more ?_ _ | refine More.drew ?_ | refine More.drewN ?_ _))⟩
  · rw [if_neg d1]
    by_cases d2 : clampI n 1048576 * clampI n 1048576 < nrm (nearI x) (nearI y)
    · rw [if_pos d2]
      go_enter Try.func21, Try.ntmps21
      go_wp2_with (first | (go_at_call 20; (with_reducible refine (rnorm_c _ (by (try dsimp only); omega) (by (try dsimp only); omega) (by (try dsimp only); omega) (by (try dsimp only); omega) _).mono ?_); rintro e w' ⟨rfl, r, rfl⟩) | (go_at_call 20; (with_reducible refine (rnorm_c ⟨_, _⟩ (by (try dsimp only); omega) (by (try dsimp only); omega) (by (try dsimp only); omega) (by (try dsimp only); omega) _).mono ?_); rintro e w' ⟨rfl, r, rfl⟩) | (go_at_call 36; (with_reducible refine (within_c _ _ _ _).mono ?_); rintro e w' ⟨rfl, rfl⟩) | (go_at_call 36; (with_reducible refine (within_c _ _ _ _).mono ?_); rintro e w' ⟨rfl, rfl⟩) | (go_at_call 37; (with_reducible refine (rnear_c _ (by omega) (by omega) _).mono ?_); rintro e w' ⟨rfl, rfl⟩) | ((with_reducible show Code.wp _ (Code.region 9 _ true) _ _ _); (with_reducible refine wp_more_quick_m (id := 9) ?_ ?_ ?_); kernel_rfl; kernel_rfl; (try simp only [List.take_succ_cons, List.take_zero, List.drop_succ_cons, List.drop_zero]); (repeat (any_goals (first | go_big_quiet_step ((first | (go_at_call 20; (with_reducible apply quiet_call); with_reducible exact rnorm_c _ (by (try dsimp only); omega) (by (try dsimp only); omega) (by (try dsimp only); omega) (by (try dsimp only); omega) _) | (go_at_call 20; (with_reducible apply quiet_call); with_reducible exact rnorm_c ⟨_, _⟩ (by (try dsimp only); omega) (by (try dsimp only); omega) (by (try dsimp only); omega) (by (try dsimp only); omega) _) | (go_at_call 36; (with_reducible apply quiet_call_same); with_reducible exact within_c _ _ _ _) | (go_at_call 36; (with_reducible apply quiet_call_same); with_reducible exact within_c _ _ _ _) | (go_at_call 37; (with_reducible apply quiet_call_same); with_reducible exact rnear_c _ (by omega) (by omega) _))) | quiet_step ((first | (go_at_call 20; (with_reducible apply quiet_call); with_reducible exact rnorm_c _ (by (try dsimp only); omega) (by (try dsimp only); omega) (by (try dsimp only); omega) (by (try dsimp only); omega) _) | (go_at_call 20; (with_reducible apply quiet_call); with_reducible exact rnorm_c ⟨_, _⟩ (by (try dsimp only); omega) (by (try dsimp only); omega) (by (try dsimp only); omega) (by (try dsimp only); omega) _) | (go_at_call 36; (with_reducible apply quiet_call_same); with_reducible exact within_c _ _ _ _) | (go_at_call 36; (with_reducible apply quiet_call_same); with_reducible exact within_c _ _ _ _) | (go_at_call 37; (with_reducible apply quiet_call_same); with_reducible exact rnear_c _ (by omega) (by omega) _)))))); (with_reducible refine wpQuiet_nil ?_); intro r) | ((with_reducible show Code.wp _ (Code.region 9 _ true) _ _ _); (with_reducible refine wp_more_quick (id := 9) ?_ ?_ ?_); kernel_rfl; kernel_rfl; (try simp only [List.take_succ_cons, List.take_zero, List.drop_succ_cons, List.drop_zero]); (repeat (any_goals (first | go_big_quiet_step ((first | (go_at_call 20; (with_reducible apply quiet_call); with_reducible exact rnorm_c _ (by (try dsimp only); omega) (by (try dsimp only); omega) (by (try dsimp only); omega) (by (try dsimp only); omega) _) | (go_at_call 20; (with_reducible apply quiet_call); with_reducible exact rnorm_c ⟨_, _⟩ (by (try dsimp only); omega) (by (try dsimp only); omega) (by (try dsimp only); omega) (by (try dsimp only); omega) _) | (go_at_call 36; (with_reducible apply quiet_call_same); with_reducible exact within_c _ _ _ _) | (go_at_call 36; (with_reducible apply quiet_call_same); with_reducible exact within_c _ _ _ _) | (go_at_call 37; (with_reducible apply quiet_call_same); with_reducible exact rnear_c _ (by omega) (by omega) _))) | quiet_step ((first | (go_at_call 20; (with_reducible apply quiet_call); with_reducible exact rnorm_c _ (by (try dsimp only); omega) (by (try dsimp only); omega) (by (try dsimp only); omega) (by (try dsimp only); omega) _) | (go_at_call 20; (with_reducible apply quiet_call); with_reducible exact rnorm_c ⟨_, _⟩ (by (try dsimp only); omega) (by (try dsimp only); omega) (by (try dsimp only); omega) (by (try dsimp only); omega) _) | (go_at_call 36; (with_reducible apply quiet_call_same); with_reducible exact within_c _ _ _ _) | (go_at_call 36; (with_reducible apply quiet_call_same); with_reducible exact within_c _ _ _ _) | (go_at_call 37; (with_reducible apply quiet_call_same); with_reducible exact rnear_c _ (by omega) (by omega) _)))))); (with_reducible refine wpQuiet_nil ?_); intro r))
      repeat (any_goals (first | (refine wp_loop_rounds 6 ?_) | (rw [rounds_succ]; go_wp2_with (first | (go_at_call 20; (with_reducible refine (rnorm_c _ (by (try dsimp only); omega) (by (try dsimp only); omega) (by (try dsimp only); omega) (by (try dsimp only); omega) _).mono ?_); rintro e w' ⟨rfl, r, rfl⟩) | (go_at_call 20; (with_reducible refine (rnorm_c ⟨_, _⟩ (by (try dsimp only); omega) (by (try dsimp only); omega) (by (try dsimp only); omega) (by (try dsimp only); omega) _).mono ?_); rintro e w' ⟨rfl, r, rfl⟩) | (go_at_call 36; (with_reducible refine (within_c _ _ _ _).mono ?_); rintro e w' ⟨rfl, rfl⟩) | (go_at_call 36; (with_reducible refine (within_c _ _ _ _).mono ?_); rintro e w' ⟨rfl, rfl⟩) | (go_at_call 37; (with_reducible refine (rnear_c _ (by omega) (by omega) _).mono ?_); rintro e w' ⟨rfl, rfl⟩) | ((with_reducible show Code.wp _ (Code.region 9 _ true) _ _ _); (with_reducible refine wp_more_quick_m (id := 9) ?_ ?_ ?_); kernel_rfl; kernel_rfl; (try simp only [List.take_succ_cons, List.take_zero, List.drop_succ_cons, List.drop_zero]); (repeat (any_goals (first | go_big_quiet_step ((first | (go_at_call 20; (with_reducible apply quiet_call); with_reducible exact rnorm_c _ (by (try dsimp only); omega) (by (try dsimp only); omega) (by (try dsimp only); omega) (by (try dsimp only); omega) _) | (go_at_call 20; (with_reducible apply quiet_call); with_reducible exact rnorm_c ⟨_, _⟩ (by (try dsimp only); omega) (by (try dsimp only); omega) (by (try dsimp only); omega) (by (try dsimp only); omega) _) | (go_at_call 36; (with_reducible apply quiet_call_same); with_reducible exact within_c _ _ _ _) | (go_at_call 36; (with_reducible apply quiet_call_same); with_reducible exact within_c _ _ _ _) | (go_at_call 37; (with_reducible apply quiet_call_same); with_reducible exact rnear_c _ (by omega) (by omega) _))) | quiet_step ((first | (go_at_call 20; (with_reducible apply quiet_call); with_reducible exact rnorm_c _ (by (try dsimp only); omega) (by (try dsimp only); omega) (by (try dsimp only); omega) (by (try dsimp only); omega) _) | (go_at_call 20; (with_reducible apply quiet_call); with_reducible exact rnorm_c ⟨_, _⟩ (by (try dsimp only); omega) (by (try dsimp only); omega) (by (try dsimp only); omega) (by (try dsimp only); omega) _) | (go_at_call 36; (with_reducible apply quiet_call_same); with_reducible exact within_c _ _ _ _) | (go_at_call 36; (with_reducible apply quiet_call_same); with_reducible exact within_c _ _ _ _) | (go_at_call 37; (with_reducible apply quiet_call_same); with_reducible exact rnear_c _ (by omega) (by omega) _)))))); (with_reducible refine wpQuiet_nil ?_); intro r) | ((with_reducible show Code.wp _ (Code.region 9 _ true) _ _ _); (with_reducible refine wp_more_quick (id := 9) ?_ ?_ ?_); kernel_rfl; kernel_rfl; (try simp only [List.take_succ_cons, List.take_zero, List.drop_succ_cons, List.drop_zero]); (repeat (any_goals (first | go_big_quiet_step ((first | (go_at_call 20; (with_reducible apply quiet_call); with_reducible exact rnorm_c _ (by (try dsimp only); omega) (by (try dsimp only); omega) (by (try dsimp only); omega) (by (try dsimp only); omega) _) | (go_at_call 20; (with_reducible apply quiet_call); with_reducible exact rnorm_c ⟨_, _⟩ (by (try dsimp only); omega) (by (try dsimp only); omega) (by (try dsimp only); omega) (by (try dsimp only); omega) _) | (go_at_call 36; (with_reducible apply quiet_call_same); with_reducible exact within_c _ _ _ _) | (go_at_call 36; (with_reducible apply quiet_call_same); with_reducible exact within_c _ _ _ _) | (go_at_call 37; (with_reducible apply quiet_call_same); with_reducible exact rnear_c _ (by omega) (by omega) _))) | quiet_step ((first | (go_at_call 20; (with_reducible apply quiet_call); with_reducible exact rnorm_c _ (by (try dsimp only); omega) (by (try dsimp only); omega) (by (try dsimp only); omega) (by (try dsimp only); omega) _) | (go_at_call 20; (with_reducible apply quiet_call); with_reducible exact rnorm_c ⟨_, _⟩ (by (try dsimp only); omega) (by (try dsimp only); omega) (by (try dsimp only); omega) (by (try dsimp only); omega) _) | (go_at_call 36; (with_reducible apply quiet_call_same); with_reducible exact within_c _ _ _ _) | (go_at_call 36; (with_reducible apply quiet_call_same); with_reducible exact within_c _ _ _ _) | (go_at_call 37; (with_reducible apply quiet_call_same); with_reducible exact rnear_c _ (by omega) (by omega) _)))))); (with_reducible refine wpQuiet_nil ?_); intro r)))))
      all_goals
        go_returns
        exact ⟨rfl, (by repeat (first | exact More.refl _ | refine More.alloc ?_ _ | refine More.more ?_ _ | refine More.drew ?_ | refine More.drewN ?_ _))⟩
    · rw [if_neg d2]
      go_enter Try.func21, Try.ntmps21
      go_wp2_with (first | (go_at_call 20; (with_reducible refine (rnorm_c _ (by (try dsimp only); omega) (by (try dsimp only); omega) (by (try dsimp only); omega) (by (try dsimp only); omega) _).mono ?_); rintro e w' ⟨rfl, r, rfl⟩) | (go_at_call 20; (with_reducible refine (rnorm_c ⟨_, _⟩ (by (try dsimp only); omega) (by (try dsimp only); omega) (by (try dsimp only); omega) (by (try dsimp only); omega) _).mono ?_); rintro e w' ⟨rfl, r, rfl⟩) | (go_at_call 36; (with_reducible refine (within_c _ _ _ _).mono ?_); rintro e w' ⟨rfl, rfl⟩) | (go_at_call 36; (with_reducible refine (within_c _ _ _ _).mono ?_); rintro e w' ⟨rfl, rfl⟩) | (go_at_call 37; (with_reducible refine (rnear_c _ (by omega) (by omega) _).mono ?_); rintro e w' ⟨rfl, rfl⟩) | ((with_reducible show Code.wp _ (Code.region 9 _ true) _ _ _); (with_reducible refine wp_more_quick_m (id := 9) ?_ ?_ ?_); kernel_rfl; kernel_rfl; (try simp only [List.take_succ_cons, List.take_zero, List.drop_succ_cons, List.drop_zero]); (repeat (any_goals (first | go_big_quiet_step ((first | (go_at_call 20; (with_reducible apply quiet_call); with_reducible exact rnorm_c _ (by (try dsimp only); omega) (by (try dsimp only); omega) (by (try dsimp only); omega) (by (try dsimp only); omega) _) | (go_at_call 20; (with_reducible apply quiet_call); with_reducible exact rnorm_c ⟨_, _⟩ (by (try dsimp only); omega) (by (try dsimp only); omega) (by (try dsimp only); omega) (by (try dsimp only); omega) _) | (go_at_call 36; (with_reducible apply quiet_call_same); with_reducible exact within_c _ _ _ _) | (go_at_call 36; (with_reducible apply quiet_call_same); with_reducible exact within_c _ _ _ _) | (go_at_call 37; (with_reducible apply quiet_call_same); with_reducible exact rnear_c _ (by omega) (by omega) _))) | quiet_step ((first | (go_at_call 20; (with_reducible apply quiet_call); with_reducible exact rnorm_c _ (by (try dsimp only); omega) (by (try dsimp only); omega) (by (try dsimp only); omega) (by (try dsimp only); omega) _) | (go_at_call 20; (with_reducible apply quiet_call); with_reducible exact rnorm_c ⟨_, _⟩ (by (try dsimp only); omega) (by (try dsimp only); omega) (by (try dsimp only); omega) (by (try dsimp only); omega) _) | (go_at_call 36; (with_reducible apply quiet_call_same); with_reducible exact within_c _ _ _ _) | (go_at_call 36; (with_reducible apply quiet_call_same); with_reducible exact within_c _ _ _ _) | (go_at_call 37; (with_reducible apply quiet_call_same); with_reducible exact rnear_c _ (by omega) (by omega) _)))))); (with_reducible refine wpQuiet_nil ?_); intro r) | ((with_reducible show Code.wp _ (Code.region 9 _ true) _ _ _); (with_reducible refine wp_more_quick (id := 9) ?_ ?_ ?_); kernel_rfl; kernel_rfl; (try simp only [List.take_succ_cons, List.take_zero, List.drop_succ_cons, List.drop_zero]); (repeat (any_goals (first | go_big_quiet_step ((first | (go_at_call 20; (with_reducible apply quiet_call); with_reducible exact rnorm_c _ (by (try dsimp only); omega) (by (try dsimp only); omega) (by (try dsimp only); omega) (by (try dsimp only); omega) _) | (go_at_call 20; (with_reducible apply quiet_call); with_reducible exact rnorm_c ⟨_, _⟩ (by (try dsimp only); omega) (by (try dsimp only); omega) (by (try dsimp only); omega) (by (try dsimp only); omega) _) | (go_at_call 36; (with_reducible apply quiet_call_same); with_reducible exact within_c _ _ _ _) | (go_at_call 36; (with_reducible apply quiet_call_same); with_reducible exact within_c _ _ _ _) | (go_at_call 37; (with_reducible apply quiet_call_same); with_reducible exact rnear_c _ (by omega) (by omega) _))) | quiet_step ((first | (go_at_call 20; (with_reducible apply quiet_call); with_reducible exact rnorm_c _ (by (try dsimp only); omega) (by (try dsimp only); omega) (by (try dsimp only); omega) (by (try dsimp only); omega) _) | (go_at_call 20; (with_reducible apply quiet_call); with_reducible exact rnorm_c ⟨_, _⟩ (by (try dsimp only); omega) (by (try dsimp only); omega) (by (try dsimp only); omega) (by (try dsimp only); omega) _) | (go_at_call 36; (with_reducible apply quiet_call_same); with_reducible exact within_c _ _ _ _) | (go_at_call 36; (with_reducible apply quiet_call_same); with_reducible exact within_c _ _ _ _) | (go_at_call 37; (with_reducible apply quiet_call_same); with_reducible exact rnear_c _ (by omega) (by omega) _)))))); (with_reducible refine wpQuiet_nil ?_); intro r))
      repeat (any_goals (first | (refine wp_loop_rounds 6 ?_) | (rw [rounds_succ]; go_wp2_with (first | (go_at_call 20; (with_reducible refine (rnorm_c _ (by (try dsimp only); omega) (by (try dsimp only); omega) (by (try dsimp only); omega) (by (try dsimp only); omega) _).mono ?_); rintro e w' ⟨rfl, r, rfl⟩) | (go_at_call 20; (with_reducible refine (rnorm_c ⟨_, _⟩ (by (try dsimp only); omega) (by (try dsimp only); omega) (by (try dsimp only); omega) (by (try dsimp only); omega) _).mono ?_); rintro e w' ⟨rfl, r, rfl⟩) | (go_at_call 36; (with_reducible refine (within_c _ _ _ _).mono ?_); rintro e w' ⟨rfl, rfl⟩) | (go_at_call 36; (with_reducible refine (within_c _ _ _ _).mono ?_); rintro e w' ⟨rfl, rfl⟩) | (go_at_call 37; (with_reducible refine (rnear_c _ (by omega) (by omega) _).mono ?_); rintro e w' ⟨rfl, rfl⟩) | ((with_reducible show Code.wp _ (Code.region 9 _ true) _ _ _); (with_reducible refine wp_more_quick_m (id := 9) ?_ ?_ ?_); kernel_rfl; kernel_rfl; (try simp only [List.take_succ_cons, List.take_zero, List.drop_succ_cons, List.drop_zero]); (repeat (any_goals (first | go_big_quiet_step ((first | (go_at_call 20; (with_reducible apply quiet_call); with_reducible exact rnorm_c _ (by (try dsimp only); omega) (by (try dsimp only); omega) (by (try dsimp only); omega) (by (try dsimp only); omega) _) | (go_at_call 20; (with_reducible apply quiet_call); with_reducible exact rnorm_c ⟨_, _⟩ (by (try dsimp only); omega) (by (try dsimp only); omega) (by (try dsimp only); omega) (by (try dsimp only); omega) _) | (go_at_call 36; (with_reducible apply quiet_call_same); with_reducible exact within_c _ _ _ _) | (go_at_call 36; (with_reducible apply quiet_call_same); with_reducible exact within_c _ _ _ _) | (go_at_call 37; (with_reducible apply quiet_call_same); with_reducible exact rnear_c _ (by omega) (by omega) _))) | quiet_step ((first | (go_at_call 20; (with_reducible apply quiet_call); with_reducible exact rnorm_c _ (by (try dsimp only); omega) (by (try dsimp only); omega) (by (try dsimp only); omega) (by (try dsimp only); omega) _) | (go_at_call 20; (with_reducible apply quiet_call); with_reducible exact rnorm_c ⟨_, _⟩ (by (try dsimp only); omega) (by (try dsimp only); omega) (by (try dsimp only); omega) (by (try dsimp only); omega) _) | (go_at_call 36; (with_reducible apply quiet_call_same); with_reducible exact within_c _ _ _ _) | (go_at_call 36; (with_reducible apply quiet_call_same); with_reducible exact within_c _ _ _ _) | (go_at_call 37; (with_reducible apply quiet_call_same); with_reducible exact rnear_c _ (by omega) (by omega) _)))))); (with_reducible refine wpQuiet_nil ?_); intro r) | ((with_reducible show Code.wp _ (Code.region 9 _ true) _ _ _); (with_reducible refine wp_more_quick (id := 9) ?_ ?_ ?_); kernel_rfl; kernel_rfl; (try simp only [List.take_succ_cons, List.take_zero, List.drop_succ_cons, List.drop_zero]); (repeat (any_goals (first | go_big_quiet_step ((first | (go_at_call 20; (with_reducible apply quiet_call); with_reducible exact rnorm_c _ (by (try dsimp only); omega) (by (try dsimp only); omega) (by (try dsimp only); omega) (by (try dsimp only); omega) _) | (go_at_call 20; (with_reducible apply quiet_call); with_reducible exact rnorm_c ⟨_, _⟩ (by (try dsimp only); omega) (by (try dsimp only); omega) (by (try dsimp only); omega) (by (try dsimp only); omega) _) | (go_at_call 36; (with_reducible apply quiet_call_same); with_reducible exact within_c _ _ _ _) | (go_at_call 36; (with_reducible apply quiet_call_same); with_reducible exact within_c _ _ _ _) | (go_at_call 37; (with_reducible apply quiet_call_same); with_reducible exact rnear_c _ (by omega) (by omega) _))) | quiet_step ((first | (go_at_call 20; (with_reducible apply quiet_call); with_reducible exact rnorm_c _ (by (try dsimp only); omega) (by (try dsimp only); omega) (by (try dsimp only); omega) (by (try dsimp only); omega) _) | (go_at_call 20; (with_reducible apply quiet_call); with_reducible exact rnorm_c ⟨_, _⟩ (by (try dsimp only); omega) (by (try dsimp only); omega) (by (try dsimp only); omega) (by (try dsimp only); omega) _) | (go_at_call 36; (with_reducible apply quiet_call_same); with_reducible exact within_c _ _ _ _) | (go_at_call 36; (with_reducible apply quiet_call_same); with_reducible exact within_c _ _ _ _) | (go_at_call 37; (with_reducible apply quiet_call_same); with_reducible exact rnear_c _ (by omega) (by omega) _)))))); (with_reducible refine wpQuiet_nil ?_); intro r)))))
      all_goals
        go_returns
        exact ⟨rfl, (by repeat (first | exact More.refl _ | refine More.alloc ?_ _ | refine More.more ?_ _ | refine More.drew ?_ | refine More.drewN ?_ _))⟩

end Go.Proofs.Ytnkiikdlmlaklaa

