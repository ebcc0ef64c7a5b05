/-
  QuadRoots: of k (t - p) (t - q), p below q, q not 0, the root that is told is p; where its numbers are intervals p lies in the answer. No condition.
-/
import Derived.Test.YthodlkiedhkbgaaRows
import Derived.Test.YthodlkiedhkbgaaQuad
import Derived.Test.YthodlkiedhkbgaaIvMath5
import Derived.Test.YthodlkiedhkbgaaReg5
import Derived.WalkKit
import Derived.ProofKit
import Derived.OpenShut
namespace Go.Proofs.Ythodlkiedhkbgaa.quadRoots
open Go.ChangeShapes Go.WideShapes Go.ChangeAt Go.RowKit
set_option linter.unusedVariables false      -- a walk need not use every 'w<i>' (that an integer argument fits its kind)

theorem own : ownKnob Try.prog.godebug = none := by kernel_rfl

def rootsOk (p q k : Int) : Bool :=
  qIs (ivWhole (2 * k)) (ivWhole (-k * (p + q))) (ivWhole (2 * k * p * q)) == (if q == 0 then 0 else 1) &&
    (q == 0 || ivHas (qNear (ivWhole (2 * k)) (ivWhole (-k * (p + q))) (ivWhole (2 * k * p * q))) (p * 65536))
theorem roots_all : ∀ p : Fin 13, ∀ q : Fin 6, ∀ k : Fin 2, rootsOk ((p.val : Int) - 6) ((p.val : Int) - 6 + 1 + (q.val : Int)) (1 + (k.val : Int)) = true := by decide +kernel
theorem roots_known {p q k : Int} (hp : -6 ≤ p ∧ p ≤ 6) (hq : p + 1 ≤ q ∧ q ≤ p + 6) (hk : 1 ≤ k ∧ k ≤ 2) : rootsOk p q k = true := by
  have h := roots_all ⟨(p + 6).toNat, by omega⟩ ⟨(q - p - 1).toNat, by omega⟩ ⟨(k - 1).toNat, by omega⟩
  dsimp only at h
  rw [show (((p + 6).toNat : Nat) : Int) - 6 = p by omega, show p + 1 + (((q - p - 1).toNat : Nat) : Int) = q by omega, show 1 + (((k - 1).toNat : Nat) : Int) = k by omega] at h
  exact h
theorem wide_has {a n : Int} (ha : -16000 ≤ a ∧ a ≤ 16000) (hn : 0 ≤ n ∧ n < 20) : (hWide (a * 65536 - n) 20).lo ≤ a * 65536 ∧ a * 65536 ≤ (hWide (a * 65536 - n) 20).hi := by
  unfold hWide within
  dsimp only
  omega
theorem whole_form {n : Int} (h : -16384 ≤ n ∧ n ≤ 16384) : ivWhole n = ⟨n * 65536, n * 65536, false⟩ := by
  unfold ivWhole
  rw [if_pos (isIn_iff.2 (by omega))]
  exact point_form (by omega)
theorem roots_mk {p q k m n : Int} (hp : -6 ≤ p ∧ p ≤ 6) (hq : p + 1 ≤ q ∧ q ≤ p + 6) (hk : 1 ≤ k ∧ k ≤ 2) (hm : 0 ≤ m ∧ m < 20) (hn : 0 ≤ n ∧ n < 20) {s v : Int} (hs : -k * (p + q) = s) (hv : 2 * k * p * q = v) (bs : -36 ≤ s ∧ s ≤ 36) (bv : -288 ≤ v ∧ v ≤ 288) :
    ((q = 0 ∧ qIs (ivWhole (2 * k)) (ivWhole s) (ivWhole v) = 0) ∨ (q ≠ 0 ∧ qIs (ivWhole (2 * k)) (ivWhole s) (ivWhole v) = 1 ∧ ivHas (qNear (ivWhole (2 * k)) (ivWhole s) (ivWhole v)) (p * 65536) = true)) ∧
    ((qIs (hWide (2 * k * 65536 - m) 20) (hWide (s * 65536 - n) 20) (ivWhole v) = 1 ∧ ivHas (qNear (hWide (2 * k * 65536 - m) 20) (hWide (s * 65536 - n) 20) (ivWhole v)) (p * 65536) = true) ∨
      qIs (hWide (2 * k * 65536 - m) 20) (hWide (s * 65536 - n) 20) (ivWhole v) = 0) := by
  constructor
  · have h := roots_known hp hq hk
    unfold rootsOk at h
    rw [hs, hv] at h
    simp only [Bool.and_eq_true, beq_iff_eq, Bool.or_eq_true] at h
    obtain ⟨h1, h2⟩ := h
    by_cases h0 : q = 0
    · rw [if_pos h0] at h1
      exact .inl ⟨h0, h1⟩
    · rw [if_neg h0] at h1
      exact .inr ⟨h0, h1, h2.resolve_left h0⟩
  · have e := whole_form (n := v) (by omega)
    have hr : k * (q - p) * 65536 * (k * (q - p) * 65536) = s * 65536 * (s * 65536) - 2 * k * 65536 * (v * 65536) := by
      subst hs hv
      grind
    have hc : v * 65536 * 65536 = p * 65536 * (k * (q - p) * 65536 - s * 65536) := by
      subst hs hv
      grind
    have h0 : 0 ≤ k * (q - p) * 65536 := by
      have := Int.mul_nonneg (show 0 ≤ k by omega) (show 0 ≤ q - p by omega)
      omega
    have f := near_whole (x := hWide (2 * k * 65536 - m) 20) (y := hWide (s * 65536 - n) 20) (z := ivWhole v) (wide_has (by omega) hm) (wide_has (by omega) hn) (by rw [e]; exact ⟨Int.le_refl _, Int.le_refl _⟩) h0 hr hc
    rcases quad_cases (hWide (2 * k * 65536 - m) 20) (hWide (s * 65536 - n) 20) (ivWhole v) with ⟨g, -⟩ | ⟨g, -⟩ | ⟨g, -⟩
    · exact .inl ⟨g, f.2 g⟩
    · exact absurd g f.1
    · exact .inr g

set_option maxRecDepth 100000 in
set_option maxHeartbeats 16000000 in
theorem walk (a0 : Int) (a1 : Int) (a2 : Int) (a3 : Int) (a4 : Int) (w0 : (Lit.int .i64 a0).wf = true) (w1 : (Lit.int .i64 a1).wf = true) (w2 : (Lit.int .i64 a2).wf = true) (w3 : (Lit.int .i64 a3).wf = true) (w4 : (Lit.int .i64 a4).wf = true) (w : World) :
    Calls Try.prog 5 #[.int .i64 a0, .int .i64 a1, .int .i64 a2, .int .i64 a3, .int .i64 a4] w fun e w' => e = .returned (.bool true) ∧ More w w' := by
  have b0 := bounds_i64 w0
  have b1 := bounds_i64 w1
  have b2 := bounds_i64 w2
  have b3 := bounds_i64 w3
  have b4 := bounds_i64 w4
  clear w0 w1 w2 w3 w4
  have p0 := Int.emod_nonneg a0 (show (13 : Int) ≠ 0 by omega)
  have p1 := Int.emod_lt_of_pos a0 (show (0 : Int) < 13 by omega)
  have q0 := Int.emod_nonneg a1 (show (6 : Int) ≠ 0 by omega)
  have q1 := Int.emod_lt_of_pos a1 (show (0 : Int) < 6 by omega)
  have k0 := Int.emod_nonneg a2 (show (2 : Int) ≠ 0 by omega)
  have k1 := Int.emod_lt_of_pos a2 (show (0 : Int) < 2 by omega)
  have m0 := Int.emod_nonneg a3 (show (20 : Int) ≠ 0 by omega)
  have m1 := Int.emod_lt_of_pos a3 (show (0 : Int) < 20 by omega)
  have n0 := Int.emod_nonneg a4 (show (20 : Int) ≠ 0 by omega)
  have n1 := Int.emod_lt_of_pos a4 (show (0 : Int) < 20 by omega)
  obtain ⟨p, hp⟩ : ∃ p, a0 % 13 - 6 = p := ⟨_, rfl⟩
  obtain ⟨q, hq⟩ : ∃ q, p + 1 + a1 % 6 = q := ⟨_, rfl⟩
  obtain ⟨k, hk⟩ : ∃ k, 1 + a2 % 2 = k := ⟨_, rfl⟩
  have s0 := mul_bd (A := 2) (B := 18) (a := -k) (b := p + q) (by omega) (by omega)
  have s1 := mul_bd (A := 4) (B := 6) (a := 2 * k) (b := p) (by omega) (by omega)
  have s2 := mul_bd (A := 24) (B := 12) (a := 2 * k * p) (b := q) (by omega) (by omega)
  obtain ⟨s, hs⟩ : ∃ s, -k * (p + q) = s := ⟨_, rfl⟩
  obtain ⟨v, hv⟩ : ∃ v, 2 * k * p * q = v := ⟨_, rfl⟩
  obtain ⟨f1, f2⟩ := roots_mk (p := p) (q := q) (k := k) (m := a3 % 20) (n := a4 % 20) (by omega) (by omega) (by omega) ⟨m0, m1⟩ ⟨n0, n1⟩ hs hv (by omega) (by omega)
  rcases f1 with ⟨e1, e2⟩ | ⟨e1, e2, e3⟩
  · subst e1
    rw [Int.add_zero] at hs s0
    rw [Int.mul_zero] at hv
    subst hv
    clear s2
    rcases f2 with ⟨g1, g2⟩ | g1
    all_goals
      go_enter Try.func5, Try.ntmps5
      go_wp2_with (first | (go_at_call 8; (with_reducible refine (near_c _ _ _ _).mono ?_); rintro e w' ⟨rfl, r, rfl⟩) | (go_at_call 8; (with_reducible refine (near_c ⟨_, _, _⟩ ⟨_, _, _⟩ ⟨_, _, _⟩ _).mono ?_); rintro e w' ⟨rfl, r, rfl⟩) | (go_at_call 9; (with_reducible refine (whole_c _ _).mono ?_); rintro e w' ⟨rfl, r, rfl⟩) | (go_at_call 12; (with_reducible refine (known6_c _).mono ?_); rintro e w' ⟨rfl, r, rfl⟩) | (go_at_call 16; (with_reducible refine (pick_c _ _ (by omega) (by omega) (by omega) (by omega) _).mono ?_); rintro e w' ⟨rfl, rfl⟩) | (go_at_call 17; (with_reducible refine (hwide_c _ _ (by omega) (by omega) _).mono ?_); rintro e w' ⟨rfl, r, rfl⟩) | (go_at_call 18; (with_reducible refine (has_c _ _ _).mono ?_); rintro e w' ⟨rfl, r, rfl⟩) | (go_at_call 18; (with_reducible refine (has_c ⟨_, _, _⟩ _ _).mono ?_); rintro e w' ⟨rfl, r, rfl⟩) | ((with_reducible show Code.wp _ (Code.region 8 _ true) _ _ _); (with_reducible apply wp_more_late_m (id := 8) 24 23 16 [22]); kernel_rfl; kernel_rfl; kernel_rfl; (intro _ _ _ _ _ h; exact h); rfl; decide; rfl; (intro _ _; go_simp; rfl); intro x; (try simp only [List.append_eq, List.cons_append, List.nil_append]); (simp only [List.take_succ_cons, List.take_zero, List.drop_succ_cons, List.drop_zero, skipAt, Nat.reduceAdd, Nat.reduceEqDiff, reduceIte, Nat.zero_add]); (repeat (any_goals (first | go_big_quiet_step ((first | (go_at_call 8; (with_reducible apply quiet_up); with_reducible exact near_c _ _ _ _) | (go_at_call 8; (with_reducible apply quiet_up); with_reducible exact near_c ⟨_, _, _⟩ ⟨_, _, _⟩ ⟨_, _, _⟩ _) | (go_at_call 9; (with_reducible apply quiet_up); with_reducible exact whole_c _ _) | (go_at_call 12; (with_reducible apply quiet_up); with_reducible exact known6_c _) | (go_at_call 16; (with_reducible apply quiet_up_same); with_reducible exact pick_c _ _ (by omega) (by omega) (by omega) (by omega) _) | (go_at_call 17; (with_reducible apply quiet_up); with_reducible exact hwide_c _ _ (by omega) (by omega) _) | (go_at_call 18; (with_reducible apply quiet_up_b); (with_reducible exact has_c _ _ _); with_reducible assumption) | (go_at_call 18; (with_reducible apply quiet_up); with_reducible exact has_c _ _ _) | (go_at_call 18; (with_reducible apply quiet_up_b); (with_reducible exact has_c ⟨_, _, _⟩ _ _); with_reducible assumption) | (go_at_call 18; (with_reducible apply quiet_up); with_reducible exact has_c ⟨_, _, _⟩ _ _))) | quiet_step ((first | (go_at_call 8; (with_reducible apply quiet_up); with_reducible exact near_c _ _ _ _) | (go_at_call 8; (with_reducible apply quiet_up); with_reducible exact near_c ⟨_, _, _⟩ ⟨_, _, _⟩ ⟨_, _, _⟩ _) | (go_at_call 9; (with_reducible apply quiet_up); with_reducible exact whole_c _ _) | (go_at_call 12; (with_reducible apply quiet_up); with_reducible exact known6_c _) | (go_at_call 16; (with_reducible apply quiet_up_same); with_reducible exact pick_c _ _ (by omega) (by omega) (by omega) (by omega) _) | (go_at_call 17; (with_reducible apply quiet_up); with_reducible exact hwide_c _ _ (by omega) (by omega) _) | (go_at_call 18; (with_reducible apply quiet_up_b); (with_reducible exact has_c _ _ _); with_reducible assumption) | (go_at_call 18; (with_reducible apply quiet_up); with_reducible exact has_c _ _ _) | (go_at_call 18; (with_reducible apply quiet_up_b); (with_reducible exact has_c ⟨_, _, _⟩ _ _); with_reducible assumption) | (go_at_call 18; (with_reducible apply quiet_up); with_reducible exact has_c ⟨_, _, _⟩ _ _)))))); (with_reducible refine wpQuiet_nil ?_); intro r1 r2) | ((with_reducible show Code.wp _ (Code.region 8 _ true) _ _ _); (with_reducible apply wp_more_late (id := 8) 24 23 16 [22]); kernel_rfl; kernel_rfl; kernel_rfl; (intro _ _ _ _ _ h; exact h); rfl; decide; rfl; (intro _ _; go_simp; rfl); intro x; (try simp only [List.append_eq, List.cons_append, List.nil_append]); (simp only [List.take_succ_cons, List.take_zero, List.drop_succ_cons, List.drop_zero, skipAt, Nat.reduceAdd, Nat.reduceEqDiff, reduceIte, Nat.zero_add]); (repeat (any_goals (first | go_big_quiet_step ((first | (go_at_call 8; (with_reducible apply quiet_up); with_reducible exact near_c _ _ _ _) | (go_at_call 8; (with_reducible apply quiet_up); with_reducible exact near_c ⟨_, _, _⟩ ⟨_, _, _⟩ ⟨_, _, _⟩ _) | (go_at_call 9; (with_reducible apply quiet_up); with_reducible exact whole_c _ _) | (go_at_call 12; (with_reducible apply quiet_up); with_reducible exact known6_c _) | (go_at_call 16; (with_reducible apply quiet_up_same); with_reducible exact pick_c _ _ (by omega) (by omega) (by omega) (by omega) _) | (go_at_call 17; (with_reducible apply quiet_up); with_reducible exact hwide_c _ _ (by omega) (by omega) _) | (go_at_call 18; (with_reducible apply quiet_up_b); (with_reducible exact has_c _ _ _); with_reducible assumption) | (go_at_call 18; (with_reducible apply quiet_up); with_reducible exact has_c _ _ _) | (go_at_call 18; (with_reducible apply quiet_up_b); (with_reducible exact has_c ⟨_, _, _⟩ _ _); with_reducible assumption) | (go_at_call 18; (with_reducible apply quiet_up); with_reducible exact has_c ⟨_, _, _⟩ _ _))) | quiet_step ((first | (go_at_call 8; (with_reducible apply quiet_up); with_reducible exact near_c _ _ _ _) | (go_at_call 8; (with_reducible apply quiet_up); with_reducible exact near_c ⟨_, _, _⟩ ⟨_, _, _⟩ ⟨_, _, _⟩ _) | (go_at_call 9; (with_reducible apply quiet_up); with_reducible exact whole_c _ _) | (go_at_call 12; (with_reducible apply quiet_up); with_reducible exact known6_c _) | (go_at_call 16; (with_reducible apply quiet_up_same); with_reducible exact pick_c _ _ (by omega) (by omega) (by omega) (by omega) _) | (go_at_call 17; (with_reducible apply quiet_up); with_reducible exact hwide_c _ _ (by omega) (by omega) _) | (go_at_call 18; (with_reducible apply quiet_up_b); (with_reducible exact has_c _ _ _); with_reducible assumption) | (go_at_call 18; (with_reducible apply quiet_up); with_reducible exact has_c _ _ _) | (go_at_call 18; (with_reducible apply quiet_up_b); (with_reducible exact has_c ⟨_, _, _⟩ _ _); with_reducible assumption) | (go_at_call 18; (with_reducible apply quiet_up); with_reducible exact has_c ⟨_, _, _⟩ _ _)))))); (with_reducible refine wpQuiet_nil ?_); intro r1 r2))
      go_returns
      exact ⟨rfl, (by repeat (first | exact More.refl _ | refine More.alloc ?_ _ | refine More.more ?_ _ | refine More.drew ?_ | refine More.drewN ?_ _))⟩
  · have e4 : (q != 0) = true := by simpa using e1
    rcases f2 with ⟨g1, g2⟩ | g1
    all_goals
      go_enter Try.func5, Try.ntmps5
      go_wp2_with (first | (go_at_call 8; (with_reducible refine (near_c _ _ _ _).mono ?_); rintro e w' ⟨rfl, r, rfl⟩) | (go_at_call 8; (with_reducible refine (near_c ⟨_, _, _⟩ ⟨_, _, _⟩ ⟨_, _, _⟩ _).mono ?_); rintro e w' ⟨rfl, r, rfl⟩) | (go_at_call 9; (with_reducible refine (whole_c _ _).mono ?_); rintro e w' ⟨rfl, r, rfl⟩) | (go_at_call 12; (with_reducible refine (known6_c _).mono ?_); rintro e w' ⟨rfl, r, rfl⟩) | (go_at_call 16; (with_reducible refine (pick_c _ _ (by omega) (by omega) (by omega) (by omega) _).mono ?_); rintro e w' ⟨rfl, rfl⟩) | (go_at_call 17; (with_reducible refine (hwide_c _ _ (by omega) (by omega) _).mono ?_); rintro e w' ⟨rfl, r, rfl⟩) | (go_at_call 18; (with_reducible refine (has_c _ _ _).mono ?_); rintro e w' ⟨rfl, r, rfl⟩) | (go_at_call 18; (with_reducible refine (has_c ⟨_, _, _⟩ _ _).mono ?_); rintro e w' ⟨rfl, r, rfl⟩) | ((with_reducible show Code.wp _ (Code.region 8 _ true) _ _ _); (with_reducible apply wp_more_late_m (id := 8) 24 23 16 [22]); kernel_rfl; kernel_rfl; kernel_rfl; (intro _ _ _ _ _ h; exact h); rfl; decide; rfl; (intro _ _; go_simp; rfl); intro x; (try simp only [List.append_eq, List.cons_append, List.nil_append]); (simp only [List.take_succ_cons, List.take_zero, List.drop_succ_cons, List.drop_zero, skipAt, Nat.reduceAdd, Nat.reduceEqDiff, reduceIte, Nat.zero_add]); (repeat (any_goals (first | go_big_quiet_step ((first | (go_at_call 8; (with_reducible apply quiet_up); with_reducible exact near_c _ _ _ _) | (go_at_call 8; (with_reducible apply quiet_up); with_reducible exact near_c ⟨_, _, _⟩ ⟨_, _, _⟩ ⟨_, _, _⟩ _) | (go_at_call 9; (with_reducible apply quiet_up); with_reducible exact whole_c _ _) | (go_at_call 12; (with_reducible apply quiet_up); with_reducible exact known6_c _) | (go_at_call 16; (with_reducible apply quiet_up_same); with_reducible exact pick_c _ _ (by omega) (by omega) (by omega) (by omega) _) | (go_at_call 17; (with_reducible apply quiet_up); with_reducible exact hwide_c _ _ (by omega) (by omega) _) | (go_at_call 18; (with_reducible apply quiet_up_b); (with_reducible exact has_c _ _ _); with_reducible assumption) | (go_at_call 18; (with_reducible apply quiet_up); with_reducible exact has_c _ _ _) | (go_at_call 18; (with_reducible apply quiet_up_b); (with_reducible exact has_c ⟨_, _, _⟩ _ _); with_reducible assumption) | (go_at_call 18; (with_reducible apply quiet_up); with_reducible exact has_c ⟨_, _, _⟩ _ _))) | quiet_step ((first | (go_at_call 8; (with_reducible apply quiet_up); with_reducible exact near_c _ _ _ _) | (go_at_call 8; (with_reducible apply quiet_up); with_reducible exact near_c ⟨_, _, _⟩ ⟨_, _, _⟩ ⟨_, _, _⟩ _) | (go_at_call 9; (with_reducible apply quiet_up); with_reducible exact whole_c _ _) | (go_at_call 12; (with_reducible apply quiet_up); with_reducible exact known6_c _) | (go_at_call 16; (with_reducible apply quiet_up_same); with_reducible exact pick_c _ _ (by omega) (by omega) (by omega) (by omega) _) | (go_at_call 17; (with_reducible apply quiet_up); with_reducible exact hwide_c _ _ (by omega) (by omega) _) | (go_at_call 18; (with_reducible apply quiet_up_b); (with_reducible exact has_c _ _ _); with_reducible assumption) | (go_at_call 18; (with_reducible apply quiet_up); with_reducible exact has_c _ _ _) | (go_at_call 18; (with_reducible apply quiet_up_b); (with_reducible exact has_c ⟨_, _, _⟩ _ _); with_reducible assumption) | (go_at_call 18; (with_reducible apply quiet_up); with_reducible exact has_c ⟨_, _, _⟩ _ _)))))); (with_reducible refine wpQuiet_nil ?_); intro r1 r2) | ((with_reducible show Code.wp _ (Code.region 8 _ true) _ _ _); (with_reducible apply wp_more_late (id := 8) 24 23 16 [22]); kernel_rfl; kernel_rfl; kernel_rfl; (intro _ _ _ _ _ h; exact h); rfl; decide; rfl; (intro _ _; go_simp; rfl); intro x; (try simp only [List.append_eq, List.cons_append, List.nil_append]); (simp only [List.take_succ_cons, List.take_zero, List.drop_succ_cons, List.drop_zero, skipAt, Nat.reduceAdd, Nat.reduceEqDiff, reduceIte, Nat.zero_add]); (repeat (any_goals (first | go_big_quiet_step ((first | (go_at_call 8; (with_reducible apply quiet_up); with_reducible exact near_c _ _ _ _) | (go_at_call 8; (with_reducible apply quiet_up); with_reducible exact near_c ⟨_, _, _⟩ ⟨_, _, _⟩ ⟨_, _, _⟩ _) | (go_at_call 9; (with_reducible apply quiet_up); with_reducible exact whole_c _ _) | (go_at_call 12; (with_reducible apply quiet_up); with_reducible exact known6_c _) | (go_at_call 16; (with_reducible apply quiet_up_same); with_reducible exact pick_c _ _ (by omega) (by omega) (by omega) (by omega) _) | (go_at_call 17; (with_reducible apply quiet_up); with_reducible exact hwide_c _ _ (by omega) (by omega) _) | (go_at_call 18; (with_reducible apply quiet_up_b); (with_reducible exact has_c _ _ _); with_reducible assumption) | (go_at_call 18; (with_reducible apply quiet_up); with_reducible exact has_c _ _ _) | (go_at_call 18; (with_reducible apply quiet_up_b); (with_reducible exact has_c ⟨_, _, _⟩ _ _); with_reducible assumption) | (go_at_call 18; (with_reducible apply quiet_up); with_reducible exact has_c ⟨_, _, _⟩ _ _))) | quiet_step ((first | (go_at_call 8; (with_reducible apply quiet_up); with_reducible exact near_c _ _ _ _) | (go_at_call 8; (with_reducible apply quiet_up); with_reducible exact near_c ⟨_, _, _⟩ ⟨_, _, _⟩ ⟨_, _, _⟩ _) | (go_at_call 9; (with_reducible apply quiet_up); with_reducible exact whole_c _ _) | (go_at_call 12; (with_reducible apply quiet_up); with_reducible exact known6_c _) | (go_at_call 16; (with_reducible apply quiet_up_same); with_reducible exact pick_c _ _ (by omega) (by omega) (by omega) (by omega) _) | (go_at_call 17; (with_reducible apply quiet_up); with_reducible exact hwide_c _ _ (by omega) (by omega) _) | (go_at_call 18; (with_reducible apply quiet_up_b); (with_reducible exact has_c _ _ _); with_reducible assumption) | (go_at_call 18; (with_reducible apply quiet_up); with_reducible exact has_c _ _ _) | (go_at_call 18; (with_reducible apply quiet_up_b); (with_reducible exact has_c ⟨_, _, _⟩ _ _); with_reducible assumption) | (go_at_call 18; (with_reducible apply quiet_up); with_reducible exact has_c ⟨_, _, _⟩ _ _)))))); (with_reducible refine wpQuiet_nil ?_); intro r1 r2))
      go_returns
      exact ⟨rfl, (by repeat (first | exact More.refl _ | refine More.alloc ?_ _ | refine More.more ?_ _ | refine More.drew ?_ | refine More.drewN ?_ _))⟩

set_option maxRecDepth 100000 in
theorem lifted (os : Os) (started : os.Started) (H : Type) (enc : TypeId × Value → H) :
    ReturnsInHanded {} Try.checked os 5 .any (Rows.quadRootsSpec.pre6 enc Try.prog Try.f5 Rows.quadRootsRow.domain false) (Rows.quadRootsSpec.post enc Try.prog Try.f5 false true false false) := by
  refine returnsInHanded_of_change (C := Try.checked) own started (by kernel_rfl) Try.func5
    (ChangeSpec.witness6 (enc := enc) (C := Try.checked) false ⟨#[], #[.int .i64 0, .int .i64 0, .int .i64 0, .int .i64 0, .int .i64 0], []⟩ 8 (by kernel_rfl) (by kernel_rfl) (by kernel_rfl) (by kernel_rfl)) ?_
  intro W base args ds gs before hval0 hW hcnd _
  have hval : ∀ (j : Nat) t v, Try.f5.params[j]? = some t → args[j]? = some v → Value.okWide Try.prog W .any base t v := hval0
  have hW' := hW
  obtain ⟨p, q, hA0, hV, rfl, hfz, hnd⟩ := hW
  have hA : DataW.TrodAll enc Try.prog W 0 (fun _ => true) true Try.f5.params.toList args.toList ds p := hA0
  rw [Try.params5] at hA hval
  obtain ⟨v0, vs0, d0, ds0, p0, q0, hargs, rfl, rfl, h0, r0⟩ := trodAll_cons hA
  obtain ⟨v1, vs1, d1, ds1, p1, q1, rfl, rfl, rfl, h1, r1⟩ := trodAll_cons r0
  obtain ⟨v2, vs2, d2, ds2, p2, q2, rfl, rfl, rfl, h2, r2⟩ := trodAll_cons r1
  obtain ⟨v3, vs3, d3, ds3, p3, q3, rfl, rfl, rfl, h3, r3⟩ := trodAll_cons r2
  obtain ⟨v4, vs4, d4, ds4, p4, q4, rfl, rfl, rfl, h4, r4⟩ := trodAll_cons r3
  obtain ⟨rfl, rfl, rfl⟩ := trodAll_nil r4
  obtain rfl : args = #[v0, v1, v2, v3, v4] := by cases args; simp_all
  obtain ⟨rfl, rfl⟩ := trodVars_none hV
  obtain ⟨a0, rfl, rfl, rfl, w0⟩ := open_int Try.underlying3 (hval 0 3 v0 rfl rfl) h0
  obtain ⟨a1, rfl, rfl, rfl, w1⟩ := open_int Try.underlying3 (hval 1 3 v1 rfl rfl) h1
  obtain ⟨a2, rfl, rfl, rfl, w2⟩ := open_int Try.underlying3 (hval 2 3 v2 rfl rfl) h2
  obtain ⟨a3, rfl, rfl, rfl, w3⟩ := open_int Try.underlying3 (hval 3 3 v3 rfl rfl) h3
  obtain ⟨a4, rfl, rfl, rfl, w4⟩ := open_int Try.underlying3 (hval 4 3 v4 rfl rfl) h4
  clear hA0 hval0
  simp only [List.append_nil] at hW'
  refine (walk a0 a1 a2 a3 a4 w0 w1 w2 w3 w4 W).mono fun e W' ⟨he, hg⟩ => ?_
  subst he
  exact ⟨_, rfl, _, _, _, [], [], [], hW', (trodAll_cons_mk (shut_bool Try.underlying4 _) trodAll_mk0), (trodAll_cons_mk (shut_int Try.underlying3 w0) (trodAll_cons_mk (shut_int Try.underlying3 w1) (trodAll_cons_mk (shut_int Try.underlying3 w2) (trodAll_cons_mk (shut_int Try.underlying3 w3) (trodAll_cons_mk (shut_int Try.underlying3 w4) trodAll_mk0))))), rfl, hg.below.frame _, fun h => by cases h⟩

theorem over : Rows.quadRootsRow.holds Try.pinned (OpenSpec.ofChange Rows.quadRootsSpec) :=
  OpenClaim.holds_of_wide 5 Try.f5 rfl rfl rfl rfl rfl rfl rfl ⟨rfl, rfl, rfl, rfl, rfl⟩ rfl rfl rfl rfl rfl (by kernel_rfl) Try.func5 (by kernel_rfl)
    (of_decide_eq_true (by kernel_rfl)) (by unfold Func.isWrapper; first | (rw [if_pos (by decide +kernel)]; kernel_rfl) | (rw [if_neg (by decide +kernel)]; exact ⟨rfl, rfl⟩))
    (fun os started H enc _ => lifted os started H enc)

/-- The statement. -/
theorem proved : Rows.QuadRootsSaid :=
  over
#print axioms proved
end Go.Proofs.Ythodlkiedhkbgaa.quadRoots
