/-
  NumEncloses: the true product, quotient and root lie between what is rounded down and what is rounded up, a step apart at most. No condition.
-/
import Derived.Test.YtolcafjchlkkiaaRows
import Derived.Test.YtolcafjchlkkiaaHand
import Derived.Test.YtolcafjchlkkiaaLaw
import Derived.WalkKit
import Derived.ProofKit
import Derived.OpenShut
namespace Go.Proofs.Ytolcafjchlkkiaa.numEncloses
open Go.ChangeShapes Go.WideShapes Go.ChangeAt Go.RowKit
set_option linter.unusedVariables false      -- a walk need not use every 'w<i>' (that an integer argument fits its kind)

theorem own : ownKnob Try.prog.godebug = none := by kernel_rfl

set_option maxRecDepth 100000 in
set_option maxHeartbeats 8000000 in

theorem walk (a0 : Int) (a1 : Int) (w0 : (Lit.int .i64 a0).wf = true) (w1 : (Lit.int .i64 a1).wf = true) (w : World) :
    Calls Try.prog 5 #[.int .i64 a0, .int .i64 a1] w fun e w' => e = .returned (.bool true) ∧ Grown w w' := by
  have b0 := bounds_i64 w0
  have b1 := bounds_i64 w1
  clear w0 w1
  have c0 := hnum_bd a0 b0.1 b0.2
  have c1 := hnum_bd a1 b1.1 b1.2
  have d0 := tmod_small (hnum a0)
  have d1 := tmod_small (hnum a1)
  obtain ⟨x, hx⟩ : ∃ x, (hnum a0).tmod 8388608 = x := ⟨_, rfl⟩
  obtain ⟨y, hy⟩ : ∃ y, (hnum a1).tmod 8388608 = y := ⟨_, rfl⟩
  rw [hx] at d0
  rw [hy] at d1
  have e0 := small_mul d0 d1
  obtain ⟨lo, hi, f1, f2, f3, f4, f5, f6, f7, f8, f9⟩ := prod_sides x y d0 d1
  have f10 : ((x * y).tmod 65536 == 0) = (hi == lo) := by rw [Bool.eq_iff_iff]; simpa using f9
  clear f9
  by_cases hx0 : 0 ≤ x
  · have hm : ¬ x < -x := by omega
    obtain ⟨r, s, g1, g2, g3, g4, g5, g6, g7, g8, g9⟩ := root_sides (x) ⟨by omega, by omega⟩
    have g10 := mul_bd (a := r) (b := r) (A := 8388608) (B := 8388608) (by omega) (by omega)
    have g11 := mul_bd (a := s) (b := s) (A := 8388609) (B := 8388609) (by omega) (by omega)
    have g12 : (r * r == x * 65536) = (s == r) := by rw [Bool.eq_iff_iff]; simpa using g9
    clear g9
    by_cases hc : 512 < y
    · have hn : ¬ y < -y := by omega
      obtain ⟨u, v, q1, q2, q3, q4, q5, q6, q7, q8, q9⟩ := div_sides x y d0 d1 (x * 65536) y (.inl ⟨by omega, rfl, rfl⟩) hc
      have q11 := mul_bd (a := u) (b := y) (A := 1073741824) (B := 8388608) (by omega) (by omega)
      have q12 := mul_bd (a := v) (b := y) (A := 1073741824) (B := 8388608) (by omega) (by omega)
      rw [Int.tmod_eq_emod_of_nonneg (show 0 ≤ x * 65536 by omega)] at q9
      have q10 : (x * 65536 % y == 0) = (v == u) := by rw [Bool.eq_iff_iff]; simpa using q9
      clear q9
      go_enter Try.func5, Try.ntmps5
      go_wp2_with (first | (go_at_call 7; refine (mul_c _ _ _ _).mono ?_; rintro e w' ⟨rfl, rfl⟩) | (go_at_call 8; refine (div_c _ _ _ _).mono ?_; rintro e w' ⟨rfl, rfl⟩) | (go_at_call 9; refine (root_c _ _ _).mono ?_; rintro e w' ⟨rfl, rfl⟩) | (go_at_call 11; refine (in_c _ _).mono ?_; rintro e w' ⟨rfl, rfl⟩) | (go_at_call 12; refine (floor_c _ _ _ (by omega) (by omega) (by omega)).mono ?_; rintro e w' ⟨rfl, rfl⟩) | (go_at_call 13; refine (hnum_c _ _ (by omega) (by omega)).mono ?_; rintro e w' ⟨rfl, rfl⟩) | (go_at_call 10; refine (known_c _).mono ?_; rintro e w' ⟨rfl, rfl⟩))
      go_ret
      exact ⟨rfl, Grown.refl _⟩
    · by_cases hd : y < -512
      · have hn : y < -y := by omega
        obtain ⟨u, v, q1, q2, q3, q4, q5, q6, q7, q8, q9⟩ := div_sides x y d0 d1 (-(x * 65536)) (-y) (.inr ⟨by omega, rfl, rfl⟩) (by omega)
        have q11 := mul_bd (a := u) (b := -y) (A := 1073741824) (B := 8388608) (by omega) (by omega)
        have q12 := mul_bd (a := v) (b := -y) (A := 1073741824) (B := 8388608) (by omega) (by omega)
        rw [Int.tmod_neg, Int.neg_tmod, Int.tmod_eq_emod_of_nonneg (show 0 ≤ x * 65536 by omega)] at q9
        have q10 : (-(x * 65536 % y) == 0) = (v == u) := by rw [Bool.eq_iff_iff]; simpa using q9
        clear q9
        go_enter Try.func5, Try.ntmps5
        go_wp2_with (first | (go_at_call 7; refine (mul_c _ _ _ _).mono ?_; rintro e w' ⟨rfl, rfl⟩) | (go_at_call 8; refine (div_c _ _ _ _).mono ?_; rintro e w' ⟨rfl, rfl⟩) | (go_at_call 9; refine (root_c _ _ _).mono ?_; rintro e w' ⟨rfl, rfl⟩) | (go_at_call 11; refine (in_c _ _).mono ?_; rintro e w' ⟨rfl, rfl⟩) | (go_at_call 12; refine (floor_c _ _ _ (by omega) (by omega) (by omega)).mono ?_; rintro e w' ⟨rfl, rfl⟩) | (go_at_call 13; refine (hnum_c _ _ (by omega) (by omega)).mono ?_; rintro e w' ⟨rfl, rfl⟩) | (go_at_call 10; refine (known_c _).mono ?_; rintro e w' ⟨rfl, rfl⟩))
        go_ret
        exact ⟨rfl, Grown.refl _⟩
      · by_cases hn : y < -y
        · go_enter Try.func5, Try.ntmps5
          go_wp2_with (first | (go_at_call 7; refine (mul_c _ _ _ _).mono ?_; rintro e w' ⟨rfl, rfl⟩) | (go_at_call 8; refine (div_c _ _ _ _).mono ?_; rintro e w' ⟨rfl, rfl⟩) | (go_at_call 9; refine (root_c _ _ _).mono ?_; rintro e w' ⟨rfl, rfl⟩) | (go_at_call 11; refine (in_c _ _).mono ?_; rintro e w' ⟨rfl, rfl⟩) | (go_at_call 12; refine (floor_c _ _ _ (by omega) (by omega) (by omega)).mono ?_; rintro e w' ⟨rfl, rfl⟩) | (go_at_call 13; refine (hnum_c _ _ (by omega) (by omega)).mono ?_; rintro e w' ⟨rfl, rfl⟩) | (go_at_call 10; refine (known_c _).mono ?_; rintro e w' ⟨rfl, rfl⟩))
          go_ret
          exact ⟨rfl, Grown.refl _⟩
        · go_enter Try.func5, Try.ntmps5
          go_wp2_with (first | (go_at_call 7; refine (mul_c _ _ _ _).mono ?_; rintro e w' ⟨rfl, rfl⟩) | (go_at_call 8; refine (div_c _ _ _ _).mono ?_; rintro e w' ⟨rfl, rfl⟩) | (go_at_call 9; refine (root_c _ _ _).mono ?_; rintro e w' ⟨rfl, rfl⟩) | (go_at_call 11; refine (in_c _ _).mono ?_; rintro e w' ⟨rfl, rfl⟩) | (go_at_call 12; refine (floor_c _ _ _ (by omega) (by omega) (by omega)).mono ?_; rintro e w' ⟨rfl, rfl⟩) | (go_at_call 13; refine (hnum_c _ _ (by omega) (by omega)).mono ?_; rintro e w' ⟨rfl, rfl⟩) | (go_at_call 10; refine (known_c _).mono ?_; rintro e w' ⟨rfl, rfl⟩))
          go_ret
          exact ⟨rfl, Grown.refl _⟩
  · have hm : x < -x := by omega
    obtain ⟨r, s, g1, g2, g3, g4, g5, g6, g7, g8, g9⟩ := root_sides (-x) ⟨by omega, by omega⟩
    have g10 := mul_bd (a := r) (b := r) (A := 8388608) (B := 8388608) (by omega) (by omega)
    have g11 := mul_bd (a := s) (b := s) (A := 8388609) (B := 8388609) (by omega) (by omega)
    have g12 : (r * r == -x * 65536) = (s == r) := by rw [Bool.eq_iff_iff]; simpa using g9
    clear g9
    by_cases hc : 512 < y
    · have hn : ¬ y < -y := by omega
      obtain ⟨u, v, q1, q2, q3, q4, q5, q6, q7, q8, q9⟩ := div_sides x y d0 d1 (x * 65536) y (.inl ⟨by omega, rfl, rfl⟩) hc
      have q11 := mul_bd (a := u) (b := y) (A := 1073741824) (B := 8388608) (by omega) (by omega)
      have q12 := mul_bd (a := v) (b := y) (A := 1073741824) (B := 8388608) (by omega) (by omega)
      skip
      have q10 : ((x * 65536).tmod y == 0) = (v == u) := by rw [Bool.eq_iff_iff]; simpa using q9
      clear q9
      go_enter Try.func5, Try.ntmps5
      go_wp2_with (first | (go_at_call 7; refine (mul_c _ _ _ _).mono ?_; rintro e w' ⟨rfl, rfl⟩) | (go_at_call 8; refine (div_c _ _ _ _).mono ?_; rintro e w' ⟨rfl, rfl⟩) | (go_at_call 9; refine (root_c _ _ _).mono ?_; rintro e w' ⟨rfl, rfl⟩) | (go_at_call 11; refine (in_c _ _).mono ?_; rintro e w' ⟨rfl, rfl⟩) | (go_at_call 12; refine (floor_c _ _ _ (by omega) (by omega) (by omega)).mono ?_; rintro e w' ⟨rfl, rfl⟩) | (go_at_call 13; refine (hnum_c _ _ (by omega) (by omega)).mono ?_; rintro e w' ⟨rfl, rfl⟩) | (go_at_call 10; refine (known_c _).mono ?_; rintro e w' ⟨rfl, rfl⟩))
      go_ret
      exact ⟨rfl, Grown.refl _⟩
    · by_cases hd : y < -512
      · have hn : y < -y := by omega
        obtain ⟨u, v, q1, q2, q3, q4, q5, q6, q7, q8, q9⟩ := div_sides x y d0 d1 (-(x * 65536)) (-y) (.inr ⟨by omega, rfl, rfl⟩) (by omega)
        have q11 := mul_bd (a := u) (b := -y) (A := 1073741824) (B := 8388608) (by omega) (by omega)
        have q12 := mul_bd (a := v) (b := -y) (A := 1073741824) (B := 8388608) (by omega) (by omega)
        rw [Int.tmod_neg, Int.neg_tmod] at q9
        have q10 : (-(x * 65536).tmod y == 0) = (v == u) := by rw [Bool.eq_iff_iff]; simpa using q9
        clear q9
        go_enter Try.func5, Try.ntmps5
        go_wp2_with (first | (go_at_call 7; refine (mul_c _ _ _ _).mono ?_; rintro e w' ⟨rfl, rfl⟩) | (go_at_call 8; refine (div_c _ _ _ _).mono ?_; rintro e w' ⟨rfl, rfl⟩) | (go_at_call 9; refine (root_c _ _ _).mono ?_; rintro e w' ⟨rfl, rfl⟩) | (go_at_call 11; refine (in_c _ _).mono ?_; rintro e w' ⟨rfl, rfl⟩) | (go_at_call 12; refine (floor_c _ _ _ (by omega) (by omega) (by omega)).mono ?_; rintro e w' ⟨rfl, rfl⟩) | (go_at_call 13; refine (hnum_c _ _ (by omega) (by omega)).mono ?_; rintro e w' ⟨rfl, rfl⟩) | (go_at_call 10; refine (known_c _).mono ?_; rintro e w' ⟨rfl, rfl⟩))
        go_ret
        exact ⟨rfl, Grown.refl _⟩
      · by_cases hn : y < -y
        · go_enter Try.func5, Try.ntmps5
          go_wp2_with (first | (go_at_call 7; refine (mul_c _ _ _ _).mono ?_; rintro e w' ⟨rfl, rfl⟩) | (go_at_call 8; refine (div_c _ _ _ _).mono ?_; rintro e w' ⟨rfl, rfl⟩) | (go_at_call 9; refine (root_c _ _ _).mono ?_; rintro e w' ⟨rfl, rfl⟩) | (go_at_call 11; refine (in_c _ _).mono ?_; rintro e w' ⟨rfl, rfl⟩) | (go_at_call 12; refine (floor_c _ _ _ (by omega) (by omega) (by omega)).mono ?_; rintro e w' ⟨rfl, rfl⟩) | (go_at_call 13; refine (hnum_c _ _ (by omega) (by omega)).mono ?_; rintro e w' ⟨rfl, rfl⟩) | (go_at_call 10; refine (known_c _).mono ?_; rintro e w' ⟨rfl, rfl⟩))
          go_ret
          exact ⟨rfl, Grown.refl _⟩
        · go_enter Try.func5, Try.ntmps5
          go_wp2_with (first | (go_at_call 7; refine (mul_c _ _ _ _).mono ?_; rintro e w' ⟨rfl, rfl⟩) | (go_at_call 8; refine (div_c _ _ _ _).mono ?_; rintro e w' ⟨rfl, rfl⟩) | (go_at_call 9; refine (root_c _ _ _).mono ?_; rintro e w' ⟨rfl, rfl⟩) | (go_at_call 11; refine (in_c _ _).mono ?_; rintro e w' ⟨rfl, rfl⟩) | (go_at_call 12; refine (floor_c _ _ _ (by omega) (by omega) (by omega)).mono ?_; rintro e w' ⟨rfl, rfl⟩) | (go_at_call 13; refine (hnum_c _ _ (by omega) (by omega)).mono ?_; rintro e w' ⟨rfl, rfl⟩) | (go_at_call 10; refine (known_c _).mono ?_; rintro e w' ⟨rfl, rfl⟩))
          go_ret
          exact ⟨rfl, Grown.refl _⟩

set_option maxRecDepth 100000 in
theorem lifted (os : Os) (started : os.Started) (H : Type) (enc : TypeId × Value → H) :
    ReturnsInHanded {} Try.checked os 5 .any (Rows.numEnclosesSpec.pre6 enc Try.prog Try.f5 Rows.numEnclosesRow.domain false) (Rows.numEnclosesSpec.post enc Try.prog Try.f5 false true false false) := by
  refine returnsInHanded_of_change (C := Try.checked) own started (by kernel_rfl) Try.func5
    (ChangeSpec.witness6 (enc := enc) (C := Try.checked) false ⟨#[], #[.int .i64 0, .int .i64 0], []⟩ 8 (by kernel_rfl) (by kernel_rfl) (by kernel_rfl) (by kernel_rfl)) ?_
  intro W base args ds gs before hval0 hW hcnd _
  have hval : ∀ (j : Nat) t v, Try.f5.params[j]? = some t → args[j]? = some v → Value.okWide Try.prog W .any base t v := hval0
  have hW' := hW
  obtain ⟨p, q, hA0, hV, rfl, hfz, hnd⟩ := hW
  have hA : DataW.TrodAll enc Try.prog W 0 (fun _ => true) true Try.f5.params.toList args.toList ds p := hA0
  rw [Try.params5] at hA hval
  obtain ⟨v0, vs0, d0, ds0, p0, q0, hargs, rfl, rfl, h0, r0⟩ := trodAll_cons hA
  obtain ⟨v1, vs1, d1, ds1, p1, q1, rfl, rfl, rfl, h1, r1⟩ := trodAll_cons r0
  obtain ⟨rfl, rfl, rfl⟩ := trodAll_nil r1
  obtain rfl : args = #[v0, v1] := by cases args; simp_all
  obtain ⟨rfl, rfl⟩ := trodVars_none hV
  obtain ⟨a0, rfl, rfl, rfl, w0⟩ := open_int Try.underlying3 (hval 0 3 v0 rfl rfl) h0
  obtain ⟨a1, rfl, rfl, rfl, w1⟩ := open_int Try.underlying3 (hval 1 3 v1 rfl rfl) h1
  clear hA0 hval0
  simp only [List.append_nil] at hW'
  refine (walk a0 a1 w0 w1 W).mono fun e W' ⟨he, hg⟩ => ?_
  subst he
  exact ⟨_, rfl, post_of_same (pa := []) (pv := []) hW' (fun _ _ _ => (trodAll_cons_mk (shut_bool Try.underlying4 _) trodAll_mk0)) (fun sp _ => (trodAll_cons_mk (shut_int Try.underlying3 w0) (trodAll_cons_mk (shut_int Try.underlying3 w1) trodAll_mk0))) (fun _ _ => rfl) rfl
    (hg.frame _) hg.2.1 (ok_one (by kernel_rfl) rfl (okWide_bool_mk Try.underlying4 _))⟩

theorem over : Rows.numEnclosesRow.holds Try.pinned (OpenSpec.ofChange Rows.numEnclosesSpec) :=
  OpenClaim.holds_of_wide 5 Try.f5 rfl rfl rfl rfl rfl rfl rfl ⟨rfl, rfl, rfl, rfl, rfl⟩ rfl rfl rfl rfl rfl (by kernel_rfl) Try.func5 (by kernel_rfl)
    (of_decide_eq_true (by kernel_rfl)) (by unfold Func.isWrapper; first | (rw [if_pos (by decide +kernel)]; kernel_rfl) | (rw [if_neg (by decide +kernel)]; exact ⟨rfl, rfl⟩))
    (fun os started H enc _ => lifted os started H enc)

/-- The statement. -/
theorem proved : Rows.NumEnclosesSaid :=
  over
#print axioms proved
end Go.Proofs.Ytolcafjchlkkiaa.numEncloses
