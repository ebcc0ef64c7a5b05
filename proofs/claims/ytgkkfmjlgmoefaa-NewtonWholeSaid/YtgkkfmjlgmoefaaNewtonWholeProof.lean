/-
  NewtonWhole: a line with a whole zero is solved to its step, from wherever it is begun that has it well within; from where it is not there is none. No condition.
-/
import Derived.Test.YtgkkfmjlgmoefaaRows
import Derived.Test.YtgkkfmjlgmoefaaLaw7
import Derived.Test.YtgkkfmjlgmoefaaHand
import Derived.Test.YtgkkfmjlgmoefaaHandIv
import Derived.WalkKit
import Derived.ProofKit
import Derived.OpenShut
namespace Go.Proofs.Ytgkkfmjlgmoefaa.newtonWhole
open Go.ChangeShapes Go.WideShapes Go.ChangeAt Go.RowKit
set_option linter.unusedVariables false      -- a walk need not use every 'w<i>' (that an integer argument fits its kind)

theorem own : ownKnob Try.prog.godebug = none := by kernel_rfl

set_option maxRecDepth 100000 in
set_option maxHeartbeats 16000000 in
theorem walk (a0 : Int) (a1 : Int) (a2 : Int) (a3 : Int) (a4 : Bool) (w0 : (Lit.int .i64 a0).wf = true) (w1 : (Lit.int .i64 a1).wf = true) (w2 : (Lit.int .i64 a2).wf = true) (w3 : (Lit.int .i64 a3).wf = true) (w : World) :
    Calls Try.prog 10 #[.int .i64 a0, .int .i64 a1, .int .i64 a2, .int .i64 a3, .bool a4] w fun e w' => e = .returned (.bool true) ∧ More w w' := by
  have b0 := bounds_i64 w0
  have b1 := bounds_i64 w1
  have b2 := bounds_i64 w2
  have b3 := bounds_i64 w3
  clear w0 w1 w2 w3
  obtain ⟨p, hp⟩ : ∃ a, a0 % 21 - 10 = a := ⟨_, rfl⟩
  obtain ⟨p1, p2⟩ : -10 ≤ p ∧ p ≤ 10 := by omega
  obtain ⟨x, hx⟩ : ∃ a, a2 % 2621440 - 1310720 = a := ⟨_, rfl⟩
  obtain ⟨x1, x2⟩ : -1310720 ≤ x ∧ x < 1310720 := by omega
  obtain ⟨y, hy⟩ : ∃ a, a3 % 1310720 = a := ⟨_, rfl⟩
  obtain ⟨y1, y2⟩ : 0 ≤ y ∧ y < 1310720 := by omega
  obtain ⟨z, hz⟩ : ∃ a, x + y = a := ⟨_, rfl⟩
  have hT : hWide x y = ⟨x, z, false⟩ := by
    unfold hWide within
    rw [show max (-1073741824) (min 1073741824 x) = x by omega, show min 1073741824 (x + y) = z by omega]
  have hzz : x ≤ z ∧ z ≤ 2621440 := by omega
  clear hz y1 y2
  obtain ⟨z1, z2⟩ := hzz
  have hr : ivRight ⟨x, z, false⟩ = true := right_of.2 (by omega)
  cases a4
  · obtain ⟨kk, hk⟩ : ∃ a, 1 + a1 % 5 = a := ⟨_, rfl⟩
    obtain ⟨k1, k2⟩ : 1 ≤ kk ∧ kk ≤ 5 := by omega
    have k0 : kk ≠ 0 := by omega
    have F := whole_solve (p := p) (k := kk) (t := ⟨x, z, false⟩) (by omega) (by omega) k0 hr (by dsimp only; omega)
    clear k0 hr
    dsimp only at F
    rcases F with ⟨c1, c2, e⟩ | ⟨c, e⟩ | ⟨c, e⟩
    · have h1 : ivHas ⟨p * 65536, p * 65536, false⟩ (p * 65536) = true := by
        rw [has_iff (right_of.2 (by omega))]
        exact decide_eq_true ⟨Int.le_refl _, Int.le_refl _⟩
      go_enter Try.func10, Try.ntmps10
      go_wp2_with (first | (go_at_call 28; (with_reducible refine Calls.mono (solve_whole p kk ⟨x, z, false⟩ 20 _ _ _ (by go_side) (by go_side)) ?_); rintro e w' ⟨rfl, r, rfl⟩) | (go_at_call 17; (with_reducible refine (pick_c _ _ (by omega) (by omega) (by omega) (by omega) _).mono ?_); rintro e w' ⟨rfl, rfl⟩) | (go_at_call 18; (with_reducible refine (hwide_c _ _ (by omega) (by omega) _).mono ?_); rintro e w' ⟨rfl, r, rfl⟩) | (go_at_call 19; (with_reducible refine (has_c _ _ _).mono ?_); rintro e w' ⟨rfl, r, rfl⟩) | (go_at_call 19; (with_reducible refine (has_c ⟨_, _, _⟩ _ _).mono ?_); rintro e w' ⟨rfl, r, rfl⟩) | (go_at_call 28; (with_reducible refine (solve_nil () _ _ _).mono ?_); rintro e w' ⟨rfl, r, rfl⟩) | (go_at_call 28; (with_reducible refine (solve_nil () ⟨_, _, _⟩ _ _).mono ?_); rintro e w' ⟨rfl, r, rfl⟩) | (go_at_call 28; (with_reducible refine Calls.mono (solve_c _ _ _ (by (repeat (first | exact Moved.self | apply Moved.alloc | apply Moved.more | apply Moved.drew)))) ?_); rintro e w' ⟨rfl, r, rfl⟩) | (go_at_call 28; (with_reducible refine Calls.mono (solve_c _ ⟨_, _, _⟩ _ (by (repeat (first | exact Moved.self | apply Moved.alloc | apply Moved.more | apply Moved.drew)))) ?_); rintro e w' ⟨rfl, r, rfl⟩) | (go_at_call 31; (with_reducible refine (known7_c _).mono ?_); rintro e w' ⟨rfl, r, rfl⟩))
      all_goals
        go_returns
        first | exact ⟨rfl, (by repeat (first | exact More.refl _ | refine More.alloc ?_ _ | refine More.more ?_ _ | refine More.drew ?_ | refine More.drewN ?_ _))⟩ | (exfalso; omega)
    · skip
      go_enter Try.func10, Try.ntmps10
      go_wp2_with (first | (go_at_call 28; (with_reducible refine Calls.mono (solve_whole p kk ⟨x, z, false⟩ 20 _ _ _ (by go_side) (by go_side)) ?_); rintro e w' ⟨rfl, r, rfl⟩) | (go_at_call 17; (with_reducible refine (pick_c _ _ (by omega) (by omega) (by omega) (by omega) _).mono ?_); rintro e w' ⟨rfl, rfl⟩) | (go_at_call 18; (with_reducible refine (hwide_c _ _ (by omega) (by omega) _).mono ?_); rintro e w' ⟨rfl, r, rfl⟩) | (go_at_call 19; (with_reducible refine (has_c _ _ _).mono ?_); rintro e w' ⟨rfl, r, rfl⟩) | (go_at_call 19; (with_reducible refine (has_c ⟨_, _, _⟩ _ _).mono ?_); rintro e w' ⟨rfl, r, rfl⟩) | (go_at_call 28; (with_reducible refine (solve_nil () _ _ _).mono ?_); rintro e w' ⟨rfl, r, rfl⟩) | (go_at_call 28; (with_reducible refine (solve_nil () ⟨_, _, _⟩ _ _).mono ?_); rintro e w' ⟨rfl, r, rfl⟩) | (go_at_call 28; (with_reducible refine Calls.mono (solve_c _ _ _ (by (repeat (first | exact Moved.self | apply Moved.alloc | apply Moved.more | apply Moved.drew)))) ?_); rintro e w' ⟨rfl, r, rfl⟩) | (go_at_call 28; (with_reducible refine Calls.mono (solve_c _ ⟨_, _, _⟩ _ (by (repeat (first | exact Moved.self | apply Moved.alloc | apply Moved.more | apply Moved.drew)))) ?_); rintro e w' ⟨rfl, r, rfl⟩) | (go_at_call 31; (with_reducible refine (known7_c _).mono ?_); rintro e w' ⟨rfl, r, rfl⟩))
      all_goals
        go_returns
        first | exact ⟨rfl, (by repeat (first | exact More.refl _ | refine More.alloc ?_ _ | refine More.more ?_ _ | refine More.drew ?_ | refine More.drewN ?_ _))⟩ | (exfalso; omega)
    · skip
      go_enter Try.func10, Try.ntmps10
      go_wp2_with (first | (go_at_call 28; (with_reducible refine Calls.mono (solve_whole p kk ⟨x, z, false⟩ 20 _ _ _ (by go_side) (by go_side)) ?_); rintro e w' ⟨rfl, r, rfl⟩) | (go_at_call 17; (with_reducible refine (pick_c _ _ (by omega) (by omega) (by omega) (by omega) _).mono ?_); rintro e w' ⟨rfl, rfl⟩) | (go_at_call 18; (with_reducible refine (hwide_c _ _ (by omega) (by omega) _).mono ?_); rintro e w' ⟨rfl, r, rfl⟩) | (go_at_call 19; (with_reducible refine (has_c _ _ _).mono ?_); rintro e w' ⟨rfl, r, rfl⟩) | (go_at_call 19; (with_reducible refine (has_c ⟨_, _, _⟩ _ _).mono ?_); rintro e w' ⟨rfl, r, rfl⟩) | (go_at_call 28; (with_reducible refine (solve_nil () _ _ _).mono ?_); rintro e w' ⟨rfl, r, rfl⟩) | (go_at_call 28; (with_reducible refine (solve_nil () ⟨_, _, _⟩ _ _).mono ?_); rintro e w' ⟨rfl, r, rfl⟩) | (go_at_call 28; (with_reducible refine Calls.mono (solve_c _ _ _ (by (repeat (first | exact Moved.self | apply Moved.alloc | apply Moved.more | apply Moved.drew)))) ?_); rintro e w' ⟨rfl, r, rfl⟩) | (go_at_call 28; (with_reducible refine Calls.mono (solve_c _ ⟨_, _, _⟩ _ (by (repeat (first | exact Moved.self | apply Moved.alloc | apply Moved.more | apply Moved.drew)))) ?_); rintro e w' ⟨rfl, r, rfl⟩) | (go_at_call 31; (with_reducible refine (known7_c _).mono ?_); rintro e w' ⟨rfl, r, rfl⟩))
      all_goals
        go_returns
        first | exact ⟨rfl, (by repeat (first | exact More.refl _ | refine More.alloc ?_ _ | refine More.more ?_ _ | refine More.drew ?_ | refine More.drewN ?_ _))⟩ | (exfalso; omega)
  · obtain ⟨k, hk⟩ : ∃ a, 1 + a1 % 5 = a := ⟨_, rfl⟩
    obtain ⟨k1, k2⟩ : 1 ≤ k ∧ k ≤ 5 := by omega
    obtain ⟨kk, hkk⟩ : ∃ a, -k = a := ⟨_, rfl⟩
    obtain ⟨k3, k4⟩ : -5 ≤ kk ∧ kk ≤ -1 := by omega
    have k0 : kk ≠ 0 := by omega
    have F := whole_solve (p := p) (k := kk) (t := ⟨x, z, false⟩) (by omega) (by omega) k0 hr (by dsimp only; omega)
    clear k0 hr
    dsimp only at F
    rcases F with ⟨c1, c2, e⟩ | ⟨c, e⟩ | ⟨c, e⟩
    · have h1 : ivHas ⟨p * 65536, p * 65536, false⟩ (p * 65536) = true := by
        rw [has_iff (right_of.2 (by omega))]
        exact decide_eq_true ⟨Int.le_refl _, Int.le_refl _⟩
      go_enter Try.func10, Try.ntmps10
      go_wp2_with (first | (go_at_call 28; (with_reducible refine Calls.mono (solve_whole p kk ⟨x, z, false⟩ 20 _ _ _ (by go_side) (by go_side)) ?_); rintro e w' ⟨rfl, r, rfl⟩) | (go_at_call 17; (with_reducible refine (pick_c _ _ (by omega) (by omega) (by omega) (by omega) _).mono ?_); rintro e w' ⟨rfl, rfl⟩) | (go_at_call 18; (with_reducible refine (hwide_c _ _ (by omega) (by omega) _).mono ?_); rintro e w' ⟨rfl, r, rfl⟩) | (go_at_call 19; (with_reducible refine (has_c _ _ _).mono ?_); rintro e w' ⟨rfl, r, rfl⟩) | (go_at_call 19; (with_reducible refine (has_c ⟨_, _, _⟩ _ _).mono ?_); rintro e w' ⟨rfl, r, rfl⟩) | (go_at_call 28; (with_reducible refine (solve_nil () _ _ _).mono ?_); rintro e w' ⟨rfl, r, rfl⟩) | (go_at_call 28; (with_reducible refine (solve_nil () ⟨_, _, _⟩ _ _).mono ?_); rintro e w' ⟨rfl, r, rfl⟩) | (go_at_call 28; (with_reducible refine Calls.mono (solve_c _ _ _ (by (repeat (first | exact Moved.self | apply Moved.alloc | apply Moved.more | apply Moved.drew)))) ?_); rintro e w' ⟨rfl, r, rfl⟩) | (go_at_call 28; (with_reducible refine Calls.mono (solve_c _ ⟨_, _, _⟩ _ (by (repeat (first | exact Moved.self | apply Moved.alloc | apply Moved.more | apply Moved.drew)))) ?_); rintro e w' ⟨rfl, r, rfl⟩) | (go_at_call 31; (with_reducible refine (known7_c _).mono ?_); rintro e w' ⟨rfl, r, rfl⟩))
      all_goals
        go_returns
        first | exact ⟨rfl, (by repeat (first | exact More.refl _ | refine More.alloc ?_ _ | refine More.more ?_ _ | refine More.drew ?_ | refine More.drewN ?_ _))⟩ | (exfalso; omega)
    · skip
      go_enter Try.func10, Try.ntmps10
      go_wp2_with (first | (go_at_call 28; (with_reducible refine Calls.mono (solve_whole p kk ⟨x, z, false⟩ 20 _ _ _ (by go_side) (by go_side)) ?_); rintro e w' ⟨rfl, r, rfl⟩) | (go_at_call 17; (with_reducible refine (pick_c _ _ (by omega) (by omega) (by omega) (by omega) _).mono ?_); rintro e w' ⟨rfl, rfl⟩) | (go_at_call 18; (with_reducible refine (hwide_c _ _ (by omega) (by omega) _).mono ?_); rintro e w' ⟨rfl, r, rfl⟩) | (go_at_call 19; (with_reducible refine (has_c _ _ _).mono ?_); rintro e w' ⟨rfl, r, rfl⟩) | (go_at_call 19; (with_reducible refine (has_c ⟨_, _, _⟩ _ _).mono ?_); rintro e w' ⟨rfl, r, rfl⟩) | (go_at_call 28; (with_reducible refine (solve_nil () _ _ _).mono ?_); rintro e w' ⟨rfl, r, rfl⟩) | (go_at_call 28; (with_reducible refine (solve_nil () ⟨_, _, _⟩ _ _).mono ?_); rintro e w' ⟨rfl, r, rfl⟩) | (go_at_call 28; (with_reducible refine Calls.mono (solve_c _ _ _ (by (repeat (first | exact Moved.self | apply Moved.alloc | apply Moved.more | apply Moved.drew)))) ?_); rintro e w' ⟨rfl, r, rfl⟩) | (go_at_call 28; (with_reducible refine Calls.mono (solve_c _ ⟨_, _, _⟩ _ (by (repeat (first | exact Moved.self | apply Moved.alloc | apply Moved.more | apply Moved.drew)))) ?_); rintro e w' ⟨rfl, r, rfl⟩) | (go_at_call 31; (with_reducible refine (known7_c _).mono ?_); rintro e w' ⟨rfl, r, rfl⟩))
      all_goals
        go_returns
        first | exact ⟨rfl, (by repeat (first | exact More.refl _ | refine More.alloc ?_ _ | refine More.more ?_ _ | refine More.drew ?_ | refine More.drewN ?_ _))⟩ | (exfalso; omega)
    · skip
      go_enter Try.func10, Try.ntmps10
      go_wp2_with (first | (go_at_call 28; (with_reducible refine Calls.mono (solve_whole p kk ⟨x, z, false⟩ 20 _ _ _ (by go_side) (by go_side)) ?_); rintro e w' ⟨rfl, r, rfl⟩) | (go_at_call 17; (with_reducible refine (pick_c _ _ (by omega) (by omega) (by omega) (by omega) _).mono ?_); rintro e w' ⟨rfl, rfl⟩) | (go_at_call 18; (with_reducible refine (hwide_c _ _ (by omega) (by omega) _).mono ?_); rintro e w' ⟨rfl, r, rfl⟩) | (go_at_call 19; (with_reducible refine (has_c _ _ _).mono ?_); rintro e w' ⟨rfl, r, rfl⟩) | (go_at_call 19; (with_reducible refine (has_c ⟨_, _, _⟩ _ _).mono ?_); rintro e w' ⟨rfl, r, rfl⟩) | (go_at_call 28; (with_reducible refine (solve_nil () _ _ _).mono ?_); rintro e w' ⟨rfl, r, rfl⟩) | (go_at_call 28; (with_reducible refine (solve_nil () ⟨_, _, _⟩ _ _).mono ?_); rintro e w' ⟨rfl, r, rfl⟩) | (go_at_call 28; (with_reducible refine Calls.mono (solve_c _ _ _ (by (repeat (first | exact Moved.self | apply Moved.alloc | apply Moved.more | apply Moved.drew)))) ?_); rintro e w' ⟨rfl, r, rfl⟩) | (go_at_call 28; (with_reducible refine Calls.mono (solve_c _ ⟨_, _, _⟩ _ (by (repeat (first | exact Moved.self | apply Moved.alloc | apply Moved.more | apply Moved.drew)))) ?_); rintro e w' ⟨rfl, r, rfl⟩) | (go_at_call 31; (with_reducible refine (known7_c _).mono ?_); rintro e w' ⟨rfl, r, rfl⟩))
      all_goals
        go_returns
        first | exact ⟨rfl, (by repeat (first | exact More.refl _ | refine More.alloc ?_ _ | refine More.more ?_ _ | refine More.drew ?_ | refine More.drewN ?_ _))⟩ | (exfalso; omega)

set_option maxRecDepth 100000 in
theorem lifted (os : Os) (started : os.Started) (H : Type) (enc : TypeId × Value → H) :
    ReturnsInHanded {} Try.checked os 10 .any (Rows.newtonWholeSpec.pre6 enc Try.prog Try.f10 Rows.newtonWholeRow.domain false) (Rows.newtonWholeSpec.post enc Try.prog Try.f10 false true false false) := by
  refine returnsInHanded_of_change (C := Try.checked) own started (by kernel_rfl) Try.func10
    (ChangeSpec.witness6 (enc := enc) (C := Try.checked) false ⟨#[], #[.int .i64 0, .int .i64 0, .int .i64 0, .int .i64 0, .bool false], []⟩ 8 (by kernel_rfl) (by kernel_rfl) (by kernel_rfl) (by kernel_rfl)) ?_
  intro W base args ds gs before hval0 hW hcnd _
  have hval : ∀ (j : Nat) t v, Try.f10.params[j]? = some t → args[j]? = some v → Value.okWide Try.prog W .any base t v := hval0
  have hW' := hW
  obtain ⟨p, q, hA0, hV, rfl, hfz, hnd⟩ := hW
  have hA : DataW.TrodAll enc Try.prog W 0 (fun _ => true) true Try.f10.params.toList args.toList ds p := hA0
  rw [Try.params10] at hA hval
  obtain ⟨v0, vs0, d0, ds0, p0, q0, hargs, rfl, rfl, h0, r0⟩ := trodAll_cons hA
  obtain ⟨v1, vs1, d1, ds1, p1, q1, rfl, rfl, rfl, h1, r1⟩ := trodAll_cons r0
  obtain ⟨v2, vs2, d2, ds2, p2, q2, rfl, rfl, rfl, h2, r2⟩ := trodAll_cons r1
  obtain ⟨v3, vs3, d3, ds3, p3, q3, rfl, rfl, rfl, h3, r3⟩ := trodAll_cons r2
  obtain ⟨v4, vs4, d4, ds4, p4, q4, rfl, rfl, rfl, h4, r4⟩ := trodAll_cons r3
  obtain ⟨rfl, rfl, rfl⟩ := trodAll_nil r4
  obtain rfl : args = #[v0, v1, v2, v3, v4] := by cases args; simp_all
  obtain ⟨rfl, rfl⟩ := trodVars_none hV
  obtain ⟨a0, rfl, rfl, rfl, w0⟩ := open_int Try.underlying3 (hval 0 3 v0 rfl rfl) h0
  obtain ⟨a1, rfl, rfl, rfl, w1⟩ := open_int Try.underlying3 (hval 1 3 v1 rfl rfl) h1
  obtain ⟨a2, rfl, rfl, rfl, w2⟩ := open_int Try.underlying3 (hval 2 3 v2 rfl rfl) h2
  obtain ⟨a3, rfl, rfl, rfl, w3⟩ := open_int Try.underlying3 (hval 3 3 v3 rfl rfl) h3
  obtain ⟨a4, rfl, rfl, rfl⟩ := open_bool Try.underlying4 (hval 4 4 v4 rfl rfl) h4
  clear hA0 hval0
  simp only [List.append_nil] at hW'
  refine (walk a0 a1 a2 a3 a4 w0 w1 w2 w3 W).mono fun e W' ⟨he, hg⟩ => ?_
  subst he
  exact ⟨_, rfl, _, _, _, [], [], [], hW', (trodAll_cons_mk (shut_bool Try.underlying4 _) trodAll_mk0), (trodAll_cons_mk (shut_int Try.underlying3 w0) (trodAll_cons_mk (shut_int Try.underlying3 w1) (trodAll_cons_mk (shut_int Try.underlying3 w2) (trodAll_cons_mk (shut_int Try.underlying3 w3) (trodAll_cons_mk (shut_bool Try.underlying4 _) trodAll_mk0))))), rfl, hg.below.frame _, fun h => by cases h⟩

theorem over : Rows.newtonWholeRow.holds Try.pinned (OpenSpec.ofChange Rows.newtonWholeSpec) :=
  OpenClaim.holds_of_wide 10 Try.f10 rfl rfl rfl rfl rfl rfl rfl ⟨rfl, rfl, rfl, rfl, rfl⟩ rfl rfl rfl rfl rfl (by kernel_rfl) Try.func10 (by kernel_rfl)
    (of_decide_eq_true (by kernel_rfl)) (by unfold Func.isWrapper; first | (rw [if_pos (by decide +kernel)]; kernel_rfl) | (rw [if_neg (by decide +kernel)]; exact ⟨rfl, rfl⟩))
    (fun os started H enc _ => lifted os started H enc)

/-- The statement. -/
theorem proved : Rows.NewtonWholeSaid :=
  over
#print axioms proved
end Go.Proofs.Ytgkkfmjlgmoefaa.newtonWhole
