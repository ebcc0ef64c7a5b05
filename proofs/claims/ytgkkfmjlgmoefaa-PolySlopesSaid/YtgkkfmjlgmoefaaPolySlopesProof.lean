/-
  PolySlopes: of whole numbers the slope's sum is b + 2 c x, and twice that is the difference of the sums two apart. No condition.
-/
import Derived.Test.YtgkkfmjlgmoefaaRows
import Derived.Test.YtgkkfmjlgmoefaaLaw4
import Derived.Test.YtgkkfmjlgmoefaaPolyMath
import Derived.WalkKit
import Derived.ProofKit
import Derived.OpenShut
namespace Go.Proofs.Ytgkkfmjlgmoefaa.polySlopes
open Go.ChangeShapes Go.WideShapes Go.ChangeAt Go.RowKit
set_option linter.unusedVariables false      -- a walk need not use every 'w<i>' (that an integer argument fits its kind)

theorem own : ownKnob Try.prog.godebug = none := by kernel_rfl

set_option maxRecDepth 100000 in
set_option maxHeartbeats 16000000 in
theorem walk (a0 : Int) (a1 : Int) (a2 : Int) (a3 : Int) (w0 : (Lit.int .i64 a0).wf = true) (w1 : (Lit.int .i64 a1).wf = true) (w2 : (Lit.int .i64 a2).wf = true) (w3 : (Lit.int .i64 a3).wf = true) (w : World) :
    Calls Try.prog 5 #[.int .i64 a0, .int .i64 a1, .int .i64 a2, .int .i64 a3] w fun e w' => e = .returned (.bool true) ∧ More w w' := by
  have b0 := bounds_i64 w0
  have b1 := bounds_i64 w1
  have b2 := bounds_i64 w2
  have b3 := bounds_i64 w3
  clear w0 w1 w2 w3
  have p0 := Int.emod_nonneg a0 (show (41 : Int) ≠ 0 by omega)
  have q0 := Int.emod_lt_of_pos a0 (show (0 : Int) < 41 by omega)
  have p1 := Int.emod_nonneg a1 (show (41 : Int) ≠ 0 by omega)
  have q1 := Int.emod_lt_of_pos a1 (show (0 : Int) < 41 by omega)
  have p2 := Int.emod_nonneg a2 (show (41 : Int) ≠ 0 by omega)
  have q2 := Int.emod_lt_of_pos a2 (show (0 : Int) < 41 by omega)
  have p3 := Int.emod_nonneg a3 (show (13 : Int) ≠ 0 by omega)
  have q3 := Int.emod_lt_of_pos a3 (show (0 : Int) < 13 by omega)
  obtain ⟨a, ha⟩ : ∃ a, a0 % 41 - 20 = a := ⟨_, rfl⟩
  obtain ⟨b, hb⟩ : ∃ a, a1 % 41 - 20 = a := ⟨_, rfl⟩
  obtain ⟨c, hc⟩ : ∃ a, a2 % 41 - 20 = a := ⟨_, rfl⟩
  obtain ⟨x, hx⟩ : ∃ a, a3 % 13 - 6 = a := ⟨_, rfl⟩
  obtain ⟨l1, l2⟩ : -20 ≤ a ∧ a ≤ 20 := by omega
  obtain ⟨l3, l4⟩ : -20 ≤ b ∧ b ≤ 20 := by omega
  obtain ⟨l5, l6⟩ : -20 ≤ c ∧ c ≤ 20 := by omega
  obtain ⟨l7, l8⟩ : -6 ≤ x ∧ x ≤ 6 := by omega
  obtain ⟨-, -, F1, ⟨m1, m2⟩, m3, m4⟩ := quad_facts ⟨l1, l2⟩ ⟨l3, l4⟩ ⟨l5, l6⟩ (x := x) (by omega)
  obtain ⟨F4, F5, -⟩ := quad_facts ⟨l1, l2⟩ ⟨l3, l4⟩ ⟨l5, l6⟩ (x := x + 1) (by omega)
  obtain ⟨F6, F7, -⟩ := quad_facts ⟨l1, l2⟩ ⟨l3, l4⟩ ⟨l5, l6⟩ (x := x - 1) (by omega)
  have F8 : ivSub (ivWhole ((c * (x + 1) + b) * (x + 1) + a)) (ivWhole ((c * (x - 1) + b) * (x - 1) + a)) = ivTimes (ivWhole (b + 2 * c * x)) 2 := by
    have h := quad_diff a b c x
    have l9 := (quad_facts ⟨l1, l2⟩ ⟨l3, l4⟩ ⟨l5, l6⟩ (x := x) (by omega)).2.2.2.1
    rw [sub_whole (by omega) (by omega) (by omega), times_whole (by omega) (by omega) (by omega), h]
  rw [← F4, ← F6, ← F1] at F8
  obtain ⟨A, hA⟩ : ∃ A, ivWhole a = A := ⟨_, rfl⟩
  obtain ⟨B, hB⟩ : ∃ A, ivWhole b = A := ⟨_, rfl⟩
  obtain ⟨C, hC⟩ : ∃ A, ivWhole c = A := ⟨_, rfl⟩
  obtain ⟨X, hX⟩ : ∃ A, ivWhole x = A := ⟨_, rfl⟩
  obtain ⟨U, hU⟩ : ∃ A, ivWhole (x + 1) = A := ⟨_, rfl⟩
  obtain ⟨D, hD⟩ : ∃ A, ivWhole (x - 1) = A := ⟨_, rfl⟩
  rw [hA, hB, hC] at F1 F8
  rw [hX] at F1 F8
  rw [hU, hD] at F8
  obtain ⟨S, hS⟩ : ∃ S, horner (slope [A, B, C]) X = S := ⟨_, rfl⟩
  rw [hS] at F1 F8
  have F9 := F1.symm
  obtain ⟨T, hT⟩ : ∃ T, ivTimes S 2 = T := ⟨_, rfl⟩
  rw [hT] at F8
  obtain ⟨P, hP⟩ : ∃ P, horner [A, B, C] U = P := ⟨_, rfl⟩
  obtain ⟨Q, hQ⟩ : ∃ P, horner [A, B, C] D = P := ⟨_, rfl⟩
  rw [hP, hQ] at F8
  clear F1 F4 F5 F6 F7 p0 q0 p1 q1 p2 q2 p3 q3
  go_enter Try.func5, Try.ntmps5
  go_wp2_with (first | (go_at_call 11; (with_reducible refine (slope_c _ _ (by (repeat (first | assumption | with_reducible apply Row.nil | with_reducible apply Row.plus | with_reducible apply Row.more | with_reducible apply Row.drew | with_reducible apply Row.drewN | (apply row_lit1 <;> first | rfl | (simp; done) | (simp; omega)) | (apply row_num1 <;> first | rfl | (simp; done) | (simp; omega)) | (apply row_lit2 <;> first | rfl | (simp; done) | (simp; omega)) | (apply row_num2 <;> first | rfl | (simp; done) | (simp; omega)) | (apply row_lit3 <;> first | rfl | (simp; done) | (simp; omega)) | (apply row_num3 <;> first | rfl | (simp; done) | (simp; omega)) | with_reducible apply Row.alloc))) (by (first | omega | decide | (simp; done) | (simp; omega)))).mono ?_); rintro e w' ⟨v', rfl, ⟨r, rfl⟩, hrow⟩) | (go_at_call 12; (with_reducible refine (whole_c _ _).mono ?_); rintro e w' ⟨rfl, r, rfl⟩) | (go_at_call 13; (with_reducible refine (known4_c _).mono ?_); rintro e w' ⟨rfl, r, rfl⟩) | (go_at_call 14; (with_reducible refine (horner_c _ _ _ (by (repeat (first | assumption | with_reducible apply Row.nil | with_reducible apply Row.plus | with_reducible apply Row.more | with_reducible apply Row.drew | with_reducible apply Row.drewN | (apply row_lit1 <;> first | rfl | (simp; done) | (simp; omega)) | (apply row_num1 <;> first | rfl | (simp; done) | (simp; omega)) | (apply row_lit2 <;> first | rfl | (simp; done) | (simp; omega)) | (apply row_num2 <;> first | rfl | (simp; done) | (simp; omega)) | (apply row_lit3 <;> first | rfl | (simp; done) | (simp; omega)) | (apply row_num3 <;> first | rfl | (simp; done) | (simp; omega)) | with_reducible apply Row.alloc))) (by (first | omega | decide | (simp; done) | (simp; omega)))).mono ?_); rintro e w' ⟨rfl, r, rfl⟩) | (go_at_call 14; (with_reducible refine (horner_c _ _ ⟨_, _, _⟩ (by (repeat (first | assumption | with_reducible apply Row.nil | with_reducible apply Row.plus | with_reducible apply Row.more | with_reducible apply Row.drew | with_reducible apply Row.drewN | (apply row_lit1 <;> first | rfl | (simp; done) | (simp; omega)) | (apply row_num1 <;> first | rfl | (simp; done) | (simp; omega)) | (apply row_lit2 <;> first | rfl | (simp; done) | (simp; omega)) | (apply row_num2 <;> first | rfl | (simp; done) | (simp; omega)) | (apply row_lit3 <;> first | rfl | (simp; done) | (simp; omega)) | (apply row_num3 <;> first | rfl | (simp; done) | (simp; omega)) | with_reducible apply Row.alloc))) (by (first | omega | decide | (simp; done) | (simp; omega)))).mono ?_); rintro e w' ⟨rfl, r, rfl⟩) | (go_at_call 17; (with_reducible refine (pick_c _ _ (by omega) (by omega) (by omega) (by omega) _).mono ?_); rintro e w' ⟨rfl, rfl⟩) | (go_at_call 22; (with_reducible refine (sub_c _ _ _).mono ?_); rintro e w' ⟨rfl, r, rfl⟩) | (go_at_call 22; (with_reducible refine (sub_c _ ⟨_, _, _⟩ _).mono ?_); rintro e w' ⟨rfl, r, rfl⟩) | (go_at_call 22; (with_reducible refine (sub_c ⟨_, _, _⟩ _ _).mono ?_); rintro e w' ⟨rfl, r, rfl⟩) | (go_at_call 22; (with_reducible refine (sub_c ⟨_, _, _⟩ ⟨_, _, _⟩ _).mono ?_); rintro e w' ⟨rfl, r, rfl⟩) | (go_at_call 23; (with_reducible refine (times_c _ _ _).mono ?_); rintro e w' ⟨rfl, r, rfl⟩) | (go_at_call 23; (with_reducible refine (times_c ⟨_, _, _⟩ _ _).mono ?_); rintro e w' ⟨rfl, r, rfl⟩) | ((with_reducible show Code.wp _ (Code.region 9 _ true) _ _ _); (with_reducible refine wp_more_quick_m (id := 9) ?_ ?_ ?_); kernel_rfl; kernel_rfl; (try simp only [List.take_succ_cons, List.take_zero, List.drop_succ_cons, List.drop_zero]); (repeat (any_goals (first | go_big_quiet_step ((first | (go_at_call 12; (with_reducible apply quiet_call); with_reducible exact whole_c _ _) | (go_at_call 13; (with_reducible apply quiet_call); with_reducible exact known4_c _) | (go_at_call 14; (with_reducible apply quiet_call); with_reducible exact horner_c _ _ _ (by (repeat (first | assumption | with_reducible apply Row.nil | with_reducible apply Row.plus | with_reducible apply Row.more | with_reducible apply Row.drew | with_reducible apply Row.drewN | (apply row_lit1 <;> first | rfl | (simp; done) | (simp; omega)) | (apply row_num1 <;> first | rfl | (simp; done) | (simp; omega)) | (apply row_lit2 <;> first | rfl | (simp; done) | (simp; omega)) | (apply row_num2 <;> first | rfl | (simp; done) | (simp; omega)) | (apply row_lit3 <;> first | rfl | (simp; done) | (simp; omega)) | (apply row_num3 <;> first | rfl | (simp; done) | (simp; omega)) | with_reducible apply Row.alloc))) (by (first | omega | decide | (simp; done) | (simp; omega)))) | (go_at_call 14; (with_reducible apply quiet_call); with_reducible exact horner_c _ _ ⟨_, _, _⟩ (by (repeat (first | assumption | with_reducible apply Row.nil | with_reducible apply Row.plus | with_reducible apply Row.more | with_reducible apply Row.drew | with_reducible apply Row.drewN | (apply row_lit1 <;> first | rfl | (simp; done) | (simp; omega)) | (apply row_num1 <;> first | rfl | (simp; done) | (simp; omega)) | (apply row_lit2 <;> first | rfl | (simp; done) | (simp; omega)) | (apply row_num2 <;> first | rfl | (simp; done) | (simp; omega)) | (apply row_lit3 <;> first | rfl | (simp; done) | (simp; omega)) | (apply row_num3 <;> first | rfl | (simp; done) | (simp; omega)) | with_reducible apply Row.alloc))) (by (first | omega | decide | (simp; done) | (simp; omega)))) | (go_at_call 17; (with_reducible apply quiet_call_same); with_reducible exact pick_c _ _ (by omega) (by omega) (by omega) (by omega) _) | (go_at_call 22; (with_reducible apply quiet_call); with_reducible exact sub_c _ _ _) | (go_at_call 22; (with_reducible apply quiet_call); with_reducible exact sub_c _ ⟨_, _, _⟩ _) | (go_at_call 22; (with_reducible apply quiet_call); with_reducible exact sub_c ⟨_, _, _⟩ _ _) | (go_at_call 22; (with_reducible apply quiet_call); with_reducible exact sub_c ⟨_, _, _⟩ ⟨_, _, _⟩ _) | (go_at_call 23; (with_reducible apply quiet_call); with_reducible exact times_c _ _ _) | (go_at_call 23; (with_reducible apply quiet_call); with_reducible exact times_c ⟨_, _, _⟩ _ _))) | quiet_step ((first | (go_at_call 12; (with_reducible apply quiet_call); with_reducible exact whole_c _ _) | (go_at_call 13; (with_reducible apply quiet_call); with_reducible exact known4_c _) | (go_at_call 14; (with_reducible apply quiet_call); with_reducible exact horner_c _ _ _ (by (repeat (first | assumption | with_reducible apply Row.nil | with_reducible apply Row.plus | with_reducible apply Row.more | with_reducible apply Row.drew | with_reducible apply Row.drewN | (apply row_lit1 <;> first | rfl | (simp; done) | (simp; omega)) | (apply row_num1 <;> first | rfl | (simp; done) | (simp; omega)) | (apply row_lit2 <;> first | rfl | (simp; done) | (simp; omega)) | (apply row_num2 <;> first | rfl | (simp; done) | (simp; omega)) | (apply row_lit3 <;> first | rfl | (simp; done) | (simp; omega)) | (apply row_num3 <;> first | rfl | (simp; done) | (simp; omega)) | with_reducible apply Row.alloc))) (by (first | omega | decide | (simp; done) | (simp; omega)))) | (go_at_call 14; (with_reducible apply quiet_call); with_reducible exact horner_c _ _ ⟨_, _, _⟩ (by (repeat (first | assumption | with_reducible apply Row.nil | with_reducible apply Row.plus | with_reducible apply Row.more | with_reducible apply Row.drew | with_reducible apply Row.drewN | (apply row_lit1 <;> first | rfl | (simp; done) | (simp; omega)) | (apply row_num1 <;> first | rfl | (simp; done) | (simp; omega)) | (apply row_lit2 <;> first | rfl | (simp; done) | (simp; omega)) | (apply row_num2 <;> first | rfl | (simp; done) | (simp; omega)) | (apply row_lit3 <;> first | rfl | (simp; done) | (simp; omega)) | (apply row_num3 <;> first | rfl | (simp; done) | (simp; omega)) | with_reducible apply Row.alloc))) (by (first | omega | decide | (simp; done) | (simp; omega)))) | (go_at_call 17; (with_reducible apply quiet_call_same); with_reducible exact pick_c _ _ (by omega) (by omega) (by omega) (by omega) _) | (go_at_call 22; (with_reducible apply quiet_call); with_reducible exact sub_c _ _ _) | (go_at_call 22; (with_reducible apply quiet_call); with_reducible exact sub_c _ ⟨_, _, _⟩ _) | (go_at_call 22; (with_reducible apply quiet_call); with_reducible exact sub_c ⟨_, _, _⟩ _ _) | (go_at_call 22; (with_reducible apply quiet_call); with_reducible exact sub_c ⟨_, _, _⟩ ⟨_, _, _⟩ _) | (go_at_call 23; (with_reducible apply quiet_call); with_reducible exact times_c _ _ _) | (go_at_call 23; (with_reducible apply quiet_call); with_reducible exact times_c ⟨_, _, _⟩ _ _)))))); (with_reducible refine wpQuiet_nil ?_); intro r) | ((with_reducible show Code.wp _ (Code.region 9 _ true) _ _ _); (with_reducible refine wp_more_quick (id := 9) ?_ ?_ ?_); kernel_rfl; kernel_rfl; (try simp only [List.take_succ_cons, List.take_zero, List.drop_succ_cons, List.drop_zero]); (repeat (any_goals (first | go_big_quiet_step ((first | (go_at_call 12; (with_reducible apply quiet_call); with_reducible exact whole_c _ _) | (go_at_call 13; (with_reducible apply quiet_call); with_reducible exact known4_c _) | (go_at_call 14; (with_reducible apply quiet_call); with_reducible exact horner_c _ _ _ (by (repeat (first | assumption | with_reducible apply Row.nil | with_reducible apply Row.plus | with_reducible apply Row.more | with_reducible apply Row.drew | with_reducible apply Row.drewN | (apply row_lit1 <;> first | rfl | (simp; done) | (simp; omega)) | (apply row_num1 <;> first | rfl | (simp; done) | (simp; omega)) | (apply row_lit2 <;> first | rfl | (simp; done) | (simp; omega)) | (apply row_num2 <;> first | rfl | (simp; done) | (simp; omega)) | (apply row_lit3 <;> first | rfl | (simp; done) | (simp; omega)) | (apply row_num3 <;> first | rfl | (simp; done) | (simp; omega)) | with_reducible apply Row.alloc))) (by (first | omega | decide | (simp; done) | (simp; omega)))) | (go_at_call 14; (with_reducible apply quiet_call); with_reducible exact horner_c _ _ ⟨_, _, _⟩ (by (repeat (first | assumption | with_reducible apply Row.nil | with_reducible apply Row.plus | with_reducible apply Row.more | with_reducible apply Row.drew | with_reducible apply Row.drewN | (apply row_lit1 <;> first | rfl | (simp; done) | (simp; omega)) | (apply row_num1 <;> first | rfl | (simp; done) | (simp; omega)) | (apply row_lit2 <;> first | rfl | (simp; done) | (simp; omega)) | (apply row_num2 <;> first | rfl | (simp; done) | (simp; omega)) | (apply row_lit3 <;> first | rfl | (simp; done) | (simp; omega)) | (apply row_num3 <;> first | rfl | (simp; done) | (simp; omega)) | with_reducible apply Row.alloc))) (by (first | omega | decide | (simp; done) | (simp; omega)))) | (go_at_call 17; (with_reducible apply quiet_call_same); with_reducible exact pick_c _ _ (by omega) (by omega) (by omega) (by omega) _) | (go_at_call 22; (with_reducible apply quiet_call); with_reducible exact sub_c _ _ _) | (go_at_call 22; (with_reducible apply quiet_call); with_reducible exact sub_c _ ⟨_, _, _⟩ _) | (go_at_call 22; (with_reducible apply quiet_call); with_reducible exact sub_c ⟨_, _, _⟩ _ _) | (go_at_call 22; (with_reducible apply quiet_call); with_reducible exact sub_c ⟨_, _, _⟩ ⟨_, _, _⟩ _) | (go_at_call 23; (with_reducible apply quiet_call); with_reducible exact times_c _ _ _) | (go_at_call 23; (with_reducible apply quiet_call); with_reducible exact times_c ⟨_, _, _⟩ _ _))) | quiet_step ((first | (go_at_call 12; (with_reducible apply quiet_call); with_reducible exact whole_c _ _) | (go_at_call 13; (with_reducible apply quiet_call); with_reducible exact known4_c _) | (go_at_call 14; (with_reducible apply quiet_call); with_reducible exact horner_c _ _ _ (by (repeat (first | assumption | with_reducible apply Row.nil | with_reducible apply Row.plus | with_reducible apply Row.more | with_reducible apply Row.drew | with_reducible apply Row.drewN | (apply row_lit1 <;> first | rfl | (simp; done) | (simp; omega)) | (apply row_num1 <;> first | rfl | (simp; done) | (simp; omega)) | (apply row_lit2 <;> first | rfl | (simp; done) | (simp; omega)) | (apply row_num2 <;> first | rfl | (simp; done) | (simp; omega)) | (apply row_lit3 <;> first | rfl | (simp; done) | (simp; omega)) | (apply row_num3 <;> first | rfl | (simp; done) | (simp; omega)) | with_reducible apply Row.alloc))) (by (first | omega | decide | (simp; done) | (simp; omega)))) | (go_at_call 14; (with_reducible apply quiet_call); with_reducible exact horner_c _ _ ⟨_, _, _⟩ (by (repeat (first | assumption | with_reducible apply Row.nil | with_reducible apply Row.plus | with_reducible apply Row.more | with_reducible apply Row.drew | with_reducible apply Row.drewN | (apply row_lit1 <;> first | rfl | (simp; done) | (simp; omega)) | (apply row_num1 <;> first | rfl | (simp; done) | (simp; omega)) | (apply row_lit2 <;> first | rfl | (simp; done) | (simp; omega)) | (apply row_num2 <;> first | rfl | (simp; done) | (simp; omega)) | (apply row_lit3 <;> first | rfl | (simp; done) | (simp; omega)) | (apply row_num3 <;> first | rfl | (simp; done) | (simp; omega)) | with_reducible apply Row.alloc))) (by (first | omega | decide | (simp; done) | (simp; omega)))) | (go_at_call 17; (with_reducible apply quiet_call_same); with_reducible exact pick_c _ _ (by omega) (by omega) (by omega) (by omega) _) | (go_at_call 22; (with_reducible apply quiet_call); with_reducible exact sub_c _ _ _) | (go_at_call 22; (with_reducible apply quiet_call); with_reducible exact sub_c _ ⟨_, _, _⟩ _) | (go_at_call 22; (with_reducible apply quiet_call); with_reducible exact sub_c ⟨_, _, _⟩ _ _) | (go_at_call 22; (with_reducible apply quiet_call); with_reducible exact sub_c ⟨_, _, _⟩ ⟨_, _, _⟩ _) | (go_at_call 23; (with_reducible apply quiet_call); with_reducible exact times_c _ _ _) | (go_at_call 23; (with_reducible apply quiet_call); with_reducible exact times_c ⟨_, _, _⟩ _ _)))))); (with_reducible refine wpQuiet_nil ?_); intro r))
  go_returns
  exact ⟨rfl, (by repeat (first | exact More.refl _ | refine More.alloc ?_ _ | refine More.more ?_ _ | refine More.drew ?_ | refine More.drewN ?_ _))⟩

set_option maxRecDepth 100000 in
theorem lifted (os : Os) (started : os.Started) (H : Type) (enc : TypeId × Value → H) :
    ReturnsInHanded {} Try.checked os 5 .any (Rows.polySlopesSpec.pre6 enc Try.prog Try.f5 Rows.polySlopesRow.domain false) (Rows.polySlopesSpec.post enc Try.prog Try.f5 false true false false) := by
  refine returnsInHanded_of_change (C := Try.checked) own started (by kernel_rfl) Try.func5
    (ChangeSpec.witness6 (enc := enc) (C := Try.checked) false ⟨#[], #[.int .i64 0, .int .i64 0, .int .i64 0, .int .i64 0], []⟩ 8 (by kernel_rfl) (by kernel_rfl) (by kernel_rfl) (by kernel_rfl)) ?_
  intro W base args ds gs before hval0 hW hcnd _
  have hval : ∀ (j : Nat) t v, Try.f5.params[j]? = some t → args[j]? = some v → Value.okWide Try.prog W .any base t v := hval0
  have hW' := hW
  obtain ⟨p, q, hA0, hV, rfl, hfz, hnd⟩ := hW
  have hA : DataW.TrodAll enc Try.prog W 0 (fun _ => true) true Try.f5.params.toList args.toList ds p := hA0
  rw [Try.params5] at hA hval
  obtain ⟨v0, vs0, d0, ds0, p0, q0, hargs, rfl, rfl, h0, r0⟩ := trodAll_cons hA
  obtain ⟨v1, vs1, d1, ds1, p1, q1, rfl, rfl, rfl, h1, r1⟩ := trodAll_cons r0
  obtain ⟨v2, vs2, d2, ds2, p2, q2, rfl, rfl, rfl, h2, r2⟩ := trodAll_cons r1
  obtain ⟨v3, vs3, d3, ds3, p3, q3, rfl, rfl, rfl, h3, r3⟩ := trodAll_cons r2
  obtain ⟨rfl, rfl, rfl⟩ := trodAll_nil r3
  obtain rfl : args = #[v0, v1, v2, v3] := by cases args; simp_all
  obtain ⟨rfl, rfl⟩ := trodVars_none hV
  obtain ⟨a0, rfl, rfl, rfl, w0⟩ := open_int Try.underlying3 (hval 0 3 v0 rfl rfl) h0
  obtain ⟨a1, rfl, rfl, rfl, w1⟩ := open_int Try.underlying3 (hval 1 3 v1 rfl rfl) h1
  obtain ⟨a2, rfl, rfl, rfl, w2⟩ := open_int Try.underlying3 (hval 2 3 v2 rfl rfl) h2
  obtain ⟨a3, rfl, rfl, rfl, w3⟩ := open_int Try.underlying3 (hval 3 3 v3 rfl rfl) h3
  clear hA0 hval0
  simp only [List.append_nil] at hW'
  refine (walk a0 a1 a2 a3 w0 w1 w2 w3 W).mono fun e W' ⟨he, hg⟩ => ?_
  subst he
  exact ⟨_, rfl, _, _, _, [], [], [], hW', (trodAll_cons_mk (shut_bool Try.underlying4 _) trodAll_mk0), (trodAll_cons_mk (shut_int Try.underlying3 w0) (trodAll_cons_mk (shut_int Try.underlying3 w1) (trodAll_cons_mk (shut_int Try.underlying3 w2) (trodAll_cons_mk (shut_int Try.underlying3 w3) trodAll_mk0)))), rfl, hg.below.frame _, fun h => by cases h⟩

theorem over : Rows.polySlopesRow.holds Try.pinned (OpenSpec.ofChange Rows.polySlopesSpec) :=
  OpenClaim.holds_of_wide 5 Try.f5 rfl rfl rfl rfl rfl rfl rfl ⟨rfl, rfl, rfl, rfl, rfl⟩ rfl rfl rfl rfl rfl (by kernel_rfl) Try.func5 (by kernel_rfl)
    (of_decide_eq_true (by kernel_rfl)) (by unfold Func.isWrapper; first | (rw [if_pos (by decide +kernel)]; kernel_rfl) | (rw [if_neg (by decide +kernel)]; exact ⟨rfl, rfl⟩))
    (fun os started H enc _ => lifted os started H enc)

/-- The statement. -/
theorem proved : Rows.PolySlopesSaid :=
  over
#print axioms proved
end Go.Proofs.Ytgkkfmjlgmoefaa.polySlopes
