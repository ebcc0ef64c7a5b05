/-
  QuadLess: of less the root lies in the larger one's; what is Yes stays Yes, what is No stays No. No condition.
-/
import Derived.Test.YthodlkiedhkbgaaRows
import Derived.Test.YthodlkiedhkbgaaQuad
import Derived.Test.YthodlkiedhkbgaaIvMath5
import Derived.Test.YthodlkiedhkbgaaReg5
import Derived.WalkKit
import Derived.ProofKit
import Derived.OpenShut
namespace Go.Proofs.Ythodlkiedhkbgaa.quadLess
open Go.ChangeShapes Go.WideShapes Go.ChangeAt Go.RowKit
set_option linter.unusedVariables false      -- a walk need not use every 'w<i>' (that an integer argument fits its kind)

theorem own : ownKnob Try.prog.godebug = none := by kernel_rfl

set_option maxRecDepth 100000 in
set_option maxHeartbeats 16000000 in
theorem walk (a0 : Int) (a1 : Int) (a2 : Int) (a3 : Int) (a4 : Int) (a5 : Int) (a6 : Int) (a7 : Int) (w0 : (Lit.int .i64 a0).wf = true) (w1 : (Lit.int .i64 a1).wf = true) (w2 : (Lit.int .i64 a2).wf = true) (w3 : (Lit.int .i64 a3).wf = true) (w4 : (Lit.int .i64 a4).wf = true) (w5 : (Lit.int .i64 a5).wf = true) (w6 : (Lit.int .i64 a6).wf = true) (w7 : (Lit.int .i64 a7).wf = true) (w : World) :
    Calls Try.prog 6 #[.int .i64 a0, .int .i64 a1, .int .i64 a2, .int .i64 a3, .int .i64 a4, .int .i64 a5, .int .i64 a6, .int .i64 a7] w fun e w' => e = .returned (.bool true) ∧ More w w' := by
  have b0 := bounds_i64 w0
  have b1 := bounds_i64 w1
  have b2 := bounds_i64 w2
  have b3 := bounds_i64 w3
  have b4 := bounds_i64 w4
  have b5 := bounds_i64 w5
  have b6 := bounds_i64 w6
  have b7 := bounds_i64 w7
  clear w0 w1 w2 w3 w4 w5 w6 w7
  have t6 := tdiv_bd a6 3 b6.1 b6.2 (by omega)
  have t7 := tdiv_bd a7 3 b7.1 b7.2 (by omega)
  obtain ⟨x, hx⟩ : ∃ x, hTame a0 a1 = x := ⟨_, rfl⟩
  obtain ⟨y, hy⟩ : ∃ y, hTame a2 a3 = y := ⟨_, rfl⟩
  obtain ⟨z, hz⟩ : ∃ z, hTame a4 a5 = z := ⟨_, rfl⟩
  have rx := (tame_small a0 a1).1
  have ry := (tame_small a2 a3).1
  have rz := (tame_small a4 a5).1
  rw [hx] at rx
  rw [hy] at ry
  rw [hz] at rz
  have f := quad_less (hIn_part a6 a7 rx) (hIn_part a7 a6 ry) (hIn_part (a6.tdiv 3) (a7.tdiv 3) rz)
  obtain ⟨p, hp⟩ : ∃ p, hIn x a6 a7 = p := ⟨_, rfl⟩
  obtain ⟨q, hq⟩ : ∃ q, hIn y a7 a6 = q := ⟨_, rfl⟩
  obtain ⟨r, hr⟩ : ∃ r, hIn z (a6.tdiv 3) (a7.tdiv 3) = r := ⟨_, rfl⟩
  rw [hp, hq, hr] at f
  clear rx ry rz
  obtain ⟨t, ht⟩ : ∃ t, qNear x y z = t := ⟨_, rfl⟩
  obtain ⟨u, hu⟩ : ∃ u, qNear p q r = u := ⟨_, rfl⟩
  rw [ht, hu] at f
  rcases f with ⟨e1, e2, e3, e4⟩ | ⟨e1, e2, e3⟩ | ⟨e1, e2, e3⟩ | ⟨e1, e2, e3⟩ | ⟨e1, e2, e3⟩
  all_goals
    go_enter Try.func6, Try.ntmps6
    go_wp2_with (first | (go_at_call 8; (with_reducible refine (near_c _ _ _ _).mono ?_); rintro e w' ⟨rfl, r, rfl⟩) | (go_at_call 8; (with_reducible refine (near_c ⟨_, _, _⟩ ⟨_, _, _⟩ ⟨_, _, _⟩ _).mono ?_); rintro e w' ⟨rfl, r, rfl⟩) | (go_at_call 12; (with_reducible refine (known6_c _).mono ?_); rintro e w' ⟨rfl, r, rfl⟩) | (go_at_call 14; (with_reducible refine (htame_c _ _ (by omega) (by omega) (by omega) (by omega) _).mono ?_); rintro e w' ⟨rfl, r, rfl⟩) | (go_at_call 19; (with_reducible refine (hin_c _ _ _ (by omega) (by omega) (by omega) (by omega) _).mono ?_); rintro e w' ⟨rfl, r, rfl⟩) | (go_at_call 19; (with_reducible refine (hin_c ⟨_, _, _⟩ _ _ (by omega) (by omega) (by omega) (by omega) _).mono ?_); rintro e w' ⟨rfl, r, rfl⟩) | (go_at_call 20; (with_reducible refine (inside_c _ _ _).mono ?_); rintro e w' ⟨rfl, r, rfl⟩) | (go_at_call 20; (with_reducible refine (inside_c _ ⟨_, _, _⟩ _).mono ?_); rintro e w' ⟨rfl, r, rfl⟩) | (go_at_call 20; (with_reducible refine (inside_c ⟨_, _, _⟩ _ _).mono ?_); rintro e w' ⟨rfl, r, rfl⟩) | (go_at_call 20; (with_reducible refine (inside_c ⟨_, _, _⟩ ⟨_, _, _⟩ _).mono ?_); rintro e w' ⟨rfl, r, rfl⟩) | (go_at_call 21; (with_reducible refine (right_c _ _).mono ?_); rintro e w' ⟨rfl, r, rfl⟩) | (go_at_call 21; (with_reducible refine (right_c ⟨_, _, _⟩ _).mono ?_); rintro e w' ⟨rfl, r, rfl⟩) | ((with_reducible show Code.wp _ (Code.region 5 _ true) _ _ _); (with_reducible apply wp_more_late_m (id := 5) 19 18 22 [17]); kernel_rfl; kernel_rfl; kernel_rfl; (intro _ _ _ _ _ h; exact h); rfl; decide; rfl; (intro _ _; go_simp; rfl); intro x; (try simp only [List.append_eq, List.cons_append, List.nil_append]); (simp only [List.take_succ_cons, List.take_zero, List.drop_succ_cons, List.drop_zero, skipAt, Nat.reduceAdd, Nat.reduceEqDiff, reduceIte, Nat.zero_add]); (repeat (any_goals (first | go_big_quiet_step ((first | (go_at_call 8; (with_reducible apply quiet_up); with_reducible exact near_c _ _ _ _) | (go_at_call 8; (with_reducible apply quiet_up); with_reducible exact near_c ⟨_, _, _⟩ ⟨_, _, _⟩ ⟨_, _, _⟩ _) | (go_at_call 12; (with_reducible apply quiet_up); with_reducible exact known6_c _) | (go_at_call 14; (with_reducible apply quiet_up); with_reducible exact htame_c _ _ (by omega) (by omega) (by omega) (by omega) _) | (go_at_call 19; (with_reducible apply quiet_up); with_reducible exact hin_c _ _ _ (by omega) (by omega) (by omega) (by omega) _) | (go_at_call 19; (with_reducible apply quiet_up); with_reducible exact hin_c ⟨_, _, _⟩ _ _ (by omega) (by omega) (by omega) (by omega) _) | (go_at_call 20; (with_reducible apply quiet_up_b); (with_reducible exact inside_c _ _ _); with_reducible assumption) | (go_at_call 20; (with_reducible apply quiet_up); with_reducible exact inside_c _ _ _) | (go_at_call 20; (with_reducible apply quiet_up_b); (with_reducible exact inside_c _ ⟨_, _, _⟩ _); with_reducible assumption) | (go_at_call 20; (with_reducible apply quiet_up); with_reducible exact inside_c _ ⟨_, _, _⟩ _) | (go_at_call 20; (with_reducible apply quiet_up_b); (with_reducible exact inside_c ⟨_, _, _⟩ _ _); with_reducible assumption) | (go_at_call 20; (with_reducible apply quiet_up); with_reducible exact inside_c ⟨_, _, _⟩ _ _) | (go_at_call 20; (with_reducible apply quiet_up_b); (with_reducible exact inside_c ⟨_, _, _⟩ ⟨_, _, _⟩ _); with_reducible assumption) | (go_at_call 20; (with_reducible apply quiet_up); with_reducible exact inside_c ⟨_, _, _⟩ ⟨_, _, _⟩ _) | (go_at_call 21; (with_reducible apply quiet_up_b); (with_reducible exact right_c _ _); with_reducible assumption) | (go_at_call 21; (with_reducible apply quiet_up); with_reducible exact right_c _ _) | (go_at_call 21; (with_reducible apply quiet_up_b); (with_reducible exact right_c ⟨_, _, _⟩ _); with_reducible assumption) | (go_at_call 21; (with_reducible apply quiet_up); with_reducible exact right_c ⟨_, _, _⟩ _))) | quiet_step ((first | (go_at_call 8; (with_reducible apply quiet_up); with_reducible exact near_c _ _ _ _) | (go_at_call 8; (with_reducible apply quiet_up); with_reducible exact near_c ⟨_, _, _⟩ ⟨_, _, _⟩ ⟨_, _, _⟩ _) | (go_at_call 12; (with_reducible apply quiet_up); with_reducible exact known6_c _) | (go_at_call 14; (with_reducible apply quiet_up); with_reducible exact htame_c _ _ (by omega) (by omega) (by omega) (by omega) _) | (go_at_call 19; (with_reducible apply quiet_up); with_reducible exact hin_c _ _ _ (by omega) (by omega) (by omega) (by omega) _) | (go_at_call 19; (with_reducible apply quiet_up); with_reducible exact hin_c ⟨_, _, _⟩ _ _ (by omega) (by omega) (by omega) (by omega) _) | (go_at_call 20; (with_reducible apply quiet_up_b); (with_reducible exact inside_c _ _ _); with_reducible assumption) | (go_at_call 20; (with_reducible apply quiet_up); with_reducible exact inside_c _ _ _) | (go_at_call 20; (with_reducible apply quiet_up_b); (with_reducible exact inside_c _ ⟨_, _, _⟩ _); with_reducible assumption) | (go_at_call 20; (with_reducible apply quiet_up); with_reducible exact inside_c _ ⟨_, _, _⟩ _) | (go_at_call 20; (with_reducible apply quiet_up_b); (with_reducible exact inside_c ⟨_, _, _⟩ _ _); with_reducible assumption) | (go_at_call 20; (with_reducible apply quiet_up); with_reducible exact inside_c ⟨_, _, _⟩ _ _) | (go_at_call 20; (with_reducible apply quiet_up_b); (with_reducible exact inside_c ⟨_, _, _⟩ ⟨_, _, _⟩ _); with_reducible assumption) | (go_at_call 20; (with_reducible apply quiet_up); with_reducible exact inside_c ⟨_, _, _⟩ ⟨_, _, _⟩ _) | (go_at_call 21; (with_reducible apply quiet_up_b); (with_reducible exact right_c _ _); with_reducible assumption) | (go_at_call 21; (with_reducible apply quiet_up); with_reducible exact right_c _ _) | (go_at_call 21; (with_reducible apply quiet_up_b); (with_reducible exact right_c ⟨_, _, _⟩ _); with_reducible assumption) | (go_at_call 21; (with_reducible apply quiet_up); with_reducible exact right_c ⟨_, _, _⟩ _)))))); (with_reducible refine wpQuiet_nil ?_); intro r1 r2) | ((with_reducible show Code.wp _ (Code.region 5 _ true) _ _ _); (with_reducible apply wp_more_late (id := 5) 19 18 22 [17]); kernel_rfl; kernel_rfl; kernel_rfl; (intro _ _ _ _ _ h; exact h); rfl; decide; rfl; (intro _ _; go_simp; rfl); intro x; (try simp only [List.append_eq, List.cons_append, List.nil_append]); (simp only [List.take_succ_cons, List.take_zero, List.drop_succ_cons, List.drop_zero, skipAt, Nat.reduceAdd, Nat.reduceEqDiff, reduceIte, Nat.zero_add]); (repeat (any_goals (first | go_big_quiet_step ((first | (go_at_call 8; (with_reducible apply quiet_up); with_reducible exact near_c _ _ _ _) | (go_at_call 8; (with_reducible apply quiet_up); with_reducible exact near_c ⟨_, _, _⟩ ⟨_, _, _⟩ ⟨_, _, _⟩ _) | (go_at_call 12; (with_reducible apply quiet_up); with_reducible exact known6_c _) | (go_at_call 14; (with_reducible apply quiet_up); with_reducible exact htame_c _ _ (by omega) (by omega) (by omega) (by omega) _) | (go_at_call 19; (with_reducible apply quiet_up); with_reducible exact hin_c _ _ _ (by omega) (by omega) (by omega) (by omega) _) | (go_at_call 19; (with_reducible apply quiet_up); with_reducible exact hin_c ⟨_, _, _⟩ _ _ (by omega) (by omega) (by omega) (by omega) _) | (go_at_call 20; (with_reducible apply quiet_up_b); (with_reducible exact inside_c _ _ _); with_reducible assumption) | (go_at_call 20; (with_reducible apply quiet_up); with_reducible exact inside_c _ _ _) | (go_at_call 20; (with_reducible apply quiet_up_b); (with_reducible exact inside_c _ ⟨_, _, _⟩ _); with_reducible assumption) | (go_at_call 20; (with_reducible apply quiet_up); with_reducible exact inside_c _ ⟨_, _, _⟩ _) | (go_at_call 20; (with_reducible apply quiet_up_b); (with_reducible exact inside_c ⟨_, _, _⟩ _ _); with_reducible assumption) | (go_at_call 20; (with_reducible apply quiet_up); with_reducible exact inside_c ⟨_, _, _⟩ _ _) | (go_at_call 20; (with_reducible apply quiet_up_b); (with_reducible exact inside_c ⟨_, _, _⟩ ⟨_, _, _⟩ _); with_reducible assumption) | (go_at_call 20; (with_reducible apply quiet_up); with_reducible exact inside_c ⟨_, _, _⟩ ⟨_, _, _⟩ _) | (go_at_call 21; (with_reducible apply quiet_up_b); (with_reducible exact right_c _ _); with_reducible assumption) | (go_at_call 21; (with_reducible apply quiet_up); with_reducible exact right_c _ _) | (go_at_call 21; (with_reducible apply quiet_up_b); (with_reducible exact right_c ⟨_, _, _⟩ _); with_reducible assumption) | (go_at_call 21; (with_reducible apply quiet_up); with_reducible exact right_c ⟨_, _, _⟩ _))) | quiet_step ((first | (go_at_call 8; (with_reducible apply quiet_up); with_reducible exact near_c _ _ _ _) | (go_at_call 8; (with_reducible apply quiet_up); with_reducible exact near_c ⟨_, _, _⟩ ⟨_, _, _⟩ ⟨_, _, _⟩ _) | (go_at_call 12; (with_reducible apply quiet_up); with_reducible exact known6_c _) | (go_at_call 14; (with_reducible apply quiet_up); with_reducible exact htame_c _ _ (by omega) (by omega) (by omega) (by omega) _) | (go_at_call 19; (with_reducible apply quiet_up); with_reducible exact hin_c _ _ _ (by omega) (by omega) (by omega) (by omega) _) | (go_at_call 19; (with_reducible apply quiet_up); with_reducible exact hin_c ⟨_, _, _⟩ _ _ (by omega) (by omega) (by omega) (by omega) _) | (go_at_call 20; (with_reducible apply quiet_up_b); (with_reducible exact inside_c _ _ _); with_reducible assumption) | (go_at_call 20; (with_reducible apply quiet_up); with_reducible exact inside_c _ _ _) | (go_at_call 20; (with_reducible apply quiet_up_b); (with_reducible exact inside_c _ ⟨_, _, _⟩ _); with_reducible assumption) | (go_at_call 20; (with_reducible apply quiet_up); with_reducible exact inside_c _ ⟨_, _, _⟩ _) | (go_at_call 20; (with_reducible apply quiet_up_b); (with_reducible exact inside_c ⟨_, _, _⟩ _ _); with_reducible assumption) | (go_at_call 20; (with_reducible apply quiet_up); with_reducible exact inside_c ⟨_, _, _⟩ _ _) | (go_at_call 20; (with_reducible apply quiet_up_b); (with_reducible exact inside_c ⟨_, _, _⟩ ⟨_, _, _⟩ _); with_reducible assumption) | (go_at_call 20; (with_reducible apply quiet_up); with_reducible exact inside_c ⟨_, _, _⟩ ⟨_, _, _⟩ _) | (go_at_call 21; (with_reducible apply quiet_up_b); (with_reducible exact right_c _ _); with_reducible assumption) | (go_at_call 21; (with_reducible apply quiet_up); with_reducible exact right_c _ _) | (go_at_call 21; (with_reducible apply quiet_up_b); (with_reducible exact right_c ⟨_, _, _⟩ _); with_reducible assumption) | (go_at_call 21; (with_reducible apply quiet_up); with_reducible exact right_c ⟨_, _, _⟩ _)))))); (with_reducible refine wpQuiet_nil ?_); intro r1 r2))
    go_returns
    exact ⟨rfl, (by repeat (first | exact More.refl _ | refine More.alloc ?_ _ | refine More.more ?_ _ | refine More.drew ?_ | refine More.drewN ?_ _))⟩

set_option maxRecDepth 100000 in
theorem lifted (os : Os) (started : os.Started) (H : Type) (enc : TypeId × Value → H) :
    ReturnsInHanded {} Try.checked os 6 .any (Rows.quadLessSpec.pre6 enc Try.prog Try.f6 Rows.quadLessRow.domain false) (Rows.quadLessSpec.post enc Try.prog Try.f6 false true false false) := by
  refine returnsInHanded_of_change (C := Try.checked) own started (by kernel_rfl) Try.func6
    (ChangeSpec.witness6 (enc := enc) (C := Try.checked) false ⟨#[], #[.int .i64 0, .int .i64 0, .int .i64 0, .int .i64 0, .int .i64 0, .int .i64 0, .int .i64 0, .int .i64 0], []⟩ 8 (by kernel_rfl) (by kernel_rfl) (by kernel_rfl) (by kernel_rfl)) ?_
  intro W base args ds gs before hval0 hW hcnd _
  have hval : ∀ (j : Nat) t v, Try.f6.params[j]? = some t → args[j]? = some v → Value.okWide Try.prog W .any base t v := hval0
  have hW' := hW
  obtain ⟨p, q, hA0, hV, rfl, hfz, hnd⟩ := hW
  have hA : DataW.TrodAll enc Try.prog W 0 (fun _ => true) true Try.f6.params.toList args.toList ds p := hA0
  rw [Try.params6] at hA hval
  obtain ⟨v0, vs0, d0, ds0, p0, q0, hargs, rfl, rfl, h0, r0⟩ := trodAll_cons hA
  obtain ⟨v1, vs1, d1, ds1, p1, q1, rfl, rfl, rfl, h1, r1⟩ := trodAll_cons r0
  obtain ⟨v2, vs2, d2, ds2, p2, q2, rfl, rfl, rfl, h2, r2⟩ := trodAll_cons r1
  obtain ⟨v3, vs3, d3, ds3, p3, q3, rfl, rfl, rfl, h3, r3⟩ := trodAll_cons r2
  obtain ⟨v4, vs4, d4, ds4, p4, q4, rfl, rfl, rfl, h4, r4⟩ := trodAll_cons r3
  obtain ⟨v5, vs5, d5, ds5, p5, q5, rfl, rfl, rfl, h5, r5⟩ := trodAll_cons r4
  obtain ⟨v6, vs6, d6, ds6, p6, q6, rfl, rfl, rfl, h6, r6⟩ := trodAll_cons r5
  obtain ⟨v7, vs7, d7, ds7, p7, q7, rfl, rfl, rfl, h7, r7⟩ := trodAll_cons r6
  obtain ⟨rfl, rfl, rfl⟩ := trodAll_nil r7
  obtain rfl : args = #[v0, v1, v2, v3, v4, v5, v6, v7] := by cases args; simp_all
  obtain ⟨rfl, rfl⟩ := trodVars_none hV
  obtain ⟨a0, rfl, rfl, rfl, w0⟩ := open_int Try.underlying3 (hval 0 3 v0 rfl rfl) h0
  obtain ⟨a1, rfl, rfl, rfl, w1⟩ := open_int Try.underlying3 (hval 1 3 v1 rfl rfl) h1
  obtain ⟨a2, rfl, rfl, rfl, w2⟩ := open_int Try.underlying3 (hval 2 3 v2 rfl rfl) h2
  obtain ⟨a3, rfl, rfl, rfl, w3⟩ := open_int Try.underlying3 (hval 3 3 v3 rfl rfl) h3
  obtain ⟨a4, rfl, rfl, rfl, w4⟩ := open_int Try.underlying3 (hval 4 3 v4 rfl rfl) h4
  obtain ⟨a5, rfl, rfl, rfl, w5⟩ := open_int Try.underlying3 (hval 5 3 v5 rfl rfl) h5
  obtain ⟨a6, rfl, rfl, rfl, w6⟩ := open_int Try.underlying3 (hval 6 3 v6 rfl rfl) h6
  obtain ⟨a7, rfl, rfl, rfl, w7⟩ := open_int Try.underlying3 (hval 7 3 v7 rfl rfl) h7
  clear hA0 hval0
  simp only [List.append_nil] at hW'
  refine (walk a0 a1 a2 a3 a4 a5 a6 a7 w0 w1 w2 w3 w4 w5 w6 w7 W).mono fun e W' ⟨he, hg⟩ => ?_
  subst he
  exact ⟨_, rfl, _, _, _, [], [], [], hW', (trodAll_cons_mk (shut_bool Try.underlying4 _) trodAll_mk0), (trodAll_cons_mk (shut_int Try.underlying3 w0) (trodAll_cons_mk (shut_int Try.underlying3 w1) (trodAll_cons_mk (shut_int Try.underlying3 w2) (trodAll_cons_mk (shut_int Try.underlying3 w3) (trodAll_cons_mk (shut_int Try.underlying3 w4) (trodAll_cons_mk (shut_int Try.underlying3 w5) (trodAll_cons_mk (shut_int Try.underlying3 w6) (trodAll_cons_mk (shut_int Try.underlying3 w7) trodAll_mk0)))))))), rfl, hg.below.frame _, fun h => by cases h⟩

theorem over : Rows.quadLessRow.holds Try.pinned (OpenSpec.ofChange Rows.quadLessSpec) :=
  OpenClaim.holds_of_wide 6 Try.f6 rfl rfl rfl rfl rfl rfl rfl ⟨rfl, rfl, rfl, rfl, rfl⟩ rfl rfl rfl rfl rfl (by kernel_rfl) Try.func6 (by kernel_rfl)
    (of_decide_eq_true (by kernel_rfl)) (by unfold Func.isWrapper; first | (rw [if_pos (by decide +kernel)]; kernel_rfl) | (rw [if_neg (by decide +kernel)]; exact ⟨rfl, rfl⟩))
    (fun os started H enc _ => lifted os started H enc)

/-- The statement. -/
theorem proved : Rows.QuadLessSaid :=
  over
#print axioms proved
end Go.Proofs.Ythodlkiedhkbgaa.quadLess
