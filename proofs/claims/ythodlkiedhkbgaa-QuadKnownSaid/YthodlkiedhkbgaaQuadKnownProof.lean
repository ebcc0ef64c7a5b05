/-
  QuadKnown: chapter 6's example, two roots, none, what can't be said, as the document says. A closed sentence: no condition.
-/
import Derived.Test.YthodlkiedhkbgaaRows
import Derived.Test.YthodlkiedhkbgaaLit6
import Derived.WalkKit
import Derived.ProofKit
import Derived.OpenShut
namespace Go.Proofs.Ythodlkiedhkbgaa.quadKnown
open Go.ChangeShapes Go.WideShapes Go.ChangeAt Go.RowKit
set_option linter.unusedVariables false      -- a walk need not use every 'w<i>' (that an integer argument fits its kind)

theorem own : ownKnob Try.prog.godebug = none := by kernel_rfl

set_option maxRecDepth 100000 in
set_option maxHeartbeats 16000000 in
theorem walk  (w : World) :
    Calls Try.prog 3 #[] w fun e w' => e = .returned (.bool true) ∧ More w w' := by
  go_enter Try.func3, Try.ntmps3
  go_wp2_with (first | (go_at_call 9; (with_reducible refine (lit_Lit6_0 _).mono ?_); rintro e w' ⟨rfl, r, rfl⟩) | (go_at_call 9; (with_reducible refine (lit_Lit6_1 _).mono ?_); rintro e w' ⟨rfl, r, rfl⟩) | (go_at_call 9; (with_reducible refine (lit_Lit6_2 _).mono ?_); rintro e w' ⟨rfl, r, rfl⟩) | (go_at_call 9; (with_reducible refine (lit_Lit6_3 _).mono ?_); rintro e w' ⟨rfl, r, rfl⟩) | (go_at_call 9; (with_reducible refine (lit_Lit6_4 _).mono ?_); rintro e w' ⟨rfl, r, rfl⟩) | (go_at_call 9; (with_reducible refine (lit_Lit6_5 _).mono ?_); rintro e w' ⟨rfl, r, rfl⟩) | (go_at_call 10; (with_reducible refine (lit_Lit6_6 _).mono ?_); rintro e w' ⟨rfl, r, rfl⟩) | (go_at_call 11; (with_reducible refine (lit_Lit6_7 _).mono ?_); rintro e w' ⟨rfl, r, rfl⟩) | (go_at_call 8; (with_reducible refine (lit_Lit6_8 _).mono ?_); rintro e w' ⟨rfl, r, rfl⟩) | (go_at_call 8; (with_reducible refine (lit_Lit6_9 _).mono ?_); rintro e w' ⟨rfl, r, rfl⟩) | (go_at_call 8; (with_reducible refine (lit_Lit6_10 _).mono ?_); rintro e w' ⟨rfl, r, rfl⟩) | (go_at_call 8; (with_reducible refine (lit_Lit6_11 _).mono ?_); rintro e w' ⟨rfl, r, rfl⟩) | (go_at_call 8; (with_reducible refine (lit_Lit6_12 _).mono ?_); rintro e w' ⟨rfl, r, rfl⟩) | (go_at_call 8; (with_reducible refine (near_c _ _ _ _).mono ?_); rintro e w' ⟨rfl, r, rfl⟩) | (go_at_call 8; (with_reducible refine (near_c ⟨_, _, _⟩ ⟨_, _, _⟩ ⟨_, _, _⟩ _).mono ?_); rintro e w' ⟨rfl, r, rfl⟩) | (go_at_call 9; (with_reducible refine (whole_c _ _).mono ?_); rintro e w' ⟨rfl, r, rfl⟩) | (go_at_call 10; (with_reducible refine (of_c _ _ _).mono ?_); rintro e w' ⟨rfl, r, rfl⟩) | (go_at_call 11; (with_reducible refine (none_c _).mono ?_); rintro e w' ⟨rfl, r, rfl⟩) | (go_at_call 12; (with_reducible refine (known6_c _).mono ?_); rintro e w' ⟨rfl, r, rfl⟩))
  (first | (with_reducible refine wp_more_quick_m (id := 6) ?_ ?_ ?_) | (refine wp_more_quick (id := 6) ?_ ?_ ?_))
  · kernel_rfl
  · kernel_rfl
  (try simp only [List.append_eq, List.cons_append, List.nil_append])
  (repeat (any_goals (first | go_big_quiet_step ((first | (go_at_call 9; (with_reducible apply quiet_call); with_reducible exact lit_Lit6_0 _) | (go_at_call 9; (with_reducible apply quiet_call); with_reducible exact lit_Lit6_1 _) | (go_at_call 9; (with_reducible apply quiet_call); with_reducible exact lit_Lit6_2 _) | (go_at_call 9; (with_reducible apply quiet_call); with_reducible exact lit_Lit6_3 _) | (go_at_call 9; (with_reducible apply quiet_call); with_reducible exact lit_Lit6_4 _) | (go_at_call 9; (with_reducible apply quiet_call); with_reducible exact lit_Lit6_5 _) | (go_at_call 10; (with_reducible apply quiet_call); with_reducible exact lit_Lit6_6 _) | (go_at_call 11; (with_reducible apply quiet_call); with_reducible exact lit_Lit6_7 _) | (go_at_call 8; (with_reducible apply quiet_call); with_reducible exact lit_Lit6_8 _) | (go_at_call 8; (with_reducible apply quiet_call); with_reducible exact lit_Lit6_9 _) | (go_at_call 8; (with_reducible apply quiet_call); with_reducible exact lit_Lit6_10 _) | (go_at_call 8; (with_reducible apply quiet_call); with_reducible exact lit_Lit6_11 _) | (go_at_call 8; (with_reducible apply quiet_call); with_reducible exact lit_Lit6_12 _) | (go_at_call 8; (with_reducible apply quiet_call); with_reducible exact near_c _ _ _ _) | (go_at_call 8; (with_reducible apply quiet_call); with_reducible exact near_c ⟨_, _, _⟩ ⟨_, _, _⟩ ⟨_, _, _⟩ _) | (go_at_call 9; (with_reducible apply quiet_call); with_reducible exact whole_c _ _) | (go_at_call 10; (with_reducible apply quiet_call); with_reducible exact of_c _ _ _) | (go_at_call 11; (with_reducible apply quiet_call); with_reducible exact none_c _) | (go_at_call 12; (with_reducible apply quiet_call); with_reducible exact known6_c _))))))
  (with_reducible refine wpQuiet_nil ?_)
  intro r
  go_wp2_with (first | (go_at_call 9; (with_reducible refine (lit_Lit6_0 _).mono ?_); rintro e w' ⟨rfl, r, rfl⟩) | (go_at_call 9; (with_reducible refine (lit_Lit6_1 _).mono ?_); rintro e w' ⟨rfl, r, rfl⟩) | (go_at_call 9; (with_reducible refine (lit_Lit6_2 _).mono ?_); rintro e w' ⟨rfl, r, rfl⟩) | (go_at_call 9; (with_reducible refine (lit_Lit6_3 _).mono ?_); rintro e w' ⟨rfl, r, rfl⟩) | (go_at_call 9; (with_reducible refine (lit_Lit6_4 _).mono ?_); rintro e w' ⟨rfl, r, rfl⟩) | (go_at_call 9; (with_reducible refine (lit_Lit6_5 _).mono ?_); rintro e w' ⟨rfl, r, rfl⟩) | (go_at_call 10; (with_reducible refine (lit_Lit6_6 _).mono ?_); rintro e w' ⟨rfl, r, rfl⟩) | (go_at_call 11; (with_reducible refine (lit_Lit6_7 _).mono ?_); rintro e w' ⟨rfl, r, rfl⟩) | (go_at_call 8; (with_reducible refine (lit_Lit6_8 _).mono ?_); rintro e w' ⟨rfl, r, rfl⟩) | (go_at_call 8; (with_reducible refine (lit_Lit6_9 _).mono ?_); rintro e w' ⟨rfl, r, rfl⟩) | (go_at_call 8; (with_reducible refine (lit_Lit6_10 _).mono ?_); rintro e w' ⟨rfl, r, rfl⟩) | (go_at_call 8; (with_reducible refine (lit_Lit6_11 _).mono ?_); rintro e w' ⟨rfl, r, rfl⟩) | (go_at_call 8; (with_reducible refine (lit_Lit6_12 _).mono ?_); rintro e w' ⟨rfl, r, rfl⟩) | (go_at_call 8; (with_reducible refine (near_c _ _ _ _).mono ?_); rintro e w' ⟨rfl, r, rfl⟩) | (go_at_call 8; (with_reducible refine (near_c ⟨_, _, _⟩ ⟨_, _, _⟩ ⟨_, _, _⟩ _).mono ?_); rintro e w' ⟨rfl, r, rfl⟩) | (go_at_call 9; (with_reducible refine (whole_c _ _).mono ?_); rintro e w' ⟨rfl, r, rfl⟩) | (go_at_call 10; (with_reducible refine (of_c _ _ _).mono ?_); rintro e w' ⟨rfl, r, rfl⟩) | (go_at_call 11; (with_reducible refine (none_c _).mono ?_); rintro e w' ⟨rfl, r, rfl⟩) | (go_at_call 12; (with_reducible refine (known6_c _).mono ?_); rintro e w' ⟨rfl, r, rfl⟩))
  go_returns
  exact ⟨rfl, (by repeat (first | exact More.refl _ | refine More.alloc ?_ _ | refine More.more ?_ _ | refine More.drew ?_ | refine More.drewN ?_ _))⟩

set_option maxRecDepth 100000 in
theorem lifted (os : Os) (started : os.Started) (H : Type) (enc : TypeId × Value → H) :
    ReturnsInHanded {} Try.checked os 3 .any (Rows.quadKnownSpec.pre6 enc Try.prog Try.f3 Rows.quadKnownRow.domain false) (Rows.quadKnownSpec.post enc Try.prog Try.f3 false true false false) := by
  refine returnsInHanded_of_change (C := Try.checked) own started (by kernel_rfl) Try.func3
    (ChangeSpec.witness6 (enc := enc) (C := Try.checked) false ⟨#[], #[], []⟩ 8 (by kernel_rfl) (by kernel_rfl) (by kernel_rfl) (by kernel_rfl)) ?_
  intro W base args ds gs before hval0 hW hcnd _
  have hval : ∀ (j : Nat) t v, Try.f3.params[j]? = some t → args[j]? = some v → Value.okWide Try.prog W .any base t v := hval0
  have hW' := hW
  obtain ⟨p, q, hA0, hV, rfl, hfz, hnd⟩ := hW
  have hA : DataW.TrodAll enc Try.prog W 0 (fun _ => true) true Try.f3.params.toList args.toList ds p := hA0
  rw [Try.params3] at hA hval
  obtain ⟨rfl, rfl, rfl⟩ := trodAll_none hA
  obtain ⟨rfl, rfl⟩ := trodVars_none hV
  clear hA0 hval0
  simp only [List.append_nil] at hW'
  refine (walk  W).mono fun e W' ⟨he, hg⟩ => ?_
  subst he
  exact ⟨_, rfl, _, _, _, [], [], [], hW', (trodAll_cons_mk (shut_bool Try.underlying4 _) trodAll_mk0), rfl, rfl, hg.below.frame _, fun h => by cases h⟩

theorem over : Rows.quadKnownRow.holds Try.pinned (OpenSpec.ofChange Rows.quadKnownSpec) :=
  OpenClaim.holds_of_wide 3 Try.f3 rfl rfl rfl rfl rfl rfl rfl ⟨rfl, rfl, rfl, rfl, rfl⟩ rfl rfl rfl rfl rfl (by kernel_rfl) Try.func3 (by kernel_rfl)
    (of_decide_eq_true (by kernel_rfl)) (by unfold Func.isWrapper; first | (rw [if_pos (by decide +kernel)]; kernel_rfl) | (rw [if_neg (by decide +kernel)]; exact ⟨rfl, rfl⟩))
    (fun os started H enc _ => lifted os started H enc)

/-- The statement. -/
theorem proved : Rows.QuadKnownSaid :=
  over
#print axioms proved
end Go.Proofs.Ythodlkiedhkbgaa.quadKnown
