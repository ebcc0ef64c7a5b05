/-
  NewtonKnown: chapter 7's example, a root of 2, none, two, too few rounds, no function, no interval. A closed sentence: no condition.
-/
import Derived.Test.YtgkkfmjlgmoefaaRows
import Derived.Test.YtgkkfmjlgmoefaaLit7
import Derived.WalkKit
import Derived.ProofKit
import Derived.OpenShut
namespace Go.Proofs.Ytgkkfmjlgmoefaa.newtonKnown
open Go.ChangeShapes Go.WideShapes Go.ChangeAt Go.RowKit
set_option linter.unusedVariables false      -- a walk need not use every 'w<i>' (that an integer argument fits its kind)

theorem own : ownKnob Try.prog.godebug = none := by kernel_rfl

set_option maxRecDepth 100000 in
set_option maxHeartbeats 16000000 in
theorem walk  (w : World) :
    Calls Try.prog 6 #[] w fun e w' => e = .returned (.bool true) ∧ More w w' := by
  have k0 : ivNone = ⟨0, 0, true⟩ := by kernel_rfl
  have k1 : ivOf 65536 131072 = ⟨65536, 131072, false⟩ := by kernel_rfl
  have k2 : ivOf 131072 262144 = ⟨131072, 262144, false⟩ := by kernel_rfl
  have k3 : ivOf 0 262144 = ⟨0, 262144, false⟩ := by kernel_rfl
  have k4 : ivOf (-131072) 131072 = ⟨-131072, 131072, false⟩ := by kernel_rfl
  have s1 : nSolve squareF ⟨65536, 131072, false⟩ 20 = (⟨92681, 92682, false⟩, 1) := by kernel_rfl
  have s2 : nSolve lineF ⟨131072, 262144, false⟩ 20 = (⟨0, 0, true⟩, 2) := by kernel_rfl
  have s3 : nSolve lineF ⟨0, 262144, false⟩ 0 = (⟨0, 0, true⟩, 0) := by kernel_rfl
  have s4 : nSolve lineF ⟨0, 0, true⟩ 9 = (⟨0, 0, true⟩, 0) := by kernel_rfl
  have s5 : nSolve aboveF ⟨65536, 131072, false⟩ 20 = (⟨0, 0, true⟩, 2) := by kernel_rfl
  have s6 : nSolve squareF ⟨-131072, 131072, false⟩ 20 = (⟨0, 0, true⟩, 0) := by kernel_rfl
  have h1 : ivHas ⟨92681, 92682, false⟩ 92681 = true := by kernel_rfl
  go_enter Try.func6, Try.ntmps6
  go_wp2_with (first | (go_at_call 28; (with_reducible refine Calls.mono (solve_line ⟨_, _, _⟩ _ _) ?_); rintro e w' ⟨rfl, r, rfl⟩) | (go_at_call 28; (with_reducible refine Calls.mono (solve_square ⟨_, _, _⟩ _ _) ?_); rintro e w' ⟨rfl, r, rfl⟩) | (go_at_call 28; (with_reducible refine Calls.mono (solve_above ⟨_, _, _⟩ _ _) ?_); rintro e w' ⟨rfl, r, rfl⟩) | (go_at_call 15; (with_reducible refine (none_c _).mono ?_); rintro e w' ⟨rfl, r, rfl⟩) | (go_at_call 19; (with_reducible refine (has_c _ _ _).mono ?_); rintro e w' ⟨rfl, r, rfl⟩) | (go_at_call 19; (with_reducible refine (has_c ⟨_, _, _⟩ _ _).mono ?_); rintro e w' ⟨rfl, r, rfl⟩) | (go_at_call 24; (with_reducible refine (square_c _ _).mono ?_); rintro e w' ⟨rfl, r, rfl⟩) | (go_at_call 24; (with_reducible refine (square_c ⟨_, _, _⟩ _).mono ?_); rintro e w' ⟨rfl, r, rfl⟩) | (go_at_call 26; (with_reducible refine (above_c _ _).mono ?_); rintro e w' ⟨rfl, r, rfl⟩) | (go_at_call 26; (with_reducible refine (above_c ⟨_, _, _⟩ _).mono ?_); rintro e w' ⟨rfl, r, rfl⟩) | (go_at_call 28; (with_reducible refine (solve_nil () _ _ _).mono ?_); rintro e w' ⟨rfl, r, rfl⟩) | (go_at_call 28; (with_reducible refine (solve_nil () ⟨_, _, _⟩ _ _).mono ?_); rintro e w' ⟨rfl, r, rfl⟩) | (go_at_call 28; (with_reducible refine Calls.mono (solve_c _ _ _ (by (repeat (first | exact Moved.self | apply Moved.alloc | apply Moved.more | apply Moved.drew)))) ?_); rintro e w' ⟨rfl, r, rfl⟩) | (go_at_call 28; (with_reducible refine Calls.mono (solve_c _ ⟨_, _, _⟩ _ (by (repeat (first | exact Moved.self | apply Moved.alloc | apply Moved.more | apply Moved.drew)))) ?_); rintro e w' ⟨rfl, r, rfl⟩) | (go_at_call 29; (with_reducible refine (of_c _ _ _).mono ?_); rintro e w' ⟨rfl, r, rfl⟩) | (go_at_call 30; (with_reducible refine (line_c _ _).mono ?_); rintro e w' ⟨rfl, r, rfl⟩) | (go_at_call 30; (with_reducible refine (line_c ⟨_, _, _⟩ _).mono ?_); rintro e w' ⟨rfl, r, rfl⟩) | (go_at_call 31; (with_reducible refine (known7_c _).mono ?_); rintro e w' ⟨rfl, r, rfl⟩))
  (first | (with_reducible refine wp_more_quick_m (id := 10) ?_ ?_ ?_) | (refine wp_more_quick (id := 10) ?_ ?_ ?_))
  · kernel_rfl
  · kernel_rfl
  (try simp only [List.append_eq, List.cons_append, List.nil_append])
  (repeat (any_goals (first | go_big_quiet_step ((first | (go_at_call 15; (with_reducible apply quiet_call); with_reducible exact none_c _) | (go_at_call 19; (with_reducible apply quiet_call_b); (with_reducible exact has_c _ _ _); with_reducible assumption) | (go_at_call 19; (with_reducible apply quiet_call); with_reducible exact has_c _ _ _) | (go_at_call 19; (with_reducible apply quiet_call_b); (with_reducible exact has_c ⟨_, _, _⟩ _ _); with_reducible assumption) | (go_at_call 19; (with_reducible apply quiet_call); with_reducible exact has_c ⟨_, _, _⟩ _ _) | (go_at_call 24; (with_reducible apply quiet_call); with_reducible exact square_c _ _) | (go_at_call 24; (with_reducible apply quiet_call); with_reducible exact square_c ⟨_, _, _⟩ _) | (go_at_call 26; (with_reducible apply quiet_call); with_reducible exact above_c _ _) | (go_at_call 26; (with_reducible apply quiet_call); with_reducible exact above_c ⟨_, _, _⟩ _) | (go_at_call 28; (with_reducible apply quiet_call); with_reducible exact solve_nil () _ _ _) | (go_at_call 28; (with_reducible apply quiet_call); with_reducible exact solve_nil () ⟨_, _, _⟩ _ _) | (go_at_call 29; (with_reducible apply quiet_call); with_reducible exact of_c _ _ _) | (go_at_call 30; (with_reducible apply quiet_call); with_reducible exact line_c _ _) | (go_at_call 30; (with_reducible apply quiet_call); with_reducible exact line_c ⟨_, _, _⟩ _) | (go_at_call 31; (with_reducible apply quiet_call); with_reducible exact known7_c _))))))
  (with_reducible refine wpQuiet_nil ?_)
  intro r
  go_wp2_with (first | (go_at_call 28; (with_reducible refine Calls.mono (solve_line ⟨_, _, _⟩ _ _) ?_); rintro e w' ⟨rfl, r, rfl⟩) | (go_at_call 28; (with_reducible refine Calls.mono (solve_square ⟨_, _, _⟩ _ _) ?_); rintro e w' ⟨rfl, r, rfl⟩) | (go_at_call 28; (with_reducible refine Calls.mono (solve_above ⟨_, _, _⟩ _ _) ?_); rintro e w' ⟨rfl, r, rfl⟩) | (go_at_call 15; (with_reducible refine (none_c _).mono ?_); rintro e w' ⟨rfl, r, rfl⟩) | (go_at_call 19; (with_reducible refine (has_c _ _ _).mono ?_); rintro e w' ⟨rfl, r, rfl⟩) | (go_at_call 19; (with_reducible refine (has_c ⟨_, _, _⟩ _ _).mono ?_); rintro e w' ⟨rfl, r, rfl⟩) | (go_at_call 24; (with_reducible refine (square_c _ _).mono ?_); rintro e w' ⟨rfl, r, rfl⟩) | (go_at_call 24; (with_reducible refine (square_c ⟨_, _, _⟩ _).mono ?_); rintro e w' ⟨rfl, r, rfl⟩) | (go_at_call 26; (with_reducible refine (above_c _ _).mono ?_); rintro e w' ⟨rfl, r, rfl⟩) | (go_at_call 26; (with_reducible refine (above_c ⟨_, _, _⟩ _).mono ?_); rintro e w' ⟨rfl, r, rfl⟩) | (go_at_call 28; (with_reducible refine (solve_nil () _ _ _).mono ?_); rintro e w' ⟨rfl, r, rfl⟩) | (go_at_call 28; (with_reducible refine (solve_nil () ⟨_, _, _⟩ _ _).mono ?_); rintro e w' ⟨rfl, r, rfl⟩) | (go_at_call 28; (with_reducible refine Calls.mono (solve_c _ _ _ (by (repeat (first | exact Moved.self | apply Moved.alloc | apply Moved.more | apply Moved.drew)))) ?_); rintro e w' ⟨rfl, r, rfl⟩) | (go_at_call 28; (with_reducible refine Calls.mono (solve_c _ ⟨_, _, _⟩ _ (by (repeat (first | exact Moved.self | apply Moved.alloc | apply Moved.more | apply Moved.drew)))) ?_); rintro e w' ⟨rfl, r, rfl⟩) | (go_at_call 29; (with_reducible refine (of_c _ _ _).mono ?_); rintro e w' ⟨rfl, r, rfl⟩) | (go_at_call 30; (with_reducible refine (line_c _ _).mono ?_); rintro e w' ⟨rfl, r, rfl⟩) | (go_at_call 30; (with_reducible refine (line_c ⟨_, _, _⟩ _).mono ?_); rintro e w' ⟨rfl, r, rfl⟩) | (go_at_call 31; (with_reducible refine (known7_c _).mono ?_); rintro e w' ⟨rfl, r, rfl⟩))
  go_returns
  exact ⟨rfl, (by repeat (first | exact More.refl _ | refine More.alloc ?_ _ | refine More.more ?_ _ | refine More.drew ?_ | refine More.drewN ?_ _))⟩

set_option maxRecDepth 100000 in
theorem lifted (os : Os) (started : os.Started) (H : Type) (enc : TypeId × Value → H) :
    ReturnsInHanded {} Try.checked os 6 .any (Rows.newtonKnownSpec.pre6 enc Try.prog Try.f6 Rows.newtonKnownRow.domain false) (Rows.newtonKnownSpec.post enc Try.prog Try.f6 false true false false) := by
  refine returnsInHanded_of_change (C := Try.checked) own started (by kernel_rfl) Try.func6
    (ChangeSpec.witness6 (enc := enc) (C := Try.checked) false ⟨#[], #[], []⟩ 8 (by kernel_rfl) (by kernel_rfl) (by kernel_rfl) (by kernel_rfl)) ?_
  intro W base args ds gs before hval0 hW hcnd _
  have hval : ∀ (j : Nat) t v, Try.f6.params[j]? = some t → args[j]? = some v → Value.okWide Try.prog W .any base t v := hval0
  have hW' := hW
  obtain ⟨p, q, hA0, hV, rfl, hfz, hnd⟩ := hW
  have hA : DataW.TrodAll enc Try.prog W 0 (fun _ => true) true Try.f6.params.toList args.toList ds p := hA0
  rw [Try.params6] at hA hval
  obtain ⟨rfl, rfl, rfl⟩ := trodAll_none hA
  obtain ⟨rfl, rfl⟩ := trodVars_none hV
  clear hA0 hval0
  simp only [List.append_nil] at hW'
  refine (walk  W).mono fun e W' ⟨he, hg⟩ => ?_
  subst he
  exact ⟨_, rfl, _, _, _, [], [], [], hW', (trodAll_cons_mk (shut_bool Try.underlying4 _) trodAll_mk0), rfl, rfl, hg.below.frame _, fun h => by cases h⟩

theorem over : Rows.newtonKnownRow.holds Try.pinned (OpenSpec.ofChange Rows.newtonKnownSpec) :=
  OpenClaim.holds_of_wide 6 Try.f6 rfl rfl rfl rfl rfl rfl rfl ⟨rfl, rfl, rfl, rfl, rfl⟩ rfl rfl rfl rfl rfl (by kernel_rfl) Try.func6 (by kernel_rfl)
    (of_decide_eq_true (by kernel_rfl)) (by unfold Func.isWrapper; first | (rw [if_pos (by decide +kernel)]; kernel_rfl) | (rw [if_neg (by decide +kernel)]; exact ⟨rfl, rfl⟩))
    (fun os started H enc _ => lifted os started H enc)

/-- The statement. -/
theorem proved : Rows.NewtonKnownSaid :=
  over
#print axioms proved
end Go.Proofs.Ytgkkfmjlgmoefaa.newtonKnown
