/-
  GaussKnown: chapter 8's example, its bounds, what is no whole number, and beams, as the document says. A closed sentence: no condition.
-/
import Derived.Test.YtnkiikdlmlaklaaRows
import Derived.Test.YtnkiikdlmlaklaaKnown8
import Derived.WalkKit
import Derived.ProofKit
import Derived.OpenShut
namespace Go.Proofs.Ytnkiikdlmlaklaa.gaussKnown
open Go.ChangeShapes Go.WideShapes Go.ChangeAt Go.RowKit
set_option linter.unusedVariables false      -- a walk need not use every 'w<i>' (that an integer argument fits its kind)

theorem own : ownKnob Try.prog.godebug = none := by kernel_rfl

set_option maxRecDepth 100000 in
set_option maxHeartbeats 16000000 in
theorem walk  (w : World) :
    Calls Try.prog 3 #[] w fun e w' => e = .returned (.bool true) ∧ More w w' := by
  have g0 := ord_0
  have g1 := ord_1
  have g2 := ord_2
  have g3 := ord_3
  have g4 := ord_4
  have g5 := ord_5
  have g6 := ord_6
  have g7 := ord_7
  have hn : ∀ T (w : World), (binOp .quo T (.float .f64 0) (.float .f64 0)).run Try.prog w = .ok (.float .f64 (nanw w)) w.drew := fun T w => run_nan T w
  go_enter Try.func3, Try.ntmps3
  go_wp2_with (first | (go_at_call 8; (refine (cells1_c _).mono ?_); rintro e w' ⟨b0, o0, c0, rfl, ⟨r, rfl⟩, hb0, hc0, hc1, hc2, hc3⟩))
  refine at_calls (w := w) (R := fun W => b0 < W.heap.size ∧ W.cell? ⟨b0, o0, none⟩ = some (.complex .f64 13830554455654793216 13830554455654793216) ∧ W.cell? ⟨b0, o0 + 1, none⟩ = some (.complex .f64 0 13830554455654793216) ∧ W.cell? ⟨b0, o0 + 2, none⟩ = some (.complex .f64 13830554455654793216 0) ∧ W.cell? ⟨b0, o0 + 3, none⟩ = some (.complex .f64 0 0)) (by repeat (first | exact More.refl _ | refine More.alloc ?_ _ | refine More.more ?_ _ | refine More.drew ?_ | refine More.drewN ?_ _)) ⟨hb0, hc0, hc1, hc2, hc3⟩ ?_
  clear hb0 hc0 hc1 hc2 hc3
  rintro W1 hM ⟨hb0, hc0, hc1, hc2, hc3⟩
  have HM := Lib.hid hM
  clear hM
  go_wp2_with (first | (go_at_call 11; (with_reducible refine (k8_0 _).mono ?_); rintro e w' ⟨rfl, rfl⟩) | (go_at_call 11; (with_reducible refine (k8_1 _).mono ?_); rintro e w' ⟨rfl, rfl⟩) | (go_at_call 11; (with_reducible refine (k8_2 _).mono ?_); rintro e w' ⟨rfl, rfl⟩) | (go_at_call 12; (with_reducible refine (k8_3 _).mono ?_); rintro e w' ⟨rfl, rfl⟩) | (go_at_call 13; (with_reducible refine (k8_4 _).mono ?_); rintro e w' ⟨rfl, rfl⟩) | (go_at_call 14; (with_reducible refine (k8_5 _).mono ?_); rintro e w' ⟨rfl, rfl⟩) | (go_at_call 13; (with_reducible refine (k8_6 _).mono ?_); rintro e w' ⟨rfl, rfl⟩) | (go_at_call 13; (with_reducible refine (k8_7 _).mono ?_); rintro e w' ⟨rfl, rfl⟩) | (go_at_call 14; (with_reducible refine (k8_8 _).mono ?_); rintro e w' ⟨rfl, rfl⟩) | (go_at_call 12; (with_reducible refine (k8_9 _).mono ?_); rintro e w' ⟨rfl, rfl⟩) | (go_at_call 15; (with_reducible refine (k8_10 _).mono ?_); rintro e w' ⟨rfl, rfl⟩) | (go_at_call 15; (with_reducible refine (k8_11 _).mono ?_); rintro e w' ⟨rfl, rfl⟩) | (go_at_call 15; (with_reducible refine (k8_12 _).mono ?_); rintro e w' ⟨rfl, rfl⟩) | (go_at_call 15; (with_reducible refine (k8_13 _).mono ?_); rintro e w' ⟨rfl, rfl⟩) | (go_at_call 15; (with_reducible refine (k8_14 _).mono ?_); rintro e w' ⟨rfl, rfl⟩) | (go_at_call 9; (with_reducible refine (k8_15 _).mono ?_); rintro e w' ⟨rfl, r, rfl⟩) | (go_at_call 9; (with_reducible refine (k8_16 _).mono ?_); rintro e w' ⟨rfl, r, rfl⟩) | (go_at_call 9; (with_reducible refine (k8_17 _).mono ?_); rintro e w' ⟨rfl, r, rfl⟩) | (go_at_call 9; (with_reducible refine (k8_18 _).mono ?_); rintro e w' ⟨rfl, r, rfl⟩) | (go_at_call 16; (with_reducible refine (k8_19 _).mono ?_); rintro e w' ⟨rfl, r, rfl⟩) | (go_at_call 16; (with_reducible refine (k8_20 _).mono ?_); rintro e w' ⟨rfl, r, rfl⟩) | (go_at_call 13; (with_reducible refine (k8_nan1 _).mono ?_); rintro e w' ⟨rfl, rfl⟩) | (go_at_call 11; (with_reducible refine (k8_nan2 _).mono ?_); rintro e w' ⟨rfl, rfl⟩) | (go_at_call 8; (refine (cells1_c _).mono ?_); rintro e w' ⟨b0, o0, c0, rfl, ⟨r, rfl⟩, hb0, hc0, hc1, hc2, hc3⟩) | (go_at_call 9; (with_reducible refine (carry_c _ _ (by (try dsimp only); omega) (by (try dsimp only); omega) (by (try dsimp only); omega) (by (try dsimp only); omega) (by (try dsimp only); omega) (by (try dsimp only); omega) (by (try dsimp only); omega) (by (try dsimp only); omega) _).mono ?_); rintro e w' ⟨rfl, r, rfl⟩) | (go_at_call 9; (with_reducible refine (carry_c _ ⟨_, _, _, _⟩ (by (try dsimp only); omega) (by (try dsimp only); omega) (by (try dsimp only); omega) (by (try dsimp only); omega) (by (try dsimp only); omega) (by (try dsimp only); omega) (by (try dsimp only); omega) (by (try dsimp only); omega) _).mono ?_); rintro e w' ⟨rfl, r, rfl⟩) | (go_at_call 9; (with_reducible refine (carry_c ⟨⟨_, _, _, _⟩, ⟨_, _, _, _⟩⟩ _ (by (try dsimp only); omega) (by (try dsimp only); omega) (by (try dsimp only); omega) (by (try dsimp only); omega) (by (try dsimp only); omega) (by (try dsimp only); omega) (by (try dsimp only); omega) (by (try dsimp only); omega) _).mono ?_); rintro e w' ⟨rfl, r, rfl⟩) | (go_at_call 9; (with_reducible refine (carry_c ⟨⟨_, _, _, _⟩, ⟨_, _, _, _⟩⟩ ⟨_, _, _, _⟩ (by (try dsimp only); omega) (by (try dsimp only); omega) (by (try dsimp only); omega) (by (try dsimp only); omega) (by (try dsimp only); omega) (by (try dsimp only); omega) (by (try dsimp only); omega) (by (try dsimp only); omega) _).mono ?_); rintro e w' ⟨rfl, r, rfl⟩) | (go_at_call 10; (with_reducible refine (known8_c _).mono ?_); rintro e w' ⟨rfl, r, rfl⟩) | (go_at_call 11; (with_reducible refine (turn_c _ _ (by (try dsimp only); omega) (by (try dsimp only); omega) (by (try dsimp only); omega) (by (try dsimp only); omega) _).mono ?_); rintro e w' ⟨rfl, rfl⟩) | (go_at_call 11; (with_reducible refine (turn_c ⟨_, _, _, _⟩ _ (by (try dsimp only); omega) (by (try dsimp only); omega) (by (try dsimp only); omega) (by (try dsimp only); omega) _).mono ?_); rintro e w' ⟨rfl, rfl⟩) | (go_at_call 11; (with_reducible refine (turn_n _ _ (by assumption) _).mono ?_); rintro e w' ⟨rfl, rfl⟩) | (go_at_call 11; (with_reducible refine (turn_n ⟨_, _⟩ _ (by assumption) _).mono ?_); rintro e w' ⟨rfl, rfl⟩) | (go_at_call 12; (with_reducible refine (mirror_c _ (by (try dsimp only); omega) (by (try dsimp only); omega) (by (try dsimp only); omega) (by (try dsimp only); omega) _).mono ?_); rintro e w' ⟨rfl, rfl⟩) | (go_at_call 12; (with_reducible refine (mirror_c ⟨_, _, _, _⟩ (by (try dsimp only); omega) (by (try dsimp only); omega) (by (try dsimp only); omega) (by (try dsimp only); omega) _).mono ?_); rintro e w' ⟨rfl, rfl⟩) | (go_at_call 12; (with_reducible refine (mirror_n _ (by assumption) _).mono ?_); rintro e w' ⟨rfl, rfl⟩) | (go_at_call 12; (with_reducible refine (mirror_n ⟨_, _⟩ (by assumption) _).mono ?_); rintro e w' ⟨rfl, rfl⟩) | (go_at_call 13; (with_reducible refine (whole_x _ (by (try dsimp only); omega) (by (try dsimp only); omega) (by (try dsimp only); omega) (by (try dsimp only); omega) _).mono ?_); rintro e w' ⟨rfl, rfl⟩) | (go_at_call 13; (with_reducible refine (whole_x ⟨_, _, _, _⟩ (by (try dsimp only); omega) (by (try dsimp only); omega) (by (try dsimp only); omega) (by (try dsimp only); omega) _).mono ?_); rintro e w' ⟨rfl, rfl⟩) | (go_at_call 13; (with_reducible refine (whole_n _ (by assumption) _).mono ?_); rintro e w' ⟨rfl, rfl⟩) | (go_at_call 13; (with_reducible refine (whole_n ⟨_, _⟩ (by assumption) _).mono ?_); rintro e w' ⟨rfl, rfl⟩) | (go_at_call 14; (with_reducible refine (gnorm_c _ (by (try dsimp only); omega) (by (try dsimp only); omega) (by (try dsimp only); omega) (by (try dsimp only); omega) _).mono ?_); rintro e w' ⟨rfl, rfl⟩) | (go_at_call 14; (with_reducible refine (gnorm_c ⟨_, _, _, _⟩ (by (try dsimp only); omega) (by (try dsimp only); omega) (by (try dsimp only); omega) (by (try dsimp only); omega) _).mono ?_); rintro e w' ⟨rfl, rfl⟩) | (go_at_call 14; (with_reducible refine (gnorm_n _ (by assumption) _).mono ?_); rintro e w' ⟨rfl, rfl⟩) | (go_at_call 14; (with_reducible refine (gnorm_n ⟨_, _⟩ (by assumption) _).mono ?_); rintro e w' ⟨rfl, rfl⟩) | (go_at_call 15; (with_reducible refine (disc_c _ _ (by (try dsimp only); omega) (by (try dsimp only); omega) (by (try dsimp only); omega) (by (try dsimp only); omega) _).mono ?_); rintro e w' ⟨rfl, rfl⟩) | (go_at_call 15; (with_reducible refine (disc_c ⟨_, _, _, _⟩ _ (by (try dsimp only); omega) (by (try dsimp only); omega) (by (try dsimp only); omega) (by (try dsimp only); omega) _).mono ?_); rintro e w' ⟨rfl, rfl⟩) | (go_at_call 15; (with_reducible refine (disc_n _ _ (by assumption) _).mono ?_); rintro e w' ⟨rfl, rfl⟩) | (go_at_call 15; (with_reducible refine (disc_n ⟨_, _⟩ _ (by assumption) _).mono ?_); rintro e w' ⟨rfl, rfl⟩) | (go_at_call 16; (with_reducible refine (same_b _ _ (by (try dsimp only); omega) (by (try dsimp only); omega) (by (try dsimp only); omega) (by (try dsimp only); omega) (by (try dsimp only); omega) (by (try dsimp only); omega) (by (try dsimp only); omega) (by (try dsimp only); omega) (by (try dsimp only); omega) (by (try dsimp only); omega) (by (try dsimp only); omega) (by (try dsimp only); omega) (by (try dsimp only); omega) (by (try dsimp only); omega) (by (try dsimp only); omega) (by (try dsimp only); omega) _).mono ?_); rintro e w' ⟨rfl, r, rfl⟩) | (go_at_call 16; (with_reducible refine (same_b _ ⟨⟨_, _, _, _⟩, ⟨_, _, _, _⟩⟩ (by (try dsimp only); omega) (by (try dsimp only); omega) (by (try dsimp only); omega) (by (try dsimp only); omega) (by (try dsimp only); omega) (by (try dsimp only); omega) (by (try dsimp only); omega) (by (try dsimp only); omega) (by (try dsimp only); omega) (by (try dsimp only); omega) (by (try dsimp only); omega) (by (try dsimp only); omega) (by (try dsimp only); omega) (by (try dsimp only); omega) (by (try dsimp only); omega) (by (try dsimp only); omega) _).mono ?_); rintro e w' ⟨rfl, r, rfl⟩) | (go_at_call 16; (with_reducible refine (same_b ⟨⟨_, _, _, _⟩, ⟨_, _, _, _⟩⟩ _ (by (try dsimp only); omega) (by (try dsimp only); omega) (by (try dsimp only); omega) (by (try dsimp only); omega) (by (try dsimp only); omega) (by (try dsimp only); omega) (by (try dsimp only); omega) (by (try dsimp only); omega) (by (try dsimp only); omega) (by (try dsimp only); omega) (by (try dsimp only); omega) (by (try dsimp only); omega) (by (try dsimp only); omega) (by (try dsimp only); omega) (by (try dsimp only); omega) (by (try dsimp only); omega) _).mono ?_); rintro e w' ⟨rfl, r, rfl⟩) | (go_at_call 16; (with_reducible refine (same_b ⟨⟨_, _, _, _⟩, ⟨_, _, _, _⟩⟩ ⟨⟨_, _, _, _⟩, ⟨_, _, _, _⟩⟩ (by (try dsimp only); omega) (by (try dsimp only); omega) (by (try dsimp only); omega) (by (try dsimp only); omega) (by (try dsimp only); omega) (by (try dsimp only); omega) (by (try dsimp only); omega) (by (try dsimp only); omega) (by (try dsimp only); omega) (by (try dsimp only); omega) (by (try dsimp only); omega) (by (try dsimp only); omega) (by (try dsimp only); omega) (by (try dsimp only); omega) (by (try dsimp only); omega) (by (try dsimp only); omega) _).mono ?_); rintro e w' ⟨rfl, r, rfl⟩))
  go_returns
  exact ⟨rfl, (HM.out).trans (by repeat (first | exact More.refl _ | refine More.alloc ?_ _ | refine More.more ?_ _ | refine More.drew ?_ | refine More.drewN ?_ _))⟩

set_option maxRecDepth 100000 in
theorem lifted (os : Os) (started : os.Started) (H : Type) (enc : TypeId × Value → H) :
    ReturnsInHanded {} Try.checked os 3 .any (Rows.gaussKnownSpec.pre6 enc Try.prog Try.f3 Rows.gaussKnownRow.domain false) (Rows.gaussKnownSpec.post enc Try.prog Try.f3 false true false false) := by
  refine returnsInHanded_of_change (C := Try.checked) own started (by kernel_rfl) Try.func3
    (ChangeSpec.witness6 (enc := enc) (C := Try.checked) false ⟨#[], #[], []⟩ 8 (by kernel_rfl) (by kernel_rfl) (by kernel_rfl) (by kernel_rfl)) ?_
  intro W base args ds gs before hval0 hW hcnd _
  have hval : ∀ (j : Nat) t v, Try.f3.params[j]? = some t → args[j]? = some v → Value.okWide Try.prog W .any base t v := hval0
  have hW' := hW
  obtain ⟨p, q, hA0, hV, rfl, hfz, hnd⟩ := hW
  have hA : DataW.TrodAll enc Try.prog W 0 (fun _ => true) true Try.f3.params.toList args.toList ds p := hA0
  rw [Try.params3] at hA hval
  obtain ⟨rfl, rfl, rfl⟩ := trodAll_none hA
  obtain ⟨rfl, rfl⟩ := trodVars_none hV
  clear hA0 hval0
  simp only [List.append_nil] at hW'
  refine (walk  W).mono fun e W' ⟨he, hg⟩ => ?_
  subst he
  exact ⟨_, rfl, _, _, _, [], [], [], hW', (trodAll_cons_mk (shut_bool Try.underlying4 _) trodAll_mk0), rfl, rfl, hg.below.frame _, fun h => by cases h⟩

theorem over : Rows.gaussKnownRow.holds Try.pinned (OpenSpec.ofChange Rows.gaussKnownSpec) :=
  OpenClaim.holds_of_wide 3 Try.f3 rfl rfl rfl rfl rfl rfl rfl ⟨rfl, rfl, rfl, rfl, rfl⟩ rfl rfl rfl rfl rfl (by kernel_rfl) Try.func3 (by kernel_rfl)
    (of_decide_eq_true (by kernel_rfl)) (by unfold Func.isWrapper; first | (rw [if_pos (by decide +kernel)]; kernel_rfl) | (rw [if_neg (by decide +kernel)]; exact ⟨rfl, rfl⟩))
    (fun os started H enc _ => lifted os started H enc)

/-- The statement. -/
theorem proved : Rows.GaussKnownSaid :=
  over
#print axioms proved
end Go.Proofs.Ytnkiikdlmlaklaa.gaussKnown
