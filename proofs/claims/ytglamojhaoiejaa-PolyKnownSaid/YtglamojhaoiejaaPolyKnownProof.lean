/-
  PolyKnown: chapter 4's example, slopes, none.
-/
import Derived.Test.YtglamojhaoiejaaRows
import Derived.Test.YtglamojhaoiejaaLit4
import Derived.Test.YtglamojhaoiejaaReg4
import Derived.Test.YtglamojhaoiejaaPolyMath
import Derived.WalkKit
import Derived.ProofKit
import Derived.OpenShut
namespace Go.Proofs.Ytglamojhaoiejaa.polyKnown
open Go.ChangeShapes Go.WideShapes Go.ChangeAt Go.RowKit
set_option linter.unusedVariables false      -- a walk need not use every 'w<i>' (that an integer argument fits its kind)

theorem own : ownKnob Try.prog.godebug = none := by kernel_rfl

set_option maxRecDepth 100000 in
set_option maxHeartbeats 16000000 in
theorem walk  (w : World) :
    Calls Try.prog 3 #[] w fun e w' => e = .returned (.bool true) ∧ More w w' := by
  have k1 : slope [⟨65536, 65536, false⟩, ⟨131072, 131072, false⟩, ⟨196608, 196608, false⟩] = [⟨131072, 131072, false⟩, ⟨393216, 393216, false⟩] := by kernel_rfl
  have k2 : horner [] ⟨0, 0, true⟩ = ⟨0, 0, false⟩ := by kernel_rfl
  have k3 : horner [⟨262144, 262144, false⟩] ⟨0, 0, true⟩ = ⟨262144, 262144, false⟩ := by kernel_rfl
  have k4 : horner [⟨262144, 262144, false⟩, ⟨65536, 65536, false⟩] ⟨0, 0, true⟩ = ⟨0, 0, true⟩ := by kernel_rfl
  go_enter Try.func3, Try.ntmps3
  go_wp2_with (first | (go_at_call 7; (with_reducible refine (lit_Lit4_0 _).mono ?_); rintro e w' ⟨rfl, r, rfl⟩) | (go_at_call 7; (with_reducible refine (lit_Lit4_1 _).mono ?_); rintro e w' ⟨rfl, r, rfl⟩) | (go_at_call 7; (with_reducible refine (lit_Lit4_2 _).mono ?_); rintro e w' ⟨rfl, r, rfl⟩) | (go_at_call 7; (with_reducible refine (lit_Lit4_3 _).mono ?_); rintro e w' ⟨rfl, r, rfl⟩) | (go_at_call 7; (with_reducible refine (lit_Lit4_4 _).mono ?_); rintro e w' ⟨rfl, r, rfl⟩) | (go_at_call 11; (with_reducible refine (lit_Lit4_5 _).mono ?_); rintro e w' ⟨rfl, r, rfl⟩) | (go_at_call 10; (with_reducible refine (lit_Lit4_6 _).mono ?_); rintro e w' ⟨rfl, r, rfl⟩) | (go_at_call 6; (with_reducible refine (slope_c _ _ (by go_row) (by go_len)).mono ?_); rintro e w' ⟨v', rfl, ⟨r, rfl⟩, hrow⟩) | (go_at_call 7; (with_reducible refine (whole_c _ _).mono ?_); rintro e w' ⟨rfl, r, rfl⟩) | (go_at_call 8; (with_reducible refine (known4_c _).mono ?_); rintro e w' ⟨rfl, r, rfl⟩) | (go_at_call 9; (with_reducible refine (horner_c _ _ _ (by go_row) (by go_len)).mono ?_); rintro e w' ⟨rfl, r, rfl⟩) | (go_at_call 9; (with_reducible refine (horner_c _ _ ⟨_, _, _⟩ (by go_row) (by go_len)).mono ?_); rintro e w' ⟨rfl, r, rfl⟩) | (go_at_call 10; (with_reducible refine (none_c _).mono ?_); rintro e w' ⟨rfl, r, rfl⟩) | (go_at_call 11; (with_reducible refine (point_c _ _).mono ?_); rintro e w' ⟨rfl, r, rfl⟩))
  rw [k1] at hrow
  refine at_world (w := w) (R := fun W => Row W v' [⟨131072, 131072, false⟩, ⟨393216, 393216, false⟩]) (by repeat (first | exact More.refl _ | refine More.alloc ?_ _ | refine More.more ?_ _ | refine More.drew ?_ | refine More.drewN ?_ _)) hrow ?_
  clear hrow
  intro W1 hM hrow
  have HM := Lib.hid hM
  clear hM
  rcases hrow with ⟨-, h⟩ | ⟨g, o, c, rfl, hc⟩
  · cases h
  · obtain ⟨hg, f1, f2, f3⟩ := row_at hc 0 (by decide)
    obtain ⟨-, f4, f5, f6⟩ := row_at hc 1 (by decide)
    clear hc
    simp at f1 f2 f3 f4 f5 f6
    simp only [List.length_cons, List.length_nil, Nat.reduceAdd]
    (first | (with_reducible refine wp_more_loose_m (id := 2) ?_ ?_ ?_) | (refine wp_more_loose (id := 2) ?_ ?_ ?_))
    · kernel_rfl
    · kernel_rfl
    (try simp only [List.append_eq, List.cons_append, List.nil_append])
    (repeat (first | (refine loose_make 35 (fun u w => Row w u [⟨262144, 262144, false⟩]) rfl rfl (by simp) rfl (fun _ _ _ hm h => Row.up h hm) (fun r => ?_) ?_; (go_simp; refine ⟨More.alloc (More.refl _) _, ?_⟩; go_row)) | (refine loose_make 44 (fun u w => Row w u [⟨262144, 262144, false⟩, ⟨65536, 65536, false⟩]) rfl rfl (by simp) rfl (fun _ _ _ hm h => Row.up h hm) (fun r => ?_) ?_; (go_simp; refine ⟨More.alloc (More.refl _) _, ?_⟩; go_row)) | (refine loose_use 35 rfl (fun _ => rfl) ?_; apply Exists.intro; refine ⟨fun r u hu => ?_, ?_⟩; (go_simp; (first | (go_at_call 6; with_reducible exact slope_nil _) | (go_at_call 7; with_reducible exact lit_Lit4_0 _) | (go_at_call 7; with_reducible exact lit_Lit4_1 _) | (go_at_call 7; with_reducible exact lit_Lit4_2 _) | (go_at_call 7; with_reducible exact lit_Lit4_3 _) | (go_at_call 7; with_reducible exact lit_Lit4_4 _) | (go_at_call 11; with_reducible exact lit_Lit4_5 _) | (go_at_call 10; with_reducible exact lit_Lit4_6 _) | (go_at_call 7; with_reducible exact whole_c _ _) | (go_at_call 8; with_reducible exact known4_c _) | (go_at_call 9; with_reducible exact horner_c _ _ _ (by go_row) (by go_len)) | (go_at_call 9; with_reducible exact horner_c _ _ ⟨_, _, _⟩ (by go_row) (by go_len)) | (go_at_call 10; with_reducible exact none_c _) | (go_at_call 11; with_reducible exact point_c _ _)))) | (refine loose_use 44 rfl (fun _ => rfl) ?_; apply Exists.intro; refine ⟨fun r u hu => ?_, ?_⟩; (go_simp; (first | (go_at_call 6; with_reducible exact slope_nil _) | (go_at_call 7; with_reducible exact lit_Lit4_0 _) | (go_at_call 7; with_reducible exact lit_Lit4_1 _) | (go_at_call 7; with_reducible exact lit_Lit4_2 _) | (go_at_call 7; with_reducible exact lit_Lit4_3 _) | (go_at_call 7; with_reducible exact lit_Lit4_4 _) | (go_at_call 11; with_reducible exact lit_Lit4_5 _) | (go_at_call 10; with_reducible exact lit_Lit4_6 _) | (go_at_call 7; with_reducible exact whole_c _ _) | (go_at_call 8; with_reducible exact known4_c _) | (go_at_call 9; with_reducible exact horner_c _ _ _ (by go_row) (by go_len)) | (go_at_call 9; with_reducible exact horner_c _ _ ⟨_, _, _⟩ (by go_row) (by go_len)) | (go_at_call 10; with_reducible exact none_c _) | (go_at_call 11; with_reducible exact point_c _ _)))) | loose_one ((first | (go_at_call 6; with_reducible exact slope_nil _) | (go_at_call 7; with_reducible exact lit_Lit4_0 _) | (go_at_call 7; with_reducible exact lit_Lit4_1 _) | (go_at_call 7; with_reducible exact lit_Lit4_2 _) | (go_at_call 7; with_reducible exact lit_Lit4_3 _) | (go_at_call 7; with_reducible exact lit_Lit4_4 _) | (go_at_call 11; with_reducible exact lit_Lit4_5 _) | (go_at_call 10; with_reducible exact lit_Lit4_6 _) | (go_at_call 7; with_reducible exact whole_c _ _) | (go_at_call 8; with_reducible exact known4_c _) | (go_at_call 9; with_reducible exact horner_c _ _ _ (by go_row) (by go_len)) | (go_at_call 9; with_reducible exact horner_c _ _ ⟨_, _, _⟩ (by go_row) (by go_len)) | (go_at_call 10; with_reducible exact none_c _) | (go_at_call 11; with_reducible exact point_c _ _)))))
    intro r
    simp only [allFits]
    intro u2 hu2 u1 hu1
    go_wp2_with (first | (go_at_call 7; (with_reducible refine (lit_Lit4_0 _).mono ?_); rintro e w' ⟨rfl, r, rfl⟩) | (go_at_call 7; (with_reducible refine (lit_Lit4_1 _).mono ?_); rintro e w' ⟨rfl, r, rfl⟩) | (go_at_call 7; (with_reducible refine (lit_Lit4_2 _).mono ?_); rintro e w' ⟨rfl, r, rfl⟩) | (go_at_call 7; (with_reducible refine (lit_Lit4_3 _).mono ?_); rintro e w' ⟨rfl, r, rfl⟩) | (go_at_call 7; (with_reducible refine (lit_Lit4_4 _).mono ?_); rintro e w' ⟨rfl, r, rfl⟩) | (go_at_call 11; (with_reducible refine (lit_Lit4_5 _).mono ?_); rintro e w' ⟨rfl, r, rfl⟩) | (go_at_call 10; (with_reducible refine (lit_Lit4_6 _).mono ?_); rintro e w' ⟨rfl, r, rfl⟩) | (go_at_call 6; (with_reducible refine (slope_c _ _ (by go_row) (by go_len)).mono ?_); rintro e w' ⟨v', rfl, ⟨r, rfl⟩, hrow⟩) | (go_at_call 7; (with_reducible refine (whole_c _ _).mono ?_); rintro e w' ⟨rfl, r, rfl⟩) | (go_at_call 8; (with_reducible refine (known4_c _).mono ?_); rintro e w' ⟨rfl, r, rfl⟩) | (go_at_call 9; (with_reducible refine (horner_c _ _ _ (by go_row) (by go_len)).mono ?_); rintro e w' ⟨rfl, r, rfl⟩) | (go_at_call 9; (with_reducible refine (horner_c _ _ ⟨_, _, _⟩ (by go_row) (by go_len)).mono ?_); rintro e w' ⟨rfl, r, rfl⟩) | (go_at_call 10; (with_reducible refine (none_c _).mono ?_); rintro e w' ⟨rfl, r, rfl⟩) | (go_at_call 11; (with_reducible refine (point_c _ _).mono ?_); rintro e w' ⟨rfl, r, rfl⟩))
    go_returns
    exact ⟨rfl, (HM.out).trans (by repeat (first | exact More.refl _ | refine More.alloc ?_ _ | refine More.more ?_ _ | refine More.drew ?_ | refine More.drewN ?_ _))⟩

set_option maxRecDepth 100000 in
theorem lifted (os : Os) (started : os.Started) (H : Type) (enc : TypeId × Value → H) :
    ReturnsInHanded {} Try.checked os 3 .any (Rows.polyKnownSpec.pre6 enc Try.prog Try.f3 Rows.polyKnownRow.domain false) (Rows.polyKnownSpec.post enc Try.prog Try.f3 false true false false) := by
  refine returnsInHanded_of_change (C := Try.checked) own started (by kernel_rfl) Try.func3
    (ChangeSpec.witness6 (enc := enc) (C := Try.checked) false ⟨#[], #[], []⟩ 8 (by kernel_rfl) (by kernel_rfl) (by kernel_rfl) (by kernel_rfl)) ?_
  intro W base args ds gs before hval0 hW hcnd _
  have hval : ∀ (j : Nat) t v, Try.f3.params[j]? = some t → args[j]? = some v → Value.okWide Try.prog W .any base t v := hval0
  have hW' := hW
  obtain ⟨p, q, hA0, hV, rfl, hfz, hnd⟩ := hW
  have hA : DataW.TrodAll enc Try.prog W 0 (fun _ => true) true Try.f3.params.toList args.toList ds p := hA0
  rw [Try.params3] at hA hval
  obtain ⟨rfl, rfl, rfl⟩ := trodAll_none hA
  obtain ⟨rfl, rfl⟩ := trodVars_none hV
  clear hA0 hval0
  simp only [List.append_nil] at hW'
  refine (walk  W).mono fun e W' ⟨he, hg⟩ => ?_
  subst he
  exact ⟨_, rfl, _, _, _, [], [], [], hW', (trodAll_cons_mk (shut_bool Try.underlying4 _) trodAll_mk0), rfl, rfl, hg.below.frame _, fun h => by cases h⟩

theorem over : Rows.polyKnownRow.holds Try.pinned (OpenSpec.ofChange Rows.polyKnownSpec) :=
  OpenClaim.holds_of_wide 3 Try.f3 rfl rfl rfl rfl rfl rfl rfl ⟨rfl, rfl, rfl, rfl, rfl⟩ rfl rfl rfl rfl rfl (by kernel_rfl) Try.func3 (by kernel_rfl)
    (of_decide_eq_true (by kernel_rfl)) (by unfold Func.isWrapper; first | (rw [if_pos (by decide +kernel)]; kernel_rfl) | (rw [if_neg (by decide +kernel)]; exact ⟨rfl, rfl⟩))
    (fun os started H enc _ => lifted os started H enc)

/-- The statement. -/
theorem proved : Rows.PolyKnownSaid :=
  over
#print axioms proved
end Go.Proofs.Ytglamojhaoiejaa.polyKnown
