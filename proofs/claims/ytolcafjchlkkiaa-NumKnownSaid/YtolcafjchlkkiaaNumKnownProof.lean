/-
  NumKnown: chapter 1's example, its bounds, and what is none, as the document says. A closed sentence: no condition.
-/
import Derived.Test.YtolcafjchlkkiaaRows
import Derived.Test.YtolcafjchlkkiaaHand
import Derived.WalkKit
import Derived.ProofKit
import Derived.OpenShut
namespace Go.Proofs.Ytolcafjchlkkiaa.numKnown
open Go.ChangeShapes Go.WideShapes Go.ChangeAt Go.RowKit
set_option linter.unusedVariables false      -- a walk need not use every 'w<i>' (that an integer argument fits its kind)

theorem own : ownKnob Try.prog.godebug = none := by kernel_rfl

set_option maxRecDepth 100000 in
set_option maxHeartbeats 1000000 in

theorem walk  (w : World) :
    Calls Try.prog 3 #[] w fun e w' => e = .returned (.bool true) ∧ Grown w w' := by
  have k1 : mulN 196608 131072 false = (393216, true) := by decide +kernel
  have k2 : mulN 1073741824 1073741824 false = (0, false) := by decide +kernel
  have k3 : mulN 1073741825 0 false = (0, false) := by decide +kernel
  have k4 : divN 65536 196608 false = (21845, true) := by decide +kernel
  have k5 : divN 65536 196608 true = (21846, true) := by decide +kernel
  have k6 : divN 5 0 true = (0, false) := by decide +kernel
  have k7 : rootN 131072 false = (92681, true) := by decide +kernel
  have k8 : rootN 131072 true = (92682, true) := by decide +kernel
  have k9 : rootN 262144 true = (131072, true) := by decide +kernel
  have k10 : rootN (-1) false = (0, false) := by decide +kernel
  have k11 : divN 1073741824 1 false = (0, false) := by decide +kernel
  have i1 : isIn 1073741824 = true := by decide
  have i2 : isIn (-1073741824) = true := by decide
  have i3 : isIn 1073741825 = false := by decide
  have i4 : isIn (-9223372036854775808) = false := by decide
  have j1 : (-7 : Int).fdiv 2 = -4 := by decide
  have j2 : (7 : Int).fdiv (-2) = -4 := by decide
  have j3 : (7 : Int).fdiv 0 = 0 := by decide
  go_enter Try.func3, Try.ntmps3
  go_wp2_with (first | (go_at_call 7; refine (mul_c _ _ _ _).mono ?_; rintro e w' ⟨rfl, rfl⟩) | (go_at_call 8; refine (div_c _ _ _ _).mono ?_; rintro e w' ⟨rfl, rfl⟩) | (go_at_call 9; refine (root_c _ _ _).mono ?_; rintro e w' ⟨rfl, rfl⟩) | (go_at_call 11; refine (in_c _ _).mono ?_; rintro e w' ⟨rfl, rfl⟩) | (go_at_call 12; refine (floor_c _ _ _ (by omega) (by omega) (by omega)).mono ?_; rintro e w' ⟨rfl, rfl⟩) | (go_at_call 10; refine (known_c _).mono ?_; rintro e w' ⟨rfl, rfl⟩))
  go_ret
  exact ⟨rfl, Grown.refl _⟩

set_option maxRecDepth 100000 in
theorem lifted (os : Os) (started : os.Started) (H : Type) (enc : TypeId × Value → H) :
    ReturnsInHanded {} Try.checked os 3 .any (Rows.numKnownSpec.pre6 enc Try.prog Try.f3 Rows.numKnownRow.domain false) (Rows.numKnownSpec.post enc Try.prog Try.f3 false true false false) := by
  refine returnsInHanded_of_change (C := Try.checked) own started (by kernel_rfl) Try.func3
    (ChangeSpec.witness6 (enc := enc) (C := Try.checked) false ⟨#[], #[], []⟩ 8 (by kernel_rfl) (by kernel_rfl) (by kernel_rfl) (by kernel_rfl)) ?_
  intro W base args ds gs before hval0 hW hcnd _
  have hval : ∀ (j : Nat) t v, Try.f3.params[j]? = some t → args[j]? = some v → Value.okWide Try.prog W .any base t v := hval0
  have hW' := hW
  obtain ⟨p, q, hA0, hV, rfl, hfz, hnd⟩ := hW
  have hA : DataW.TrodAll enc Try.prog W 0 (fun _ => true) true Try.f3.params.toList args.toList ds p := hA0
  rw [Try.params3] at hA hval
  obtain ⟨rfl, rfl, rfl⟩ := trodAll_none hA
  obtain ⟨rfl, rfl⟩ := trodVars_none hV
  clear hA0 hval0
  simp only [List.append_nil] at hW'
  refine (walk  W).mono fun e W' ⟨he, hg⟩ => ?_
  subst he
  exact ⟨_, rfl, post_of_same (pa := []) (pv := []) hW' (fun _ _ _ => (trodAll_cons_mk (shut_bool Try.underlying4 _) trodAll_mk0)) (fun sp _ => rfl) (fun _ _ => rfl) rfl
    (hg.frame _) hg.2.1 (ok_one (by kernel_rfl) rfl (okWide_bool_mk Try.underlying4 _))⟩

theorem over : Rows.numKnownRow.holds Try.pinned (OpenSpec.ofChange Rows.numKnownSpec) :=
  OpenClaim.holds_of_wide 3 Try.f3 rfl rfl rfl rfl rfl rfl rfl ⟨rfl, rfl, rfl, rfl, rfl⟩ rfl rfl rfl rfl rfl (by kernel_rfl) Try.func3 (by kernel_rfl)
    (of_decide_eq_true (by kernel_rfl)) (by unfold Func.isWrapper; first | (rw [if_pos (by decide +kernel)]; kernel_rfl) | (rw [if_neg (by decide +kernel)]; exact ⟨rfl, rfl⟩))
    (fun os started H enc _ => lifted os started H enc)

/-- The statement. -/
theorem proved : Rows.NumKnownSaid :=
  over
#print axioms proved
end Go.Proofs.Ytolcafjchlkkiaa.numKnown
