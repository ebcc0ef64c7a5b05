/-
  NewtonTells: of any sum of powers, any beginning, any rounds, the answer is as the document says. No condition.
-/
import Derived.Test.YtphmdjgnncjcmaaRows
import Derived.Test.YtphmdjgnncjcmaaTells7
import Derived.Test.YtphmdjgnncjcmaaHand
import Derived.Test.YtphmdjgnncjcmaaHandIv
import Derived.WalkKit
import Derived.ProofKit
import Derived.OpenShut
namespace Go.Proofs.Ytphmdjgnncjcmaa.newtonTells
open Go.ChangeShapes Go.WideShapes Go.ChangeAt Go.RowKit
set_option linter.unusedVariables false      -- a walk need not use every premise

theorem own : ownKnob Try.prog.godebug = none := by kernel_rfl
theorem laidOut : laidOutB Try.prog = true := by kernel_rfl

set_option maxRecDepth 100000 in
set_option maxHeartbeats 32000000 in
theorem walk (w : World) (s0 : Value) (l0 : List Int) (i0 : Ints w s0 l0) (k0 : ∀ n ∈ l0, -9223372036854775808 ≤ n ∧ n ≤ 9223372036854775807) (m0 : l0.length ≤ 9223372036854775807) (a1 : Int) (w1 : (Lit.int .i64 a1).wf = true) (a2 : Int) (w2 : (Lit.int .i64 a2).wf = true) (a3 : Int) (w3 : (Lit.int .i64 a3).wf = true) (a4 : Bool) :
    Calls Try.prog 4 #[s0, .int .i64 a1, .int .i64 a2, .int .i64 a3, .bool a4] w fun e w' => e = .returned (.bool true) ∧ More w w' := by
  have b1 := bounds_i64 w1
  have b2 := bounds_i64 w2
  have b3 := bounds_i64 w3
  clear w1 w2 w3
  have cP := powers_form i0 k0 m0
  have hPl := powersL_length l0
  obtain ⟨P, hP⟩ : ∃ P, powersL l0 = P := ⟨_, rfl⟩
  rw [hP] at cP hPl
  clear hP i0 k0 m0
  obtain ⟨m, hm⟩ : ∃ a, a3 % 60 - 5 = a := ⟨_, rfl⟩
  cases a4
  · obtain ⟨T, hT⟩ : ∃ T, hWide (a1 % 524288 - 262144) (a2 % 393216) = T := ⟨_, rfl⟩
    go_enter Try.func4, Try.ntmps4
    go_wp2_with (first | (go_at_call 21; refine cP.mono ?_; rintro e w' ⟨ad, c, rfl, ⟨r, rfl⟩, hrow⟩) | (go_at_call 25; refine (slope_form (l := P) (by go_row) (by omega)).mono ?_; rintro e w' ⟨ad2, c2, rfl, ⟨r, rfl⟩, hrow2⟩) | (go_at_call 15; (with_reducible refine Calls.mono (solve_tells P (.slice ad P.length c) (.slice ad2 (slope P).length c2) T m _ _ _ (by go_side) (by go_side) (by go_row) (by go_row) (by omega)) ?_); rintro e w' ⟨rfl, r, rfl⟩) | (go_at_call 28; (with_reducible refine Calls.mono (rsolve_form ad P.length c T m (by go_row) (by omega)) ?_); rintro e w' ⟨rfl, r, rfl⟩) | (go_at_call 15; (with_reducible refine (solve_nil () _ _ _).mono ?_); rintro e w' ⟨rfl, r, rfl⟩) | (go_at_call 15; (with_reducible refine (solve_nil () ⟨_, _, _⟩ _ _).mono ?_); rintro e w' ⟨rfl, r, rfl⟩) | (go_at_call 15; (with_reducible refine Calls.mono (solve_c _ _ _ (by go_moved)) ?_); rintro e w' ⟨rfl, r, rfl⟩) | (go_at_call 15; (with_reducible refine Calls.mono (solve_c _ ⟨_, _, _⟩ _ (by go_moved)) ?_); rintro e w' ⟨rfl, r, rfl⟩) | (go_at_call 19; (with_reducible refine (known7_c _).mono ?_); rintro e w' ⟨rfl, r, rfl⟩) | (go_at_call 21; (with_reducible refine (powers_c _ _ (by omega) (by omega) (by go_len)).mono ?_); rintro e w' ⟨v', rfl, ⟨r, rfl⟩, hrow⟩) | (go_at_call 22; (with_reducible refine (hwide_c _ _ (by omega) (by omega) _).mono ?_); rintro e w' ⟨rfl, r, rfl⟩) | (go_at_call 23; (with_reducible refine (pick_c _ _ (by omega) (by omega) (by omega) (by omega) _).mono ?_); rintro e w' ⟨rfl, rfl⟩) | (go_at_call 24; (with_reducible refine (hiv_c _ _ (by omega) (by omega) (by omega) (by omega) _).mono ?_); rintro e w' ⟨rfl, r, rfl⟩) | (go_at_call 25; (with_reducible refine (rslope_c _ _ (by go_row) (by go_len)).mono ?_); rintro e w' ⟨v', rfl, ⟨r, rfl⟩, hrow⟩) | (go_at_call 28; (with_reducible refine (rsolve_c _ _ _ _ (by go_row) (by go_len)).mono ?_); rintro e w' ⟨rfl, r, rfl⟩) | (go_at_call 28; (with_reducible refine (rsolve_c _ _ ⟨_, _, _⟩ _ (by go_row) (by go_len)).mono ?_); rintro e w' ⟨rfl, r, rfl⟩) | (go_at_call 28; (with_reducible refine (rsolve_c _ ⟨_, _, _⟩ _ _ (by go_row) (by go_len)).mono ?_); rintro e w' ⟨rfl, r, rfl⟩) | (go_at_call 28; (with_reducible refine (rsolve_c _ ⟨_, _, _⟩ ⟨_, _, _⟩ _ (by go_row) (by go_len)).mono ?_); rintro e w' ⟨rfl, r, rfl⟩))
    all_goals
      go_returns
      exact ⟨rfl, (by repeat (first | exact More.refl _ | refine More.alloc ?_ _ | refine More.more ?_ _ | refine More.drew ?_ | refine More.drewN ?_ _))⟩
  · obtain ⟨T, hT⟩ : ∃ T, hIv a1 a2 = T := ⟨_, rfl⟩
    obtain ⟨T0, hT0⟩ : ∃ T, hWide (a1 % 524288 - 262144) (a2 % 393216) = T := ⟨_, rfl⟩
    go_enter Try.func4, Try.ntmps4
    go_wp2_with (first | (go_at_call 21; refine cP.mono ?_; rintro e w' ⟨ad, c, rfl, ⟨r, rfl⟩, hrow⟩) | (go_at_call 25; refine (slope_form (l := P) (by go_row) (by omega)).mono ?_; rintro e w' ⟨ad2, c2, rfl, ⟨r, rfl⟩, hrow2⟩) | (go_at_call 15; (with_reducible refine Calls.mono (solve_tells P (.slice ad P.length c) (.slice ad2 (slope P).length c2) T m _ _ _ (by go_side) (by go_side) (by go_row) (by go_row) (by omega)) ?_); rintro e w' ⟨rfl, r, rfl⟩) | (go_at_call 28; (with_reducible refine Calls.mono (rsolve_form ad P.length c T m (by go_row) (by omega)) ?_); rintro e w' ⟨rfl, r, rfl⟩) | (go_at_call 15; (with_reducible refine (solve_nil () _ _ _).mono ?_); rintro e w' ⟨rfl, r, rfl⟩) | (go_at_call 15; (with_reducible refine (solve_nil () ⟨_, _, _⟩ _ _).mono ?_); rintro e w' ⟨rfl, r, rfl⟩) | (go_at_call 15; (with_reducible refine Calls.mono (solve_c _ _ _ (by go_moved)) ?_); rintro e w' ⟨rfl, r, rfl⟩) | (go_at_call 15; (with_reducible refine Calls.mono (solve_c _ ⟨_, _, _⟩ _ (by go_moved)) ?_); rintro e w' ⟨rfl, r, rfl⟩) | (go_at_call 19; (with_reducible refine (known7_c _).mono ?_); rintro e w' ⟨rfl, r, rfl⟩) | (go_at_call 21; (with_reducible refine (powers_c _ _ (by omega) (by omega) (by go_len)).mono ?_); rintro e w' ⟨v', rfl, ⟨r, rfl⟩, hrow⟩) | (go_at_call 22; (with_reducible refine (hwide_c _ _ (by omega) (by omega) _).mono ?_); rintro e w' ⟨rfl, r, rfl⟩) | (go_at_call 23; (with_reducible refine (pick_c _ _ (by omega) (by omega) (by omega) (by omega) _).mono ?_); rintro e w' ⟨rfl, rfl⟩) | (go_at_call 24; (with_reducible refine (hiv_c _ _ (by omega) (by omega) (by omega) (by omega) _).mono ?_); rintro e w' ⟨rfl, r, rfl⟩) | (go_at_call 25; (with_reducible refine (rslope_c _ _ (by go_row) (by go_len)).mono ?_); rintro e w' ⟨v', rfl, ⟨r, rfl⟩, hrow⟩) | (go_at_call 28; (with_reducible refine (rsolve_c _ _ _ _ (by go_row) (by go_len)).mono ?_); rintro e w' ⟨rfl, r, rfl⟩) | (go_at_call 28; (with_reducible refine (rsolve_c _ _ ⟨_, _, _⟩ _ (by go_row) (by go_len)).mono ?_); rintro e w' ⟨rfl, r, rfl⟩) | (go_at_call 28; (with_reducible refine (rsolve_c _ ⟨_, _, _⟩ _ _ (by go_row) (by go_len)).mono ?_); rintro e w' ⟨rfl, r, rfl⟩) | (go_at_call 28; (with_reducible refine (rsolve_c _ ⟨_, _, _⟩ ⟨_, _, _⟩ _ (by go_row) (by go_len)).mono ?_); rintro e w' ⟨rfl, r, rfl⟩))
    all_goals
      go_returns
      exact ⟨rfl, (by repeat (first | exact More.refl _ | refine More.alloc ?_ _ | refine More.more ?_ _ | refine More.drew ?_ | refine More.drewN ?_ _))⟩

set_option maxRecDepth 100000 in
theorem lifted (os : Os) (started : os.Started) (H : Type) (enc : TypeId × Value → H) :
    ReturnsInHanded {} Try.checked os 4 .any (Rows.newtonTellsSpec.pre6 enc Try.prog Try.f4 Rows.newtonTellsRow.domain false) (Rows.newtonTellsSpec.post enc Try.prog Try.f4 false true false false) := by
  refine returnsInHanded_of_change (C := Try.checked) own started (by kernel_rfl) Try.func4
    (ChangeSpec.witness6 (enc := enc) (C := Try.checked) false ⟨#[], #[.slice none 0 0, .int .i64 0, .int .i64 0, .int .i64 0, .bool false], []⟩ 8 (by kernel_rfl) (by kernel_rfl) (by kernel_rfl) (by kernel_rfl)) ?_
  intro W base args ds gs before hval0 hW hcnd _
  have hval : ∀ (j : Nat) t v, Try.f4.params[j]? = some t → args[j]? = some v → Value.okWide Try.prog W .any base t v := hval0
  have hW' := hW
  obtain ⟨p, q, hA0, hV, rfl, hfz, hnd⟩ := hW
  have hA : DataW.TrodAll enc Try.prog W 0 (fun _ => true) true Try.f4.params.toList args.toList ds p := hA0
  rw [Try.params4] at hA hval
  obtain ⟨v0, vs0, d0, ds0, p0, q0, hargs, rfl, rfl, h0, r0⟩ := trodAll_cons hA
  obtain ⟨v1, vs1, d1, ds1, p1, q1, rfl, rfl, rfl, h1, r1⟩ := trodAll_cons r0
  obtain ⟨v2, vs2, d2, ds2, p2, q2, rfl, rfl, rfl, h2, r2⟩ := trodAll_cons r1
  obtain ⟨v3, vs3, d3, ds3, p3, q3, rfl, rfl, rfl, h3, r3⟩ := trodAll_cons r2
  obtain ⟨v4, vs4, d4, ds4, p4, q4, rfl, rfl, rfl, h4, r4⟩ := trodAll_cons r3
  obtain ⟨rfl, rfl, rfl⟩ := trodAll_nil r4
  obtain rfl : args = #[v0, v1, v2, v3, v4] := by cases args; simp_all
  obtain ⟨rfl, rfl⟩ := trodVars_none hV
  obtain ⟨a1, rfl, rfl, rfl, w1⟩ := open_int Try.underlying3 (hval 1 3 v1 rfl rfl) h1
  obtain ⟨a2, rfl, rfl, rfl, w2⟩ := open_int Try.underlying3 (hval 2 3 v2 rfl rfl) h2
  obtain ⟨a3, rfl, rfl, rfl, w3⟩ := open_int Try.underlying3 (hval 3 3 v3 rfl rfl) h3
  obtain ⟨a4, rfl, rfl, rfl⟩ := open_bool Try.underlying4 (hval 4 4 v4 rfl rfl) h4
  have h0k := h0
  have hlt0 : ∀ x ∈ p0, x.block < W.heap.size := fun x hx => by simpa using hW'.lt x (by simp [hx])
  obtain ⟨l0, i0, k0, m0⟩ := open_ints_all Try.underlying36 Try.underlying3 (by kernel_rfl) (okWide_slice Try.underlying36 (hval 0 36 v0 rfl rfl)) h0
  clear hA0 hval0
  simp only [List.append_nil] at hW'
  refine (walk W v0 l0 i0 k0 m0 a1 w1 a2 w2 a3 w3 a4).mono fun e W' ⟨he, hg⟩ => ?_
  subst he
  exact ⟨_, rfl, _, _, _, [], _, [], hW', (trodAll_cons_mk (shut_bool Try.underlying4 _) trodAll_mk0), (trodAll_cons_mk (Below.trod laidOut (by kernel_rfl) (of_decide_eq_true (by kernel_rfl)) h0k hg.below hlt0) (trodAll_cons_mk (shut_int Try.underlying3 w1) (trodAll_cons_mk (shut_int Try.underlying3 w2) (trodAll_cons_mk (shut_int Try.underlying3 w3) (trodAll_cons_mk (shut_bool Try.underlying4 _) trodAll_mk0))))), rfl, hg.below.frame _, fun h => by cases h⟩

theorem over : Rows.newtonTellsRow.holds Try.pinned (OpenSpec.ofChange Rows.newtonTellsSpec) :=
  OpenClaim.holds_of_wide 4 Try.f4 rfl rfl rfl rfl rfl rfl rfl ⟨rfl, rfl, rfl, rfl, rfl⟩ rfl rfl rfl rfl rfl (by kernel_rfl) Try.func4 (by kernel_rfl)
    (of_decide_eq_true (by kernel_rfl)) (by unfold Func.isWrapper; first | (rw [if_pos (by decide +kernel)]; kernel_rfl) | (rw [if_neg (by decide +kernel)]; exact ⟨rfl, rfl⟩))
    (fun os started H enc _ => lifted os started H enc)

/-- The statement. -/
theorem proved : Rows.NewtonTellsSaid :=
  over
#print axioms proved
end Go.Proofs.Ytphmdjgnncjcmaa.newtonTells
