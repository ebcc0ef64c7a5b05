/-
  NewtonAsks: a function is asked of places within the beginning alone, at most four times a round, and at all where there is a round. No condition.
-/
import Derived.Test.YtgkkfmjlgmoefaaRows
import Derived.Test.YtgkkfmjlgmoefaaAsks7
import Derived.Test.YtgkkfmjlgmoefaaHand
import Derived.Test.YtgkkfmjlgmoefaaHandIv
import Derived.WalkKit
import Derived.ProofKit
import Derived.OpenShut
namespace Go.Proofs.Ytgkkfmjlgmoefaa.newtonAsks
open Go.ChangeShapes Go.WideShapes Go.ChangeAt Go.RowKit
set_option linter.unusedVariables false      -- a walk need not use every premise

theorem own : ownKnob Try.prog.godebug = none := by kernel_rfl
theorem laidOut : laidOutB Try.prog = true := by kernel_rfl

set_option maxRecDepth 100000 in
set_option maxHeartbeats 16000000 in
theorem walk (w : World) (s0 : Value) (l0 : List Int) (i0 : Ints w s0 l0) (k0 : ∀ n ∈ l0, -9223372036854775808 ≤ n ∧ n ≤ 9223372036854775807) (m0 : l0.length ≤ 9223372036854775807) (a1 : Int) (w1 : (Lit.int .i64 a1).wf = true) (a2 : Int) (w2 : (Lit.int .i64 a2).wf = true) (a3 : Int) (w3 : (Lit.int .i64 a3).wf = true) :
    Calls Try.prog 9 #[s0, .int .i64 a1, .int .i64 a2, .int .i64 a3] w fun e w' => e = .returned (.bool true) ∧ More w w' := by
  have b1 := bounds_i64 w1
  have b2 := bounds_i64 w2
  have b3 := bounds_i64 w3
  clear w1 w2 w3
  have cP := powers_form i0 k0 m0
  have hPl := powersL_length l0
  obtain ⟨P, hP⟩ : ∃ P, powersL l0 = P := ⟨_, rfl⟩
  rw [hP] at cP hPl
  clear hP i0 k0 m0
  obtain ⟨x, hx⟩ : ∃ a, a1 % 524288 - 262144 = a := ⟨_, rfl⟩
  obtain ⟨x1, x2⟩ : -262144 ≤ x ∧ x < 262144 := by omega
  obtain ⟨y, hy⟩ : ∃ a, a2 % 393216 = a := ⟨_, rfl⟩
  obtain ⟨y1, y2⟩ : 0 ≤ y ∧ y < 393216 := by omega
  obtain ⟨z, hz⟩ : ∃ a, x + y = a := ⟨_, rfl⟩
  have hT : hWide x y = ⟨x, z, false⟩ := by
    unfold hWide within
    rw [show max (-1073741824) (min 1073741824 x) = x by omega, show min 1073741824 (x + y) = z by omega]
  have hzz : x ≤ z ∧ z ≤ 2621440 := by omega
  clear hz y1 y2
  obtain ⟨z1, z2⟩ := hzz
  have hr : ivRight ⟨x, z, false⟩ = true := right_of.2 (by omega)
  obtain ⟨m, hm⟩ : ∃ a, a3 % 12 = a := ⟨_, rfl⟩
  obtain ⟨m1, m2⟩ : 0 ≤ m ∧ m < 12 := by omega
  by_cases hm0 : 0 < m
  · skip
    go_enter Try.func9, Try.ntmps9
    go_wp2_with (first | (go_at_call 32; refine cP.mono ?_; rintro e w' ⟨ad, c, rfl, ⟨r, rfl⟩, hrow⟩) | (go_at_call 28; (with_reducible refine Calls.mono (solve_asks _ ⟨x, z, false⟩ P (.slice ad P.length c) _ _ _ _ m (by omega) hr (by first | rfl | (simp; done) | (simp; omega)) (by first | rfl | (simp; done) | (simp; omega)) (by go_side) (by go_side) (by go_side) (by go_side) (by (repeat (first | assumption | with_reducible apply Row.nil | with_reducible apply Row.plus | with_reducible apply Row.more | with_reducible apply Row.drew | with_reducible apply Row.drewN | (apply row_lit1 <;> first | rfl | (simp; done) | (simp; omega)) | (apply row_num1 <;> first | rfl | (simp; done) | (simp; omega)) | (apply row_lit2 <;> first | rfl | (simp; done) | (simp; omega)) | (apply row_num2 <;> first | rfl | (simp; done) | (simp; omega)) | (apply row_lit3 <;> first | rfl | (simp; done) | (simp; omega)) | (apply row_num3 <;> first | rfl | (simp; done) | (simp; omega)) | with_reducible apply Row.alloc))) (by omega)) ?_); rintro e w' ⟨n, f1, f2, f3, r, rfl, rfl⟩; (first | (have f4 : 0 < n := f2.2 hm0) | (obtain rfl : n = 0 := by omega)); clear f2) | (go_at_call 17; (with_reducible refine (pick_c _ _ (by omega) (by omega) (by omega) (by omega) _).mono ?_); rintro e w' ⟨rfl, rfl⟩) | (go_at_call 18; (with_reducible refine (hwide_c _ _ (by omega) (by omega) _).mono ?_); rintro e w' ⟨rfl, r, rfl⟩) | (go_at_call 28; (with_reducible refine (solve_nil () _ _ _).mono ?_); rintro e w' ⟨rfl, r, rfl⟩) | (go_at_call 28; (with_reducible refine (solve_nil () ⟨_, _, _⟩ _ _).mono ?_); rintro e w' ⟨rfl, r, rfl⟩) | (go_at_call 28; (with_reducible refine Calls.mono (solve_c _ _ _ (by (repeat (first | exact Moved.self | apply Moved.alloc | apply Moved.more | apply Moved.drew)))) ?_); rintro e w' ⟨rfl, r, rfl⟩) | (go_at_call 28; (with_reducible refine Calls.mono (solve_c _ ⟨_, _, _⟩ _ (by (repeat (first | exact Moved.self | apply Moved.alloc | apply Moved.more | apply Moved.drew)))) ?_); rintro e w' ⟨rfl, r, rfl⟩) | (go_at_call 31; (with_reducible refine (known7_c _).mono ?_); rintro e w' ⟨rfl, r, rfl⟩) | (go_at_call 32; (with_reducible refine (powers_c _ _ (by omega) (by omega) (by (first | omega | decide | (simp; done) | (simp; omega)))).mono ?_); rintro e w' ⟨v', rfl, ⟨r, rfl⟩, hrow⟩))
    go_returns
    exact ⟨rfl, (by repeat (first | exact More.refl _ | refine More.alloc ?_ _ | refine More.more ?_ _ | refine More.drew ?_ | refine More.drewN ?_ _))⟩
  · have hd : decide (0 < m) = false := decide_eq_false hm0
    go_enter Try.func9, Try.ntmps9
    go_wp2_with (first | (go_at_call 32; refine cP.mono ?_; rintro e w' ⟨ad, c, rfl, ⟨r, rfl⟩, hrow⟩) | (go_at_call 28; (with_reducible refine Calls.mono (solve_asks _ ⟨x, z, false⟩ P (.slice ad P.length c) _ _ _ _ m (by omega) hr (by first | rfl | (simp; done) | (simp; omega)) (by first | rfl | (simp; done) | (simp; omega)) (by go_side) (by go_side) (by go_side) (by go_side) (by (repeat (first | assumption | with_reducible apply Row.nil | with_reducible apply Row.plus | with_reducible apply Row.more | with_reducible apply Row.drew | with_reducible apply Row.drewN | (apply row_lit1 <;> first | rfl | (simp; done) | (simp; omega)) | (apply row_num1 <;> first | rfl | (simp; done) | (simp; omega)) | (apply row_lit2 <;> first | rfl | (simp; done) | (simp; omega)) | (apply row_num2 <;> first | rfl | (simp; done) | (simp; omega)) | (apply row_lit3 <;> first | rfl | (simp; done) | (simp; omega)) | (apply row_num3 <;> first | rfl | (simp; done) | (simp; omega)) | with_reducible apply Row.alloc))) (by omega)) ?_); rintro e w' ⟨n, f1, f2, f3, r, rfl, rfl⟩; (first | (have f4 : 0 < n := f2.2 hm0) | (obtain rfl : n = 0 := by omega)); clear f2) | (go_at_call 17; (with_reducible refine (pick_c _ _ (by omega) (by omega) (by omega) (by omega) _).mono ?_); rintro e w' ⟨rfl, rfl⟩) | (go_at_call 18; (with_reducible refine (hwide_c _ _ (by omega) (by omega) _).mono ?_); rintro e w' ⟨rfl, r, rfl⟩) | (go_at_call 28; (with_reducible refine (solve_nil () _ _ _).mono ?_); rintro e w' ⟨rfl, r, rfl⟩) | (go_at_call 28; (with_reducible refine (solve_nil () ⟨_, _, _⟩ _ _).mono ?_); rintro e w' ⟨rfl, r, rfl⟩) | (go_at_call 28; (with_reducible refine Calls.mono (solve_c _ _ _ (by (repeat (first | exact Moved.self | apply Moved.alloc | apply Moved.more | apply Moved.drew)))) ?_); rintro e w' ⟨rfl, r, rfl⟩) | (go_at_call 28; (with_reducible refine Calls.mono (solve_c _ ⟨_, _, _⟩ _ (by (repeat (first | exact Moved.self | apply Moved.alloc | apply Moved.more | apply Moved.drew)))) ?_); rintro e w' ⟨rfl, r, rfl⟩) | (go_at_call 31; (with_reducible refine (known7_c _).mono ?_); rintro e w' ⟨rfl, r, rfl⟩) | (go_at_call 32; (with_reducible refine (powers_c _ _ (by omega) (by omega) (by (first | omega | decide | (simp; done) | (simp; omega)))).mono ?_); rintro e w' ⟨v', rfl, ⟨r, rfl⟩, hrow⟩))
    go_returns
    exact ⟨rfl, (by repeat (first | exact More.refl _ | refine More.alloc ?_ _ | refine More.more ?_ _ | refine More.drew ?_ | refine More.drewN ?_ _))⟩

set_option maxRecDepth 100000 in
theorem lifted (os : Os) (started : os.Started) (H : Type) (enc : TypeId × Value → H) :
    ReturnsInHanded {} Try.checked os 9 .any (Rows.newtonAsksSpec.pre6 enc Try.prog Try.f9 Rows.newtonAsksRow.domain false) (Rows.newtonAsksSpec.post enc Try.prog Try.f9 false true false false) := by
  refine returnsInHanded_of_change (C := Try.checked) own started (by kernel_rfl) Try.func9
    (ChangeSpec.witness6 (enc := enc) (C := Try.checked) false ⟨#[], #[.slice none 0 0, .int .i64 0, .int .i64 0, .int .i64 0], []⟩ 8 (by kernel_rfl) (by kernel_rfl) (by kernel_rfl) (by kernel_rfl)) ?_
  intro W base args ds gs before hval0 hW hcnd _
  have hval : ∀ (j : Nat) t v, Try.f9.params[j]? = some t → args[j]? = some v → Value.okWide Try.prog W .any base t v := hval0
  have hW' := hW
  obtain ⟨p, q, hA0, hV, rfl, hfz, hnd⟩ := hW
  have hA : DataW.TrodAll enc Try.prog W 0 (fun _ => true) true Try.f9.params.toList args.toList ds p := hA0
  rw [Try.params9] at hA hval
  obtain ⟨v0, vs0, d0, ds0, p0, q0, hargs, rfl, rfl, h0, r0⟩ := trodAll_cons hA
  obtain ⟨v1, vs1, d1, ds1, p1, q1, rfl, rfl, rfl, h1, r1⟩ := trodAll_cons r0
  obtain ⟨v2, vs2, d2, ds2, p2, q2, rfl, rfl, rfl, h2, r2⟩ := trodAll_cons r1
  obtain ⟨v3, vs3, d3, ds3, p3, q3, rfl, rfl, rfl, h3, r3⟩ := trodAll_cons r2
  obtain ⟨rfl, rfl, rfl⟩ := trodAll_nil r3
  obtain rfl : args = #[v0, v1, v2, v3] := by cases args; simp_all
  obtain ⟨rfl, rfl⟩ := trodVars_none hV
  obtain ⟨a1, rfl, rfl, rfl, w1⟩ := open_int Try.underlying3 (hval 1 3 v1 rfl rfl) h1
  obtain ⟨a2, rfl, rfl, rfl, w2⟩ := open_int Try.underlying3 (hval 2 3 v2 rfl rfl) h2
  obtain ⟨a3, rfl, rfl, rfl, w3⟩ := open_int Try.underlying3 (hval 3 3 v3 rfl rfl) h3
  have h0k := h0
  have hlt0 : ∀ x ∈ p0, x.block < W.heap.size := fun x hx => by simpa using hW'.lt x (by simp [hx])
  obtain ⟨l0, i0, k0, m0⟩ := open_ints_all Try.underlying30 Try.underlying3 (by kernel_rfl) (okWide_slice Try.underlying30 (hval 0 30 v0 rfl rfl)) h0
  clear hA0 hval0
  simp only [List.append_nil] at hW'
  refine (walk W v0 l0 i0 k0 m0 a1 w1 a2 w2 a3 w3).mono fun e W' ⟨he, hg⟩ => ?_
  subst he
  exact ⟨_, rfl, _, _, _, [], _, [], hW', (trodAll_cons_mk (shut_bool Try.underlying4 _) trodAll_mk0), (trodAll_cons_mk (Below.trod laidOut (by kernel_rfl) (of_decide_eq_true (by kernel_rfl)) h0k hg.below hlt0) (trodAll_cons_mk (shut_int Try.underlying3 w1) (trodAll_cons_mk (shut_int Try.underlying3 w2) (trodAll_cons_mk (shut_int Try.underlying3 w3) trodAll_mk0)))), rfl, hg.below.frame _, fun h => by cases h⟩

theorem over : Rows.newtonAsksRow.holds Try.pinned (OpenSpec.ofChange Rows.newtonAsksSpec) :=
  OpenClaim.holds_of_wide 9 Try.f9 rfl rfl rfl rfl rfl rfl rfl ⟨rfl, rfl, rfl, rfl, rfl⟩ rfl rfl rfl rfl rfl (by kernel_rfl) Try.func9 (by kernel_rfl)
    (of_decide_eq_true (by kernel_rfl)) (by unfold Func.isWrapper; first | (rw [if_pos (by decide +kernel)]; kernel_rfl) | (rw [if_neg (by decide +kernel)]; exact ⟨rfl, rfl⟩))
    (fun os started H enc _ => lifted os started H enc)

/-- The statement. -/
theorem proved : Rows.NewtonAsksSaid :=
  over
#print axioms proved
end Go.Proofs.Ytgkkfmjlgmoefaa.newtonAsks
