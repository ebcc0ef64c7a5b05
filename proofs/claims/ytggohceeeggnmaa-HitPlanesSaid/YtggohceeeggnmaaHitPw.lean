/-
  HitPlanes: the walk.
-/
import Derived.Test.YtggohceeeggnmaaLaw15
import Derived.Test.YtggohceeeggnmaaGm5
import Derived.Test.YtggohceeeggnmaaGs5
namespace Go.Proofs.Ytggohceeeggnmaa
set_option linter.unusedVariables false
open Go.ChangeShapes Go.WideShapes Go.ChangeAt Go.RowKit

set_option maxHeartbeats 16000000 in
set_option maxRecDepth 100000 in
theorem hitPlanes_walk (w : World) (a0 : Int) (w0 : (Lit.int .i64 a0).wf = true) (a1 : Int) (w1 : (Lit.int .i64 a1).wf = true) (a2 : Int) (w2 : (Lit.int .i64 a2).wf = true) (a3 : Int) (w3 : (Lit.int .i64 a3).wf = true) (a4 : Int) (w4 : (Lit.int .i64 a4).wf = true) (a5 : Int) (w5 : (Lit.int .i64 a5).wf = true) :
    Calls Try.prog 7 #[.int .i64 a0, .int .i64 a1, .int .i64 a2, .int .i64 a3, .int .i64 a4, .int .i64 a5] w fun e w' => e = .returned (.bool true) ∧ More w w' := by
  obtain ⟨b01, b02⟩ := bounds_i64 w0
  obtain ⟨b11, b12⟩ := bounds_i64 w1
  obtain ⟨b21, b22⟩ := bounds_i64 w2
  obtain ⟨b31, b32⟩ := bounds_i64 w3
  obtain ⟨b41, b42⟩ := bounds_i64 w4
  obtain ⟨b51, b52⟩ := bounds_i64 w5
  obtain ⟨x, hx⟩ : ∃ x, a0 % 41 - 20 = x := ⟨_, rfl⟩
  have x0 : -20 ≤ x := by omega
  have x1 : x ≤ 20 := by omega
  obtain ⟨y, hy⟩ : ∃ y, a1 % 41 - 20 = y := ⟨_, rfl⟩
  have y0 : -20 ≤ y := by omega
  have y1 : y ≤ 20 := by omega
  obtain ⟨z, hz⟩ : ∃ z, 1 + a2 % 50 = z := ⟨_, rfl⟩
  have z0 : 1 ≤ z := by omega
  have z1 : z ≤ 50 := by omega
  obtain ⟨u, hu⟩ : ∃ u, a3 % 9 - 4 = u := ⟨_, rfl⟩
  have u0 : -4 ≤ u := by omega
  have u1 : u ≤ 4 := by omega
  obtain ⟨v, hv⟩ : ∃ v, a4 % 9 - 4 = v := ⟨_, rfl⟩
  have v0 : -4 ≤ v := by omega
  have v1 : v ≤ 4 := by omega
  obtain ⟨d, hd⟩ : ∃ d, 1 + a5 % 9 = d := ⟨_, rfl⟩
  have d0 : 1 ≤ d := by omega
  have d1 : d ≤ 9 := by omega
  obtain ⟨t1, t2, p1, p2, q1, q2, k1, k2, hP, ⟨r1', r2', r3', r4'⟩, ⟨e1, e2, e3, e4, e5, e6⟩, f1, f2, f3, f4, f5, f6⟩ := hit_plane (x := x) (y := y) (z := z) (u := u) (v := v) (w := d) ⟨x0, x1⟩ ⟨y0, y1⟩ ⟨z0, z1⟩ ⟨u0, u1⟩ ⟨v0, v1⟩ ⟨d0, d1⟩
  unfold planeS at hP
  obtain ⟨-, -, e7⟩ := right_of.1 r1'
  obtain ⟨-, -, e8⟩ := right_of.1 r2'
  obtain ⟨-, -, e9⟩ := right_of.1 r3'
  have gA1 := pr_bd (m := t1) (n := d) (A := 100000000) (B := 9) (by omega) (by omega)
  obtain ⟨A1, hA1⟩ : ∃ A1, t1 * d = A1 := ⟨_, rfl⟩
  have gA2 := pr_bd (m := t2) (n := d) (A := 100000000) (B := 9) (by omega) (by omega)
  obtain ⟨A2, hA2⟩ : ∃ A2, t2 * d = A2 := ⟨_, rfl⟩
  have gB1 := pr_bd (m := p1) (n := d) (A := 200000000) (B := 9) (by omega) (by omega)
  obtain ⟨B1, hB1⟩ : ∃ B1, p1 * d = B1 := ⟨_, rfl⟩
  have gB2 := pr_bd (m := p2) (n := d) (A := 200000000) (B := 9) (by omega) (by omega)
  obtain ⟨B2, hB2⟩ : ∃ B2, p2 * d = B2 := ⟨_, rfl⟩
  have gC1 := pr_bd (m := q1) (n := d) (A := 200000000) (B := 9) (by omega) (by omega)
  obtain ⟨C1, hC1⟩ : ∃ C1, q1 * d = C1 := ⟨_, rfl⟩
  have gC2 := pr_bd (m := q2) (n := d) (A := 200000000) (B := 9) (by omega) (by omega)
  obtain ⟨C2, hC2⟩ : ∃ C2, q2 * d = C2 := ⟨_, rfl⟩
  have gXW := pr_bd (m := x) (n := d) (A := 20) (B := 9) (by omega) (by omega)
  obtain ⟨XW, hXW⟩ : ∃ XW, x * d = XW := ⟨_, rfl⟩
  have gYW := pr_bd (m := y) (n := d) (A := 20) (B := 9) (by omega) (by omega)
  obtain ⟨YW, hYW⟩ : ∃ YW, y * d = YW := ⟨_, rfl⟩
  have gUZ := pr_bd (m := u) (n := z) (A := 4) (B := 50) (by omega) (by omega)
  obtain ⟨UZ, hUZ⟩ : ∃ UZ, u * z = UZ := ⟨_, rfl⟩
  have gVZ := pr_bd (m := v) (n := z) (A := 4) (B := 50) (by omega) (by omega)
  obtain ⟨VZ, hVZ⟩ : ∃ VZ, v * z = VZ := ⟨_, rfl⟩
  rw [hA1] at f1
  rw [hA2] at f2
  rw [hB1, hXW, hUZ] at f3
  rw [hB2, hXW, hUZ] at f4
  rw [hC1, hYW, hVZ] at f5
  rw [hC2, hYW, hVZ] at f6
  rw [hA1] at gA1
  obtain ⟨gA11, gA12⟩ := gA1
  have wA1 : IntKind.i64.wrap A1 = A1 := IntWalk.i64_in _ ⟨by omega, by omega⟩
  rw [hA2] at gA2
  obtain ⟨gA21, gA22⟩ := gA2
  have wA2 : IntKind.i64.wrap A2 = A2 := IntWalk.i64_in _ ⟨by omega, by omega⟩
  rw [hB1] at gB1
  obtain ⟨gB11, gB12⟩ := gB1
  have wB1 : IntKind.i64.wrap B1 = B1 := IntWalk.i64_in _ ⟨by omega, by omega⟩
  rw [hB2] at gB2
  obtain ⟨gB21, gB22⟩ := gB2
  have wB2 : IntKind.i64.wrap B2 = B2 := IntWalk.i64_in _ ⟨by omega, by omega⟩
  rw [hC1] at gC1
  obtain ⟨gC11, gC12⟩ := gC1
  have wC1 : IntKind.i64.wrap C1 = C1 := IntWalk.i64_in _ ⟨by omega, by omega⟩
  rw [hC2] at gC2
  obtain ⟨gC21, gC22⟩ := gC2
  have wC2 : IntKind.i64.wrap C2 = C2 := IntWalk.i64_in _ ⟨by omega, by omega⟩
  rw [hXW] at gXW
  obtain ⟨gXW1, gXW2⟩ := gXW
  have wXW : IntKind.i64.wrap XW = XW := IntWalk.i64_in _ ⟨by omega, by omega⟩
  rw [hYW] at gYW
  obtain ⟨gYW1, gYW2⟩ := gYW
  have wYW : IntKind.i64.wrap YW = YW := IntWalk.i64_in _ ⟨by omega, by omega⟩
  rw [hUZ] at gUZ
  obtain ⟨gUZ1, gUZ2⟩ := gUZ
  have wUZ : IntKind.i64.wrap UZ = UZ := IntWalk.i64_in _ ⟨by omega, by omega⟩
  rw [hVZ] at gVZ
  obtain ⟨gVZ1, gVZ2⟩ := gVZ
  have wVZ : IntKind.i64.wrap VZ = VZ := IntWalk.i64_in _ ⟨by omega, by omega⟩
  have m1 : IntKind.i64.wrap (z * 65536) = z * 65536 := IntWalk.i64_in _ ⟨by omega, by omega⟩
  have m2 : IntKind.i64.wrap (XW + UZ) = XW + UZ := IntWalk.i64_in _ ⟨by omega, by omega⟩
  have m3 : IntKind.i64.wrap ((XW + UZ) * 65536) = (XW + UZ) * 65536 := IntWalk.i64_in _ ⟨by omega, by omega⟩
  have m4 : IntKind.i64.wrap (YW + VZ) = YW + VZ := IntWalk.i64_in _ ⟨by omega, by omega⟩
  have m5 : IntKind.i64.wrap ((YW + VZ) * 65536) = (YW + VZ) * 65536 := IntWalk.i64_in _ ⟨by omega, by omega⟩
  have c1 : decide (A1 ≤ z * 65536) = true := decide_eq_true (by omega)
  have c3 : decide (B1 ≤ (XW + UZ) * 65536) = true := decide_eq_true (by omega)
  have c5 : decide (C1 ≤ (YW + VZ) * 65536) = true := decide_eq_true (by omega)
  have c2 : decide (z * 65536 ≤ A2) = true := decide_eq_true (by omega)
  have c4 : decide ((XW + UZ) * 65536 ≤ B2) = true := decide_eq_true (by omega)
  have c6 : decide ((YW + VZ) * 65536 ≤ C2) = true := decide_eq_true (by omega)
  clear f1 f2 f3 f4 f5 f6 e1 e2 e3 e4 e5 e6 e7 e8 e9 r2' r3'
  have HP := Lib.hid hP
  clear hP
  go_enter Try.func7, Try.ntmps7
  go_upto_region 8 with (first | (first | (go_at_call 11; (with_reducible refine (whole_c _ _).mono ?_); rintro e w' ⟨rfl, r, rfl⟩) | (go_at_call 13; (with_reducible refine (vof_c _ _ _ _).mono ?_); rintro e w' ⟨rfl, r, rfl⟩) | (go_at_call 13; (with_reducible refine (vof_c ⟨_, _, _⟩ ⟨_, _, _⟩ ⟨_, _, _⟩ _).mono ?_); rintro e w' ⟨rfl, r, rfl⟩) | (go_at_call 14; (with_reducible refine (point_c _ _).mono ?_); rintro e w' ⟨rfl, r, rfl⟩) | (go_at_call 29; (with_reducible refine (pick_c _ _ (by omega) (by omega) (by omega) (by omega) _).mono ?_); rintro e w' ⟨rfl, rfl⟩)))
  (first | (with_reducible refine wp_more_apartl_m (id := 8) 11 154 [7, 8] [(23, #[.int .i64 0, .int .i64 0, .bool false]), (30, #[.int .i64 0, .int .i64 0, .bool false, .int .i64 0, .int .i64 0, .bool false, .int .i64 0, .int .i64 0, .bool false])] ?_ ?_ ?_ ?_ ?_ ?_ ?_ ?_ ?_ ?_) | (refine wp_more_apartl (id := 8) 11 154 [7, 8] [(23, #[.int .i64 0, .int .i64 0, .bool false]), (30, #[.int .i64 0, .int .i64 0, .bool false, .int .i64 0, .int .i64 0, .bool false, .int .i64 0, .int .i64 0, .bool false])] ?_ ?_ ?_ ?_ ?_ ?_ ?_ ?_ ?_ ?_))
  · intro p hp; simp only [List.mem_cons, List.not_mem_nil, or_false] at hp; rcases hp with rfl | rfl <;> first | exact new_iv | exact new_pl
  · kernel_rfl
  · kernel_rfl
  · kernel_rfl
  · kernel_rfl
  · kernel_rfl
  · kernel_rfl
  · rfl
  · (intro _ _ _ _ _ h; exact h)
  simp only [List.take_succ_cons, List.take_zero, List.drop_succ_cons, List.drop_zero]
  (repeat (first | (refine loose_alloc 14 23 #[.int .i64 0, .int .i64 0, .bool false] new_iv rfl rfl rfl rfl (by simp) ?_) | (refine loose_alloc 14 30 #[.int .i64 0, .int .i64 0, .bool false, .int .i64 0, .int .i64 0, .bool false, .int .i64 0, .int .i64 0, .bool false] new_pl rfl rfl rfl rfl (by simp) ?_) | (refine loose_alloc 15 23 #[.int .i64 0, .int .i64 0, .bool false] new_iv rfl rfl rfl rfl (by simp) ?_) | (refine loose_alloc 15 30 #[.int .i64 0, .int .i64 0, .bool false, .int .i64 0, .int .i64 0, .bool false, .int .i64 0, .int .i64 0, .bool false] new_pl rfl rfl rfl rfl (by simp) ?_) | (refine loose_step rfl (fun K9 hK9 => ?_); go_simp; first | (refine hK9 _ ?_; clear hK9 K9) | (apply Exists.intro; refine ⟨fun _ => ?_, hK9 _ ?_⟩; ((first | (go_at_call 31; with_reducible exact plane15_c (ivWhole z) _) | (go_at_call 30; with_reducible exact hitof_c ⟨false, false, ⟨0, 0, false⟩, ⟨65536, 65536, false⟩, ⟨0, 0, false⟩, ⟨0, 0, false⟩, ivWhole z, ⟨6553600, 6553600, false⟩, ⟨65536, 65536, false⟩⟩ ⟨⟨ivWhole x, ivWhole y, ivPoint 0⟩, ⟨ivWhole u, ivWhole v, ivWhole d⟩⟩ _) | (go_at_call 11; with_reducible exact whole_c _ _) | (go_at_call 30; with_reducible exact hitof_c _ _ _) | (go_at_call 30; with_reducible exact hitof_c _ ⟨_, _⟩ _) | (go_at_call 30; with_reducible exact hitof_c ⟨_, _, ⟨_, _, _⟩, ⟨_, _, _⟩, ⟨_, _, _⟩, ⟨_, _, _⟩, ⟨_, _, _⟩, ⟨_, _, _⟩, ⟨_, _, _⟩⟩ ⟨_, _⟩ _) | (go_at_call 30; with_reducible exact hitof_c _ ⟨⟨_, _, _⟩, ⟨_, _, _⟩⟩ _) | (go_at_call 30; with_reducible exact hitof_c ⟨_, _, ⟨_, _, _⟩, ⟨_, _, _⟩, ⟨_, _, _⟩, ⟨_, _, _⟩, ⟨_, _, _⟩, ⟨_, _, _⟩, ⟨_, _, _⟩⟩ ⟨⟨_, _, _⟩, ⟨_, _, _⟩⟩ _))); clear hK9 K9))))
  intro r
  simp only [allFits]
  rintro _ ⟨b2', rfl, hb2', hc2'⟩ _ ⟨b1', rfl, hb1', hc1'⟩ hfar
  have n12 := hfar 9 10 _ _ _ _ 14 15 rfl rfl rfl rfl rfl rfl (by decide)
  simp [Act.put] at n12
  refine two_end2 23 30 3 9 (.tmp 14) (.tmp 55) (.tmp 15) (.tmp 56) b1' b2' _ _ (cellsI ((hitP ⟨false, false, ⟨0, 0, false⟩, ⟨65536, 65536, false⟩, ⟨0, 0, false⟩, ⟨0, 0, false⟩, ivWhole z, ⟨6553600, 6553600, false⟩, ⟨65536, 65536, false⟩⟩ ⟨⟨ivWhole x, ivWhole y, ivPoint 0⟩, ⟨ivWhole u, ivWhole v, ivWhole d⟩⟩).1)) (cellsP ((hitP ⟨false, false, ⟨0, 0, false⟩, ⟨65536, 65536, false⟩, ⟨0, 0, false⟩, ⟨0, 0, false⟩, ivWhole z, ⟨6553600, 6553600, false⟩, ⟨65536, 65536, false⟩⟩ ⟨⟨ivWhole x, ivWhole y, ivPoint 0⟩, ⟨ivWhole u, ivWhole v, ivWhole d⟩⟩).2.1)) rfl rfl rfl rfl rfl rfl rfl rfl rfl rfl size_ivT size_pl rfl rfl (by decide) (by decide) (one_iv _ _ _) (one_pl _) ((More.refl _).more r) hb1' hb2' hc1' rfl hc2' rfl n12 ?_
  clear hfar n12 hb1' hb2' hc1' hc2'
  intro V hMV h1V h2V
  have MW : More w V := More.trans (by repeat (first | exact More.refl _ | refine More.alloc ?_ _ | refine More.more ?_ _ | refine More.drew ?_ | refine More.drewN ?_ _)) hMV
  rw [HP.out] at h1V h2V
  dsimp only at h1V h2V
  obtain ⟨l0, i0, i1, i2⟩ := iv_cells h1V
  obtain ⟨l1, ⟨j0, j1, j2⟩, ⟨j3, j4, j5⟩, j6, j7, j8⟩ := plat_cells (p := ⟨⟨p1, p2, false⟩, ⟨q1, q2, false⟩, ⟨k1, k2, false⟩⟩) h2V
  dsimp only at j0 j1 j2 j3 j4 j5 j6 j7 j8
  have hi := congrArg (fun q => q.2.2) HP.out
  dsimp only at hi
  clear hMV h1V h2V hx hy hz hu hv hd
  go_upto_region 9 with fail
  (try simp only [List.append_eq, List.cons_append, List.nil_append])
  go_wp2_with (first | (first | (go_at_call 17; (with_reducible refine (has_c _ _ _).mono ?_); rintro e w' ⟨rfl, r, rfl⟩) | (go_at_call 17; (with_reducible refine (has_c ⟨_, _, _⟩ _ _).mono ?_); rintro e w' ⟨rfl, r, rfl⟩) | (go_at_call 32; (with_reducible refine (known15_c _).mono ?_); rintro e w' ⟨rfl, r, rfl⟩) | (go_at_call 33; (with_reducible refine (rright_c _ _).mono ?_); rintro e w' ⟨rfl, r, rfl⟩) | (go_at_call 33; (with_reducible refine (rright_c ⟨_, _, _⟩ _).mono ?_); rintro e w' ⟨rfl, r, rfl⟩)))
  go_returns
  exact ⟨rfl, More.trans MW (by repeat (first | exact More.refl _ | refine More.alloc ?_ _ | refine More.more ?_ _ | refine More.drew ?_ | refine More.drewN ?_ _))⟩
end Go.Proofs.Ytggohceeeggnmaa

