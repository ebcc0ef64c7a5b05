/-
  SagKnown: the walk.
-/
import Derived.Test.YtblbfommjfekeaaLaw14
import Derived.Test.YtblbfommjfekeaaGlassIx
import Derived.Test.YtblbfommjfekeaaTwo
import Derived.Test.YtblbfommjfekeaaReg8
namespace Go.Proofs.Ytblbfommjfekeaa
set_option linter.unusedVariables false
open Go.ChangeShapes Go.WideShapes Go.ChangeAt Go.RowKit

set_option maxHeartbeats 16000000 in
set_option maxRecDepth 100000 in
theorem sagKnown_walk (w : World) : Calls Try.prog 3 #[] w fun e w' => e = .returned (.bool true) ∧ More w w' := by
  have w1 : ivWhole 1 = ⟨65536, 65536, false⟩ := by kernel_rfl
  have w5 : ivWhole 5 = ⟨327680, 327680, false⟩ := by kernel_rfl
  have w9 : ivWhole 9 = ⟨589824, 589824, false⟩ := by kernel_rfl
  have w16 : ivWhole 16 = ⟨1048576, 1048576, false⟩ := by kernel_rfl
  have w2 : ivWhole 2 = ⟨131072, 131072, false⟩ := by kernel_rfl
  have w100 : ivWhole 100 = ⟨6553600, 6553600, false⟩ := by kernel_rfl
  have w26 : ivWhole 26 = ⟨1703936, 1703936, false⟩ := by kernel_rfl
  have p0 : ivPoint 0 = ⟨0, 0, false⟩ := by kernel_rfl
  have p1 : ivPoint 16384 = ⟨16384, 16384, false⟩ := by kernel_rfl
  have p2 : ivPoint 8192 = ⟨8192, 8192, false⟩ := by kernel_rfl
  have dv : ivDiv ⟨65536, 65536, false⟩ ⟨327680, 327680, false⟩ = ⟨13107, 13108, false⟩ := by kernel_rfl
  have nn : ivNone = ⟨0, 0, true⟩ := rfl
  have z0 : sagZ ⟨false, false, ⟨13107, 13108, false⟩, ⟨65536, 65536, false⟩, ⟨0, 0, false⟩, ⟨0, 0, false⟩, ⟨0, 0, false⟩, ⟨6553600, 6553600, false⟩, ⟨65536, 65536, false⟩⟩ (ivWhole 9) = ⟨65533, 65543, false⟩ := by kernel_rfl
  have m0 : sagM ⟨false, false, ⟨13107, 13108, false⟩, ⟨65536, 65536, false⟩, ⟨0, 0, false⟩, ⟨0, 0, false⟩, ⟨0, 0, false⟩, ⟨6553600, 6553600, false⟩, ⟨65536, 65536, false⟩⟩ (ivWhole 9) = ⟨8191, 8194, false⟩ := by kernel_rfl
  have z1 : sagZ ⟨false, false, ⟨16384, 16384, false⟩, ⟨0, 0, false⟩, ⟨0, 0, false⟩, ⟨0, 0, false⟩, ⟨0, 0, false⟩, ⟨6553600, 6553600, false⟩, ⟨65536, 65536, false⟩⟩ (ivWhole 16) = ⟨131072, 131072, false⟩ := by kernel_rfl
  have m1 : sagM ⟨false, false, ⟨16384, 16384, false⟩, ⟨0, 0, false⟩, ⟨0, 0, false⟩, ⟨0, 0, false⟩, ⟨0, 0, false⟩, ⟨6553600, 6553600, false⟩, ⟨65536, 65536, false⟩⟩ (ivWhole 16) = ⟨8192, 8192, false⟩ := by kernel_rfl
  have z2 : sagZ ⟨false, true, ⟨0, 0, false⟩, ⟨65536, 65536, false⟩, ⟨131072, 131072, false⟩, ⟨0, 0, false⟩, ⟨0, 0, false⟩, ⟨6553600, 6553600, false⟩, ⟨65536, 65536, false⟩⟩ (ivWhole 100) = ⟨1310, 1311, false⟩ := by kernel_rfl
  have m2 : sagM ⟨false, true, ⟨0, 0, false⟩, ⟨65536, 65536, false⟩, ⟨131072, 131072, false⟩, ⟨0, 0, false⟩, ⟨0, 0, false⟩, ⟨6553600, 6553600, false⟩, ⟨65536, 65536, false⟩⟩ (ivWhole 100) = ⟨26, 27, false⟩ := by kernel_rfl
  have z3 : sagZ ⟨false, false, ⟨13107, 13108, false⟩, ⟨65536, 65536, false⟩, ⟨0, 0, false⟩, ⟨0, 0, false⟩, ⟨0, 0, false⟩, ⟨6553600, 6553600, false⟩, ⟨65536, 65536, false⟩⟩ (ivWhole 26) = ⟨0, 0, true⟩ := by kernel_rfl
  have m3 : sagM ⟨false, false, ⟨13107, 13108, false⟩, ⟨65536, 65536, false⟩, ⟨0, 0, false⟩, ⟨0, 0, false⟩, ⟨0, 0, false⟩, ⟨6553600, 6553600, false⟩, ⟨65536, 65536, false⟩⟩ (ivWhole 26) = ⟨0, 0, true⟩ := by kernel_rfl
  have z4 : sagZ ⟨false, false, ⟨13107, 13108, false⟩, ⟨65536, 65536, false⟩, ⟨0, 0, false⟩, ⟨0, 0, false⟩, ⟨0, 0, false⟩, ⟨6553600, 6553600, false⟩, ⟨65536, 65536, false⟩⟩ ivNone = ⟨0, 0, true⟩ := by kernel_rfl
  have m4 : sagM ⟨false, false, ⟨13107, 13108, false⟩, ⟨65536, 65536, false⟩, ⟨0, 0, false⟩, ⟨0, 0, false⟩, ⟨0, 0, false⟩, ⟨6553600, 6553600, false⟩, ⟨65536, 65536, false⟩⟩ ivNone = ⟨0, 0, true⟩ := by kernel_rfl
  have g0 : ivHas ⟨65533, 65543, false⟩ 65536 = true := by decide
  have g1 : ivHas ⟨8191, 8194, false⟩ 8192 = true := by decide
  have g2 : ivHas ⟨1310, 1311, false⟩ 1310 = true := by decide
  have g3 : ivHas ⟨26, 27, false⟩ 26 = true := by decide
  have E := eql_same
  go_enter Try.func3, Try.ntmps3
  go_upto_region 3 with (first | (go_at_call 8; (with_reducible refine (flat14_c _).mono ?_); rintro e w' ⟨rfl, r, rfl⟩) | (first | (go_at_call 9; (with_reducible refine (idiv_c _ _ _).mono ?_); rintro e w' ⟨rfl, r, rfl⟩) | (go_at_call 9; (with_reducible refine (idiv_c _ ⟨_, _, _⟩ _).mono ?_); rintro e w' ⟨rfl, r, rfl⟩) | (go_at_call 9; (with_reducible refine (idiv_c ⟨_, _, _⟩ _ _).mono ?_); rintro e w' ⟨rfl, r, rfl⟩) | (go_at_call 9; (with_reducible refine (idiv_c ⟨_, _, _⟩ ⟨_, _, _⟩ _).mono ?_); rintro e w' ⟨rfl, r, rfl⟩) | (go_at_call 10; (with_reducible refine (whole_c _ _).mono ?_); rintro e w' ⟨rfl, r, rfl⟩) | (go_at_call 12; (with_reducible refine (point_c _ _).mono ?_); rintro e w' ⟨rfl, r, rfl⟩)))
  (first | (with_reducible refine wp_more_apartl_m (id := 3) 8 113 [5] [(23, #[.int .i64 0, .int .i64 0, .bool false])] ?_ ?_ ?_ ?_ ?_ ?_ ?_ ?_ ?_ ?_) | (refine wp_more_apartl (id := 3) 8 113 [5] [(23, #[.int .i64 0, .int .i64 0, .bool false])] ?_ ?_ ?_ ?_ ?_ ?_ ?_ ?_ ?_ ?_))
  · intro p hp; simp only [List.mem_cons, List.not_mem_nil, or_false] at hp; subst hp; first | exact new_iv
  · kernel_rfl
  · kernel_rfl
  · kernel_rfl
  · kernel_rfl
  · kernel_rfl
  · kernel_rfl
  · rfl
  · (intro _ _ _ _ _ h; exact h)
  simp only [List.take_succ_cons, List.take_zero, List.drop_succ_cons, List.drop_zero]
  (repeat (first | (refine loose_alloc 2 23 #[.int .i64 0, .int .i64 0, .bool false] new_iv rfl rfl rfl rfl (by simp) ?_) | (refine loose_alloc 3 23 #[.int .i64 0, .int .i64 0, .bool false] new_iv rfl rfl rfl rfl (by simp) ?_) | (refine loose_step rfl (fun K9 hK9 => ?_); go_simp; first | (refine hK9 _ ?_; clear hK9 K9) | (apply Exists.intro; refine ⟨fun _ => ?_, hK9 _ ?_⟩; ((first | (go_at_call 11; with_reducible exact sag_c ⟨false, false, ⟨13107, 13108, false⟩, ⟨65536, 65536, false⟩, ⟨0, 0, false⟩, ⟨0, 0, false⟩, ⟨0, 0, false⟩, ⟨6553600, 6553600, false⟩, ⟨65536, 65536, false⟩⟩ (ivWhole 9) _) | (go_at_call 10; with_reducible exact whole_c _ _) | (go_at_call 11; with_reducible exact sag_c _ _ _) | (go_at_call 11; with_reducible exact sag_c _ ⟨_, _, _⟩ _) | (go_at_call 11; with_reducible exact sag_c ⟨_, _, ⟨_, _, _⟩, ⟨_, _, _⟩, ⟨_, _, _⟩, ⟨_, _, _⟩, ⟨_, _, _⟩, ⟨_, _, _⟩, ⟨_, _, _⟩⟩ ⟨_, _, _⟩ _))); clear hK9 K9))))
  intro r
  simp only [allFits]
  rintro _ ⟨b2', rfl, hb2', hc2'⟩ _ ⟨b1', rfl, hb1', hc1'⟩ hfar
  have n12 := hfar 6 7 _ _ _ _ 2 3 rfl rfl rfl rfl rfl rfl (by decide)
  simp [Act.put] at n12
  refine two_end 23 3 (.tmp 2) (.tmp 23) (.tmp 3) (.tmp 24) b1' b2' _ _ (cellsI (sagZ ⟨false, false, ⟨13107, 13108, false⟩, ⟨65536, 65536, false⟩, ⟨0, 0, false⟩, ⟨0, 0, false⟩, ⟨0, 0, false⟩, ⟨6553600, 6553600, false⟩, ⟨65536, 65536, false⟩⟩ (ivWhole 9))) (cellsI (sagM ⟨false, false, ⟨13107, 13108, false⟩, ⟨65536, 65536, false⟩, ⟨0, 0, false⟩, ⟨0, 0, false⟩, ⟨0, 0, false⟩, ⟨6553600, 6553600, false⟩, ⟨65536, 65536, false⟩⟩ (ivWhole 9))) rfl rfl rfl rfl rfl rfl rfl rfl rfl rfl size_ivT rfl rfl (by decide) (one_iv _ _ _) (one_iv _ _ _) ((More.refl _).more r) hb1' hb2' hc1' rfl hc2' rfl n12 ?_
  clear hfar n12 hb1' hb2' hc1' hc2'
  intro v0 hMv0 h1v0 h2v0
  refine wpList_nil ?_
  rw [z0] at h1v0
  rw [m0] at h2v0
  have M0 : More w v0 := More.trans (by repeat (first | exact More.refl _ | refine More.alloc ?_ _ | refine More.more ?_ _ | refine More.drew ?_ | refine More.drewN ?_ _)) hMv0
  have hb0 := heap_at _ hMv0 rfl
  rw [size_more] at hb0
  have LB := fun w' h => load_sf_up (s := ⟨false, false, ⟨13107, 13108, false⟩, ⟨65536, 65536, false⟩, ⟨0, 0, false⟩, ⟨0, 0, false⟩, ⟨0, 0, false⟩, ⟨6553600, 6553600, false⟩, ⟨65536, 65536, false⟩⟩) (w' := w') hb0 h
  clear hMv0
  go_upto_region 7 with (first | (go_at_call 8; (with_reducible refine (flat14_c _).mono ?_); rintro e w' ⟨rfl, r, rfl⟩) | (first | (go_at_call 9; (with_reducible refine (idiv_c _ _ _).mono ?_); rintro e w' ⟨rfl, r, rfl⟩) | (go_at_call 9; (with_reducible refine (idiv_c _ ⟨_, _, _⟩ _).mono ?_); rintro e w' ⟨rfl, r, rfl⟩) | (go_at_call 9; (with_reducible refine (idiv_c ⟨_, _, _⟩ _ _).mono ?_); rintro e w' ⟨rfl, r, rfl⟩) | (go_at_call 9; (with_reducible refine (idiv_c ⟨_, _, _⟩ ⟨_, _, _⟩ _).mono ?_); rintro e w' ⟨rfl, r, rfl⟩) | (go_at_call 10; (with_reducible refine (whole_c _ _).mono ?_); rintro e w' ⟨rfl, r, rfl⟩) | (go_at_call 12; (with_reducible refine (point_c _ _).mono ?_); rintro e w' ⟨rfl, r, rfl⟩)))
  (first | (with_reducible refine wp_more_apartl_m (id := 7) 8 113 [5] [(23, #[.int .i64 0, .int .i64 0, .bool false])] ?_ ?_ ?_ ?_ ?_ ?_ ?_ ?_ ?_ ?_) | (refine wp_more_apartl (id := 7) 8 113 [5] [(23, #[.int .i64 0, .int .i64 0, .bool false])] ?_ ?_ ?_ ?_ ?_ ?_ ?_ ?_ ?_ ?_))
  · intro p hp; simp only [List.mem_cons, List.not_mem_nil, or_false] at hp; subst hp; first | exact new_iv
  · kernel_rfl
  · kernel_rfl
  · kernel_rfl
  · kernel_rfl
  · kernel_rfl
  · kernel_rfl
  · rfl
  · (intro _ _ _ _ _ h; exact h)
  simp only [List.take_succ_cons, List.take_zero, List.drop_succ_cons, List.drop_zero]
  (repeat (first | (refine loose_alloc 5 23 #[.int .i64 0, .int .i64 0, .bool false] new_iv rfl rfl rfl rfl (by simp) ?_) | (refine loose_alloc 6 23 #[.int .i64 0, .int .i64 0, .bool false] new_iv rfl rfl rfl rfl (by simp) ?_) | (refine loose_step rfl (fun K9 hK9 => ?_); go_simp; first | (refine hK9 _ ?_; clear hK9 K9) | (apply Exists.intro; refine ⟨fun _ => ?_, hK9 _ ?_⟩; ((first | (go_at_call 11; with_reducible exact sag_c ⟨false, false, ⟨16384, 16384, false⟩, ⟨0, 0, false⟩, ⟨0, 0, false⟩, ⟨0, 0, false⟩, ⟨0, 0, false⟩, ⟨6553600, 6553600, false⟩, ⟨65536, 65536, false⟩⟩ (ivWhole 16) _) | (go_at_call 10; with_reducible exact whole_c _ _) | (go_at_call 11; with_reducible exact sag_c _ _ _) | (go_at_call 11; with_reducible exact sag_c _ ⟨_, _, _⟩ _) | (go_at_call 11; with_reducible exact sag_c ⟨_, _, ⟨_, _, _⟩, ⟨_, _, _⟩, ⟨_, _, _⟩, ⟨_, _, _⟩, ⟨_, _, _⟩, ⟨_, _, _⟩, ⟨_, _, _⟩⟩ ⟨_, _, _⟩ _))); clear hK9 K9))))
  intro r
  simp only [allFits]
  rintro _ ⟨b2', rfl, hb2', hc2'⟩ _ ⟨b1', rfl, hb1', hc1'⟩ hfar
  have n12 := hfar 6 7 _ _ _ _ 5 6 rfl rfl rfl rfl rfl rfl (by decide)
  simp [Act.put] at n12
  refine two_end 23 3 (.tmp 5) (.tmp 34) (.tmp 6) (.tmp 35) b1' b2' _ _ (cellsI (sagZ ⟨false, false, ⟨16384, 16384, false⟩, ⟨0, 0, false⟩, ⟨0, 0, false⟩, ⟨0, 0, false⟩, ⟨0, 0, false⟩, ⟨6553600, 6553600, false⟩, ⟨65536, 65536, false⟩⟩ (ivWhole 16))) (cellsI (sagM ⟨false, false, ⟨16384, 16384, false⟩, ⟨0, 0, false⟩, ⟨0, 0, false⟩, ⟨0, 0, false⟩, ⟨0, 0, false⟩, ⟨6553600, 6553600, false⟩, ⟨65536, 65536, false⟩⟩ (ivWhole 16))) rfl rfl rfl rfl rfl rfl rfl rfl rfl rfl size_ivT rfl rfl (by decide) (one_iv _ _ _) (one_iv _ _ _) ((More.refl _).more r) hb1' hb2' hc1' rfl hc2' rfl n12 ?_
  clear hfar n12 hb1' hb2' hc1' hc2'
  intro v1 hMv1 h1v1 h2v1
  refine wpList_nil ?_
  rw [z1] at h1v1
  rw [m1] at h2v1
  have M01 : More v0 v1 := More.trans (by repeat (first | exact More.refl _ | refine More.alloc ?_ _ | refine More.more ?_ _ | refine More.drew ?_ | refine More.drewN ?_ _)) hMv1
  clear hMv1
  go_upto_region 11 with (first | (go_at_call 8; (with_reducible refine (flat14_c _).mono ?_); rintro e w' ⟨rfl, r, rfl⟩) | (first | (go_at_call 9; (with_reducible refine (idiv_c _ _ _).mono ?_); rintro e w' ⟨rfl, r, rfl⟩) | (go_at_call 9; (with_reducible refine (idiv_c _ ⟨_, _, _⟩ _).mono ?_); rintro e w' ⟨rfl, r, rfl⟩) | (go_at_call 9; (with_reducible refine (idiv_c ⟨_, _, _⟩ _ _).mono ?_); rintro e w' ⟨rfl, r, rfl⟩) | (go_at_call 9; (with_reducible refine (idiv_c ⟨_, _, _⟩ ⟨_, _, _⟩ _).mono ?_); rintro e w' ⟨rfl, r, rfl⟩) | (go_at_call 10; (with_reducible refine (whole_c _ _).mono ?_); rintro e w' ⟨rfl, r, rfl⟩) | (go_at_call 12; (with_reducible refine (point_c _ _).mono ?_); rintro e w' ⟨rfl, r, rfl⟩)))
  (first | (with_reducible refine wp_more_apartl_m (id := 11) 8 113 [5] [(23, #[.int .i64 0, .int .i64 0, .bool false])] ?_ ?_ ?_ ?_ ?_ ?_ ?_ ?_ ?_ ?_) | (refine wp_more_apartl (id := 11) 8 113 [5] [(23, #[.int .i64 0, .int .i64 0, .bool false])] ?_ ?_ ?_ ?_ ?_ ?_ ?_ ?_ ?_ ?_))
  · intro p hp; simp only [List.mem_cons, List.not_mem_nil, or_false] at hp; subst hp; first | exact new_iv
  · kernel_rfl
  · kernel_rfl
  · kernel_rfl
  · kernel_rfl
  · kernel_rfl
  · kernel_rfl
  · rfl
  · (intro _ _ _ _ _ h; exact h)
  simp only [List.take_succ_cons, List.take_zero, List.drop_succ_cons, List.drop_zero]
  (repeat (first | (refine loose_alloc 8 23 #[.int .i64 0, .int .i64 0, .bool false] new_iv rfl rfl rfl rfl (by simp) ?_) | (refine loose_alloc 9 23 #[.int .i64 0, .int .i64 0, .bool false] new_iv rfl rfl rfl rfl (by simp) ?_) | (refine loose_step rfl (fun K9 hK9 => ?_); go_simp; first | (refine hK9 _ ?_; clear hK9 K9) | (apply Exists.intro; refine ⟨fun _ => ?_, hK9 _ ?_⟩; ((first | (go_at_call 11; with_reducible exact sag_c ⟨false, true, ⟨0, 0, false⟩, ⟨65536, 65536, false⟩, ⟨131072, 131072, false⟩, ⟨0, 0, false⟩, ⟨0, 0, false⟩, ⟨6553600, 6553600, false⟩, ⟨65536, 65536, false⟩⟩ (ivWhole 100) _) | (go_at_call 10; with_reducible exact whole_c _ _) | (go_at_call 11; with_reducible exact sag_c _ _ _) | (go_at_call 11; with_reducible exact sag_c _ ⟨_, _, _⟩ _) | (go_at_call 11; with_reducible exact sag_c ⟨_, _, ⟨_, _, _⟩, ⟨_, _, _⟩, ⟨_, _, _⟩, ⟨_, _, _⟩, ⟨_, _, _⟩, ⟨_, _, _⟩, ⟨_, _, _⟩⟩ ⟨_, _, _⟩ _))); clear hK9 K9))))
  intro r
  simp only [allFits]
  rintro _ ⟨b2', rfl, hb2', hc2'⟩ _ ⟨b1', rfl, hb1', hc1'⟩ hfar
  have n12 := hfar 6 7 _ _ _ _ 8 9 rfl rfl rfl rfl rfl rfl (by decide)
  simp [Act.put] at n12
  refine two_end 23 3 (.tmp 8) (.tmp 44) (.tmp 9) (.tmp 45) b1' b2' _ _ (cellsI (sagZ ⟨false, true, ⟨0, 0, false⟩, ⟨65536, 65536, false⟩, ⟨131072, 131072, false⟩, ⟨0, 0, false⟩, ⟨0, 0, false⟩, ⟨6553600, 6553600, false⟩, ⟨65536, 65536, false⟩⟩ (ivWhole 100))) (cellsI (sagM ⟨false, true, ⟨0, 0, false⟩, ⟨65536, 65536, false⟩, ⟨131072, 131072, false⟩, ⟨0, 0, false⟩, ⟨0, 0, false⟩, ⟨6553600, 6553600, false⟩, ⟨65536, 65536, false⟩⟩ (ivWhole 100))) rfl rfl rfl rfl rfl rfl rfl rfl rfl rfl size_ivT rfl rfl (by decide) (one_iv _ _ _) (one_iv _ _ _) ((More.refl _).more r) hb1' hb2' hc1' rfl hc2' rfl n12 ?_
  clear hfar n12 hb1' hb2' hc1' hc2'
  intro v2 hMv2 h1v2 h2v2
  refine wpList_nil ?_
  rw [z2] at h1v2
  rw [m2] at h2v2
  have M12 : More v1 v2 := More.trans (by repeat (first | exact More.refl _ | refine More.alloc ?_ _ | refine More.more ?_ _ | refine More.drew ?_ | refine More.drewN ?_ _)) hMv2
  clear hMv2
  have L12 : ∀ R, (loadWhole 25 ⟨_, 0, none⟩).run Try.prog (more v2 R) = _ := fun R => LB _ (More.trans (More.trans M01 M12) ((More.refl _).more R))
  have L12' := LB _ (More.trans M01 M12)
  go_upto_region 12 with (first | (go_at_call 8; (with_reducible refine (flat14_c _).mono ?_); rintro e w' ⟨rfl, r, rfl⟩) | (first | (go_at_call 9; (with_reducible refine (idiv_c _ _ _).mono ?_); rintro e w' ⟨rfl, r, rfl⟩) | (go_at_call 9; (with_reducible refine (idiv_c _ ⟨_, _, _⟩ _).mono ?_); rintro e w' ⟨rfl, r, rfl⟩) | (go_at_call 9; (with_reducible refine (idiv_c ⟨_, _, _⟩ _ _).mono ?_); rintro e w' ⟨rfl, r, rfl⟩) | (go_at_call 9; (with_reducible refine (idiv_c ⟨_, _, _⟩ ⟨_, _, _⟩ _).mono ?_); rintro e w' ⟨rfl, r, rfl⟩) | (go_at_call 10; (with_reducible refine (whole_c _ _).mono ?_); rintro e w' ⟨rfl, r, rfl⟩) | (go_at_call 12; (with_reducible refine (point_c _ _).mono ?_); rintro e w' ⟨rfl, r, rfl⟩)))
  (first | (with_reducible refine wp_more_apartl_m (id := 12) 8 113 [5] [(23, #[.int .i64 0, .int .i64 0, .bool false])] ?_ ?_ ?_ ?_ ?_ ?_ ?_ ?_ ?_ ?_) | (refine wp_more_apartl (id := 12) 8 113 [5] [(23, #[.int .i64 0, .int .i64 0, .bool false])] ?_ ?_ ?_ ?_ ?_ ?_ ?_ ?_ ?_ ?_))
  · intro p hp; simp only [List.mem_cons, List.not_mem_nil, or_false] at hp; subst hp; first | exact new_iv
  · kernel_rfl
  · kernel_rfl
  · kernel_rfl
  · kernel_rfl
  · kernel_rfl
  · kernel_rfl
  · rfl
  · (intro _ _ _ _ _ h; exact h)
  simp only [List.take_succ_cons, List.take_zero, List.drop_succ_cons, List.drop_zero]
  (repeat (first | (refine loose_alloc 10 23 #[.int .i64 0, .int .i64 0, .bool false] new_iv rfl rfl rfl rfl (by simp) ?_) | (refine loose_alloc 11 23 #[.int .i64 0, .int .i64 0, .bool false] new_iv rfl rfl rfl rfl (by simp) ?_) | (refine loose_step rfl (fun K9 hK9 => ?_); go_simp; first | (refine hK9 _ ?_; clear hK9 K9) | (apply Exists.intro; refine ⟨fun _ => ?_, hK9 _ ?_⟩; ((first | (go_at_call 11; with_reducible exact sag_c ⟨false, false, ⟨13107, 13108, false⟩, ⟨65536, 65536, false⟩, ⟨0, 0, false⟩, ⟨0, 0, false⟩, ⟨0, 0, false⟩, ⟨6553600, 6553600, false⟩, ⟨65536, 65536, false⟩⟩ (ivWhole 26) _) | (go_at_call 10; with_reducible exact whole_c _ _) | (go_at_call 11; with_reducible exact sag_c _ _ _) | (go_at_call 11; with_reducible exact sag_c _ ⟨_, _, _⟩ _) | (go_at_call 11; with_reducible exact sag_c ⟨_, _, ⟨_, _, _⟩, ⟨_, _, _⟩, ⟨_, _, _⟩, ⟨_, _, _⟩, ⟨_, _, _⟩, ⟨_, _, _⟩, ⟨_, _, _⟩⟩ ⟨_, _, _⟩ _))); clear hK9 K9))))
  intro r
  simp only [allFits]
  rintro _ ⟨b2', rfl, hb2', hc2'⟩ _ ⟨b1', rfl, hb1', hc1'⟩ hfar
  have n12 := hfar 6 7 _ _ _ _ 10 11 rfl rfl rfl rfl rfl rfl (by decide)
  simp [Act.put] at n12
  refine two_end 23 3 (.tmp 10) (.tmp 50) (.tmp 11) (.tmp 51) b1' b2' _ _ (cellsI (sagZ ⟨false, false, ⟨13107, 13108, false⟩, ⟨65536, 65536, false⟩, ⟨0, 0, false⟩, ⟨0, 0, false⟩, ⟨0, 0, false⟩, ⟨6553600, 6553600, false⟩, ⟨65536, 65536, false⟩⟩ (ivWhole 26))) (cellsI (sagM ⟨false, false, ⟨13107, 13108, false⟩, ⟨65536, 65536, false⟩, ⟨0, 0, false⟩, ⟨0, 0, false⟩, ⟨0, 0, false⟩, ⟨6553600, 6553600, false⟩, ⟨65536, 65536, false⟩⟩ (ivWhole 26))) rfl rfl rfl rfl rfl rfl rfl rfl rfl rfl size_ivT rfl rfl (by decide) (one_iv _ _ _) (one_iv _ _ _) ((More.refl _).more r) hb1' hb2' hc1' rfl hc2' rfl n12 ?_
  clear hfar n12 hb1' hb2' hc1' hc2'
  intro v3 hMv3 h1v3 h2v3
  refine wpList_nil ?_
  rw [z3] at h1v3
  rw [m3] at h2v3
  have M23 : More v2 v3 := More.trans (by repeat (first | exact More.refl _ | refine More.alloc ?_ _ | refine More.more ?_ _ | refine More.drew ?_ | refine More.drewN ?_ _)) hMv3
  clear hMv3
  have L13 : ∀ R, (loadWhole 25 ⟨_, 0, none⟩).run Try.prog (more v3 R) = _ := fun R => LB _ (More.trans (More.trans (More.trans M01 M12) M23) ((More.refl _).more R))
  have L13' := LB _ (More.trans (More.trans M01 M12) M23)
  go_upto_region 13 with (first | (go_at_call 8; (with_reducible refine (flat14_c _).mono ?_); rintro e w' ⟨rfl, r, rfl⟩) | (first | (go_at_call 9; (with_reducible refine (idiv_c _ _ _).mono ?_); rintro e w' ⟨rfl, r, rfl⟩) | (go_at_call 9; (with_reducible refine (idiv_c _ ⟨_, _, _⟩ _).mono ?_); rintro e w' ⟨rfl, r, rfl⟩) | (go_at_call 9; (with_reducible refine (idiv_c ⟨_, _, _⟩ _ _).mono ?_); rintro e w' ⟨rfl, r, rfl⟩) | (go_at_call 9; (with_reducible refine (idiv_c ⟨_, _, _⟩ ⟨_, _, _⟩ _).mono ?_); rintro e w' ⟨rfl, r, rfl⟩) | (go_at_call 10; (with_reducible refine (whole_c _ _).mono ?_); rintro e w' ⟨rfl, r, rfl⟩) | (go_at_call 12; (with_reducible refine (point_c _ _).mono ?_); rintro e w' ⟨rfl, r, rfl⟩)))
  (first | (with_reducible refine wp_more_apartl_m (id := 13) 8 113 [5] [(23, #[.int .i64 0, .int .i64 0, .bool false])] ?_ ?_ ?_ ?_ ?_ ?_ ?_ ?_ ?_ ?_) | (refine wp_more_apartl (id := 13) 8 113 [5] [(23, #[.int .i64 0, .int .i64 0, .bool false])] ?_ ?_ ?_ ?_ ?_ ?_ ?_ ?_ ?_ ?_))
  · intro p hp; simp only [List.mem_cons, List.not_mem_nil, or_false] at hp; subst hp; first | exact new_iv
  · kernel_rfl
  · kernel_rfl
  · kernel_rfl
  · kernel_rfl
  · kernel_rfl
  · kernel_rfl
  · rfl
  · (intro _ _ _ _ _ h; exact h)
  simp only [List.take_succ_cons, List.take_zero, List.drop_succ_cons, List.drop_zero]
  (repeat (first | (refine loose_alloc 12 23 #[.int .i64 0, .int .i64 0, .bool false] new_iv rfl rfl rfl rfl (by simp) ?_) | (refine loose_alloc 13 23 #[.int .i64 0, .int .i64 0, .bool false] new_iv rfl rfl rfl rfl (by simp) ?_) | (refine loose_step rfl (fun K9 hK9 => ?_); go_simp; first | (refine hK9 _ ?_; clear hK9 K9) | (apply Exists.intro; refine ⟨fun _ => ?_, hK9 _ ?_⟩; ((first | (go_at_call 11; with_reducible exact sag_c ⟨false, false, ⟨13107, 13108, false⟩, ⟨65536, 65536, false⟩, ⟨0, 0, false⟩, ⟨0, 0, false⟩, ⟨0, 0, false⟩, ⟨6553600, 6553600, false⟩, ⟨65536, 65536, false⟩⟩ ivNone _) | (go_at_call 11; with_reducible exact sag_c _ _ _) | (go_at_call 11; with_reducible exact sag_c _ ⟨_, _, _⟩ _) | (go_at_call 11; with_reducible exact sag_c ⟨_, _, ⟨_, _, _⟩, ⟨_, _, _⟩, ⟨_, _, _⟩, ⟨_, _, _⟩, ⟨_, _, _⟩, ⟨_, _, _⟩, ⟨_, _, _⟩⟩ ⟨_, _, _⟩ _) | (go_at_call 13; with_reducible exact none_c _))); clear hK9 K9))))
  intro r
  simp only [allFits]
  rintro _ ⟨b2', rfl, hb2', hc2'⟩ _ ⟨b1', rfl, hb1', hc1'⟩ hfar
  have n12 := hfar 6 7 _ _ _ _ 12 13 rfl rfl rfl rfl rfl rfl (by decide)
  simp [Act.put] at n12
  refine two_end 23 3 (.tmp 12) (.tmp 56) (.tmp 13) (.tmp 57) b1' b2' _ _ (cellsI (sagZ ⟨false, false, ⟨13107, 13108, false⟩, ⟨65536, 65536, false⟩, ⟨0, 0, false⟩, ⟨0, 0, false⟩, ⟨0, 0, false⟩, ⟨6553600, 6553600, false⟩, ⟨65536, 65536, false⟩⟩ ivNone)) (cellsI (sagM ⟨false, false, ⟨13107, 13108, false⟩, ⟨65536, 65536, false⟩, ⟨0, 0, false⟩, ⟨0, 0, false⟩, ⟨0, 0, false⟩, ⟨6553600, 6553600, false⟩, ⟨65536, 65536, false⟩⟩ ivNone)) rfl rfl rfl rfl rfl rfl rfl rfl rfl rfl size_ivT rfl rfl (by decide) (one_iv _ _ _) (one_iv _ _ _) ((More.refl _).more r) hb1' hb2' hc1' rfl hc2' rfl n12 ?_
  clear hfar n12 hb1' hb2' hc1' hc2'
  intro v4 hMv4 h1v4 h2v4
  refine wpList_nil ?_
  rw [z4] at h1v4
  rw [m4] at h2v4
  have M34 : More v3 v4 := More.trans (by repeat (first | exact More.refl _ | refine More.alloc ?_ _ | refine More.more ?_ _ | refine More.drew ?_ | refine More.drewN ?_ _)) hMv4
  clear hMv4
  obtain ⟨s10, e100, e101, e102⟩ := iv_cells (x1 := 65533) (x2 := 65543) (x3 := false) (heap_up (More.trans (More.trans (More.trans M01 M12) M23) M34) h1v0)
  obtain ⟨s20, e200, e201, e202⟩ := iv_cells (x1 := 8191) (x2 := 8194) (x3 := false) (heap_up (More.trans (More.trans (More.trans M01 M12) M23) M34) h2v0)
  obtain ⟨s11, e110, e111, e112⟩ := iv_cells (x1 := 131072) (x2 := 131072) (x3 := false) (heap_up (More.trans (More.trans M12 M23) M34) h1v1)
  obtain ⟨s21, e210, e211, e212⟩ := iv_cells (x1 := 8192) (x2 := 8192) (x3 := false) (heap_up (More.trans (More.trans M12 M23) M34) h2v1)
  obtain ⟨s12, e120, e121, e122⟩ := iv_cells (x1 := 1310) (x2 := 1311) (x3 := false) (heap_up (More.trans M23 M34) h1v2)
  obtain ⟨s22, e220, e221, e222⟩ := iv_cells (x1 := 26) (x2 := 27) (x3 := false) (heap_up (More.trans M23 M34) h2v2)
  obtain ⟨s13, e130, e131, e132⟩ := iv_cells (x1 := 0) (x2 := 0) (x3 := true) (heap_up M34 h1v3)
  obtain ⟨s23, e230, e231, e232⟩ := iv_cells (x1 := 0) (x2 := 0) (x3 := true) (heap_up M34 h2v3)
  obtain ⟨s14, e140, e141, e142⟩ := iv_cells (x1 := 0) (x2 := 0) (x3 := true) h1v4
  obtain ⟨s24, e240, e241, e242⟩ := iv_cells (x1 := 0) (x2 := 0) (x3 := true) h2v4
  have MW : More w v4 := More.trans M0 (More.trans (More.trans (More.trans M01 M12) M23) M34)
  clear LB L12 L12' L13 L13' hb0 h1v0 h2v0 h1v1 h2v1 h1v2 h2v2 h1v3 h2v3 h1v4 h2v4 M0 M01 M12 M23 M34
  go_upto_region 14 with fail
  go_simp
  (first | (with_reducible refine wp_more_quick_m (id := 14) ?_ ?_ ?_) | (refine wp_more_quick (id := 14) ?_ ?_ ?_))
  · kernel_rfl
  · kernel_rfl
  (try simp only [List.append_eq, List.cons_append, List.nil_append])
  (repeat (any_goals (first | go_big_quiet_step ((first | (go_at_call 10; (with_reducible apply quiet_call); with_reducible exact whole_c _ _) | (go_at_call 12; (with_reducible apply quiet_call); with_reducible exact point_c _ _) | (go_at_call 13; (with_reducible apply quiet_call); with_reducible exact none_c _) | (go_at_call 14; (with_reducible apply quiet_call); with_reducible exact known14_c _) | (go_at_call 15; (with_reducible apply quiet_call_b); (with_reducible exact has_c _ _ _); with_reducible assumption) | (go_at_call 15; (with_reducible apply quiet_call); with_reducible exact has_c _ _ _) | (go_at_call 15; (with_reducible apply quiet_call_b); (with_reducible exact has_c ⟨_, _, _⟩ _ _); with_reducible assumption) | (go_at_call 15; (with_reducible apply quiet_call); with_reducible exact has_c ⟨_, _, _⟩ _ _))))))
  (with_reducible refine wpQuiet_nil ?_)
  intro r
  go_wp2_with (first | (go_at_call 10; (with_reducible refine (whole_c _ _).mono ?_); rintro e w' ⟨rfl, r, rfl⟩) | (go_at_call 12; (with_reducible refine (point_c _ _).mono ?_); rintro e w' ⟨rfl, r, rfl⟩) | (go_at_call 13; (with_reducible refine (none_c _).mono ?_); rintro e w' ⟨rfl, r, rfl⟩) | (go_at_call 14; (with_reducible refine (known14_c _).mono ?_); rintro e w' ⟨rfl, r, rfl⟩) | (go_at_call 15; (with_reducible refine (has_c _ _ _).mono ?_); rintro e w' ⟨rfl, r, rfl⟩) | (go_at_call 15; (with_reducible refine (has_c ⟨_, _, _⟩ _ _).mono ?_); rintro e w' ⟨rfl, r, rfl⟩) | ((with_reducible show Code.wp _ (Code.region 3 _ true) _ _ _); (with_reducible refine wp_more_tailq_m (id := 3) 8 ?_ ?_ ?_); kernel_rfl; kernel_rfl; (try simp only [List.take_succ_cons, List.take_zero, List.drop_succ_cons, List.drop_zero]); (repeat (any_goals (first | go_big_quiet_step ((first | (go_at_call 10; (with_reducible apply quiet_call); with_reducible exact whole_c _ _))) | quiet_step ((first | (go_at_call 10; (with_reducible apply quiet_call); with_reducible exact whole_c _ _)))))); (with_reducible refine wpQuiet_nil ?_); intro r) | ((with_reducible show Code.wp _ (Code.region 3 _ true) _ _ _); (with_reducible refine wp_more_tailq (id := 3) 8 ?_ ?_ ?_); kernel_rfl; kernel_rfl; (try simp only [List.take_succ_cons, List.take_zero, List.drop_succ_cons, List.drop_zero]); (repeat (any_goals (first | go_big_quiet_step ((first | (go_at_call 10; (with_reducible apply quiet_call); with_reducible exact whole_c _ _))) | quiet_step ((first | (go_at_call 10; (with_reducible apply quiet_call); with_reducible exact whole_c _ _)))))); (with_reducible refine wpQuiet_nil ?_); intro r) | ((with_reducible show Code.wp _ (Code.region 7 _ true) _ _ _); (with_reducible refine wp_more_tailq_m (id := 7) 8 ?_ ?_ ?_); kernel_rfl; kernel_rfl; (try simp only [List.take_succ_cons, List.take_zero, List.drop_succ_cons, List.drop_zero]); (repeat (any_goals (first | go_big_quiet_step ((first | (go_at_call 10; (with_reducible apply quiet_call); with_reducible exact whole_c _ _))) | quiet_step ((first | (go_at_call 10; (with_reducible apply quiet_call); with_reducible exact whole_c _ _)))))); (with_reducible refine wpQuiet_nil ?_); intro r) | ((with_reducible show Code.wp _ (Code.region 7 _ true) _ _ _); (with_reducible refine wp_more_tailq (id := 7) 8 ?_ ?_ ?_); kernel_rfl; kernel_rfl; (try simp only [List.take_succ_cons, List.take_zero, List.drop_succ_cons, List.drop_zero]); (repeat (any_goals (first | go_big_quiet_step ((first | (go_at_call 10; (with_reducible apply quiet_call); with_reducible exact whole_c _ _))) | quiet_step ((first | (go_at_call 10; (with_reducible apply quiet_call); with_reducible exact whole_c _ _)))))); (with_reducible refine wpQuiet_nil ?_); intro r) | ((with_reducible show Code.wp _ (Code.region 11 _ true) _ _ _); (with_reducible refine wp_more_tailq_m (id := 11) 8 ?_ ?_ ?_); kernel_rfl; kernel_rfl; (try simp only [List.take_succ_cons, List.take_zero, List.drop_succ_cons, List.drop_zero]); (repeat (any_goals (first | go_big_quiet_step ((first | (go_at_call 10; (with_reducible apply quiet_call); with_reducible exact whole_c _ _))) | quiet_step ((first | (go_at_call 10; (with_reducible apply quiet_call); with_reducible exact whole_c _ _)))))); (with_reducible refine wpQuiet_nil ?_); intro r) | ((with_reducible show Code.wp _ (Code.region 11 _ true) _ _ _); (with_reducible refine wp_more_tailq (id := 11) 8 ?_ ?_ ?_); kernel_rfl; kernel_rfl; (try simp only [List.take_succ_cons, List.take_zero, List.drop_succ_cons, List.drop_zero]); (repeat (any_goals (first | go_big_quiet_step ((first | (go_at_call 10; (with_reducible apply quiet_call); with_reducible exact whole_c _ _))) | quiet_step ((first | (go_at_call 10; (with_reducible apply quiet_call); with_reducible exact whole_c _ _)))))); (with_reducible refine wpQuiet_nil ?_); intro r) | ((with_reducible show Code.wp _ (Code.region 12 _ true) _ _ _); (with_reducible refine wp_more_tailq_m (id := 12) 8 ?_ ?_ ?_); kernel_rfl; kernel_rfl; (try simp only [List.take_succ_cons, List.take_zero, List.drop_succ_cons, List.drop_zero]); (repeat (any_goals (first | go_big_quiet_step ((first | (go_at_call 10; (with_reducible apply quiet_call); with_reducible exact whole_c _ _))) | quiet_step ((first | (go_at_call 10; (with_reducible apply quiet_call); with_reducible exact whole_c _ _)))))); (with_reducible refine wpQuiet_nil ?_); intro r) | ((with_reducible show Code.wp _ (Code.region 12 _ true) _ _ _); (with_reducible refine wp_more_tailq (id := 12) 8 ?_ ?_ ?_); kernel_rfl; kernel_rfl; (try simp only [List.take_succ_cons, List.take_zero, List.drop_succ_cons, List.drop_zero]); (repeat (any_goals (first | go_big_quiet_step ((first | (go_at_call 10; (with_reducible apply quiet_call); with_reducible exact whole_c _ _))) | quiet_step ((first | (go_at_call 10; (with_reducible apply quiet_call); with_reducible exact whole_c _ _)))))); (with_reducible refine wpQuiet_nil ?_); intro r) | ((with_reducible show Code.wp _ (Code.region 13 _ true) _ _ _); (with_reducible refine wp_more_tailq_m (id := 13) 8 ?_ ?_ ?_); kernel_rfl; kernel_rfl; (try simp only [List.take_succ_cons, List.take_zero, List.drop_succ_cons, List.drop_zero]); (repeat (any_goals (first | go_big_quiet_step ((first | (go_at_call 13; (with_reducible apply quiet_call); with_reducible exact none_c _))) | quiet_step ((first | (go_at_call 13; (with_reducible apply quiet_call); with_reducible exact none_c _)))))); (with_reducible refine wpQuiet_nil ?_); intro r) | ((with_reducible show Code.wp _ (Code.region 13 _ true) _ _ _); (with_reducible refine wp_more_tailq (id := 13) 8 ?_ ?_ ?_); kernel_rfl; kernel_rfl; (try simp only [List.take_succ_cons, List.take_zero, List.drop_succ_cons, List.drop_zero]); (repeat (any_goals (first | go_big_quiet_step ((first | (go_at_call 13; (with_reducible apply quiet_call); with_reducible exact none_c _))) | quiet_step ((first | (go_at_call 13; (with_reducible apply quiet_call); with_reducible exact none_c _)))))); (with_reducible refine wpQuiet_nil ?_); intro r))
  go_returns
  exact ⟨rfl, More.trans MW (by repeat (first | exact More.refl _ | refine More.alloc ?_ _ | refine More.more ?_ _ | refine More.drew ?_ | refine More.drewN ?_ _))⟩
end Go.Proofs.Ytblbfommjfekeaa

