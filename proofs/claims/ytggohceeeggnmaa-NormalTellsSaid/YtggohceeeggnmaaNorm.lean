/-
  Across a face: package normal.
-/
import Derived.Test.YtggohceeeggnmaaGt5
import Derived.Test.YtggohceeeggnmaaSagOf
import Derived.Test.YtggohceeeggnmaaVec
namespace Go.Proofs.Ytggohceeeggnmaa
set_option linter.unusedVariables false
open Go.ChangeShapes Go.WideShapes Go.ChangeAt Go.RowKit

set_option maxHeartbeats 16000000 in
set_option maxRecDepth 100000 in
theorem ncone_c (s : Sf) (p : Pl) (W : World) :
    Calls Try.prog 45 #[sfV s, plV p] W fun e w' => e = .returned (plV (normF s p)) ∧ More W w' := by
  have hone : ivPoint 65536 = ⟨65536, 65536, false⟩ := by kernel_rfl
  unfold normF oneI
  rw [hone]
  obtain ⟨⟨a1, a2, a3⟩, ha⟩ : ∃ d, ivMul s.curve p.x = d := ⟨_, rfl⟩
  rw [ha]
  obtain ⟨⟨b1, b2, b3⟩, hb⟩ : ∃ d, ivMul s.curve p.y = d := ⟨_, rfl⟩
  rw [hb]
  obtain ⟨⟨c1, c2, c3⟩, hc⟩ : ∃ d, ivMul s.conic p.z = d := ⟨_, rfl⟩
  rw [hc]
  obtain ⟨⟨d1, d2, d3⟩, hd⟩ : ∃ d, ivMul s.curve ⟨c1, c2, c3⟩ = d := ⟨_, rfl⟩
  rw [hd]
  obtain ⟨⟨i1, i2, i3⟩, hi⟩ : ∃ d, ivNeg ⟨a1, a2, a3⟩ = d := ⟨_, rfl⟩
  rw [hi]
  obtain ⟨⟨j1, j2, j3⟩, hj⟩ : ∃ d, ivNeg ⟨b1, b2, b3⟩ = d := ⟨_, rfl⟩
  rw [hj]
  obtain ⟨⟨k1', k2', k3'⟩, hk⟩ : ∃ d, ivSub ⟨65536, 65536, false⟩ ⟨d1, d2, d3⟩ = d := ⟨_, rfl⟩
  rw [hk]
  have Ha := Lib.hid ha
  clear ha
  have Hb := Lib.hid hb
  clear hb
  go_enter Try.func45, Try.ntmps45
  go_upto_region 1 with fail
  (first | (with_reducible refine wp_more_apart_m (id := 1) 12 34 [(23, #[.int .i64 0, .int .i64 0, .bool false])] ?_ ?_ ?_ ?_ ?_ ?_ ?_ ?_) | (refine wp_more_apart (id := 1) 12 34 [(23, #[.int .i64 0, .int .i64 0, .bool false])] ?_ ?_ ?_ ?_ ?_ ?_ ?_ ?_))
  · intro p hp; simp only [List.mem_cons, List.not_mem_nil, or_false] at hp; subst hp <;> first | exact new_iv
  · kernel_rfl
  · kernel_rfl
  · kernel_rfl
  · kernel_rfl
  · kernel_rfl
  · rfl
  simp only [List.take_succ_cons, List.take_zero, List.drop_succ_cons, List.drop_zero]
  (repeat (first | (refine loose_alloc 5 23 #[.int .i64 0, .int .i64 0, .bool false] new_iv rfl rfl rfl rfl (by simp) ?_) | (refine loose_alloc 6 23 #[.int .i64 0, .int .i64 0, .bool false] new_iv rfl rfl rfl rfl (by simp) ?_) | (refine loose_step rfl (fun K9 hK9 => ?_); go_simp; first | (refine hK9 _ ?_; clear hK9 K9) | (apply Exists.intro; refine ⟨fun _ => ?_, hK9 _ ?_⟩; ((first | (go_at_call 79; with_reducible exact mul_iv_c _ _ _) | (go_at_call 79; with_reducible exact mul_iv_c _ ⟨_, _, _⟩ _) | (go_at_call 79; with_reducible exact mul_iv_c ⟨_, _, _⟩ _ _) | (go_at_call 79; with_reducible exact mul_iv_c ⟨_, _, _⟩ ⟨_, _, _⟩ _))); clear hK9 K9))))
  intro r
  simp only [allFits]
  rintro _ ⟨b2', rfl, hb2', hc2'⟩ _ ⟨b1', rfl, hb1', hc1'⟩ hfar
  have n12 := hfar 10 11 _ _ _ _ 5 6 rfl rfl rfl rfl rfl rfl (by decide)
  simp [Act.put] at n12
  refine two_end 23 3 (.tmp 5) (.tmp 12) (.tmp 6) (.tmp 17) b1' b2' _ _ (cellsI (ivMul s.curve p.x)) (cellsI (ivMul s.curve p.y)) rfl rfl rfl rfl rfl rfl rfl rfl rfl rfl size_ivT rfl rfl (by decide) (one_iv _ _ _) (one_iv _ _ _) ((More.refl _).more r) hb1' hb2' hc1' rfl hc2' rfl n12 ?_
  clear hfar n12 hb1' hb2' hc1' hc2'
  intro V hMV h1V h2V
  refine wpList_nil ?_
  rw [Ha.out] at h1V
  rw [Hb.out] at h2V
  have hsbV : OkSfAt V W.heap.size s := heap_at W (More.trans (by repeat (first | exact More.refl _ | refine More.alloc ?_ _ | refine More.more ?_ _ | refine More.drew ?_ | refine More.drewN ?_ _)) hMV) (by simp)
  have hpbV : OkPlAt V (W.heap.size + 1) p := heap_at (W.alloc (.cells #[.bool s.stop, .bool s.bent, .int .i64 s.curve.lo, .int .i64 s.curve.hi, .bool s.curve.no, .int .i64 s.conic.lo, .int .i64 s.conic.hi, .bool s.conic.no, .int .i64 s.a4.lo, .int .i64 s.a4.hi, .bool s.a4.no, .int .i64 s.a6.lo, .int .i64 s.a6.hi, .bool s.a6.no, .int .i64 s.place.lo, .int .i64 s.place.hi, .bool s.place.no, .int .i64 s.open2.lo, .int .i64 s.open2.hi, .bool s.open2.no, .int .i64 s.ratio.lo, .int .i64 s.ratio.hi, .bool s.ratio.no] 25)) (More.trans (by repeat (first | exact More.refl _ | refine More.alloc ?_ _ | refine More.more ?_ _ | refine More.drew ?_ | refine More.drewN ?_ _)) hMV) (by simp)
  have htbV : V.heap[W.heap.size + 2]? = some (.cells #[.int .i64 0, .int .i64 0, .bool false, .int .i64 0, .int .i64 0, .bool false, .int .i64 0, .int .i64 0, .bool false] 30 (0, 0)) := heap_at ((W.alloc (.cells #[.bool s.stop, .bool s.bent, .int .i64 s.curve.lo, .int .i64 s.curve.hi, .bool s.curve.no, .int .i64 s.conic.lo, .int .i64 s.conic.hi, .bool s.conic.no, .int .i64 s.a4.lo, .int .i64 s.a4.hi, .bool s.a4.no, .int .i64 s.a6.lo, .int .i64 s.a6.hi, .bool s.a6.no, .int .i64 s.place.lo, .int .i64 s.place.hi, .bool s.place.no, .int .i64 s.open2.lo, .int .i64 s.open2.hi, .bool s.open2.no, .int .i64 s.ratio.lo, .int .i64 s.ratio.hi, .bool s.ratio.no] 25)).alloc (.cells #[.int .i64 p.x.lo, .int .i64 p.x.hi, .bool p.x.no, .int .i64 p.y.lo, .int .i64 p.y.hi, .bool p.y.no, .int .i64 p.z.lo, .int .i64 p.z.hi, .bool p.z.no] 30)) (More.trans (by repeat (first | exact More.refl _ | refine More.alloc ?_ _ | refine More.more ?_ _ | refine More.drew ?_ | refine More.drewN ?_ _)) hMV) (by simp)
  have hWV : More W V := More.trans (by repeat (first | exact More.refl _ | refine More.alloc ?_ _ | refine More.more ?_ _ | refine More.drew ?_ | refine More.drewN ?_ _)) hMV
  clear hMV
  have HTB := Lib.hid htbV
  have HWV := Lib.hid hWV
  clear htbV hWV
  obtain ⟨l0, -, ⟨l1, l2, l3⟩, ⟨l4, l5, l6⟩, -⟩ := sfat_cells hsbV
  obtain ⟨k0, ⟨k1, k2, k3⟩, ⟨k4, k5, k6⟩, k7, k8, k9⟩ := plat_cells hpbV
  obtain ⟨s1, s2, s3, s4⟩ := iv_cells h1V
  obtain ⟨t1, t2, t3, t4⟩ := iv_cells h2V
  clear hsbV hpbV h1V h2V
  go_upto_region 3 with (first | (first | (go_at_call 79; (with_reducible refine (mul_iv_c _ _ _).mono ?_); rintro e w' ⟨rfl, r, rfl⟩) | (go_at_call 79; (with_reducible refine (mul_iv_c _ ⟨_, _, _⟩ _).mono ?_); rintro e w' ⟨rfl, r, rfl⟩) | (go_at_call 79; (with_reducible refine (mul_iv_c ⟨_, _, _⟩ _ _).mono ?_); rintro e w' ⟨rfl, r, rfl⟩) | (go_at_call 79; (with_reducible refine (mul_iv_c ⟨_, _, _⟩ ⟨_, _, _⟩ _).mono ?_); rintro e w' ⟨rfl, r, rfl⟩) | ((with_reducible show Code.wp _ (Code.region 2 _ true) _ _ _); (with_reducible apply wp_more_heap_m (id := 2) 9 8 7); kernel_rfl; kernel_rfl; rfl; decide; rfl; (intro _ _; go_simp; rfl); intro x; (try simp only [List.append_eq, List.cons_append, List.nil_append]); (simp only [List.take_succ_cons, List.take_zero, List.drop_succ_cons, List.drop_zero, skipAt, Nat.reduceAdd, Nat.reduceEqDiff, reduceIte, Nat.zero_add]); (repeat (any_goals (first | go_big_quiet_step ((first | (go_at_call 79; (with_reducible apply quiet_up); with_reducible exact mul_iv_c _ _ _) | (go_at_call 79; (with_reducible apply quiet_up); with_reducible exact mul_iv_c _ ⟨_, _, _⟩ _) | (go_at_call 79; (with_reducible apply quiet_up); with_reducible exact mul_iv_c ⟨_, _, _⟩ _ _) | (go_at_call 79; (with_reducible apply quiet_up); with_reducible exact mul_iv_c ⟨_, _, _⟩ ⟨_, _, _⟩ _))) | quiet_step ((first | (go_at_call 79; (with_reducible apply quiet_up); with_reducible exact mul_iv_c _ _ _) | (go_at_call 79; (with_reducible apply quiet_up); with_reducible exact mul_iv_c _ ⟨_, _, _⟩ _) | (go_at_call 79; (with_reducible apply quiet_up); with_reducible exact mul_iv_c ⟨_, _, _⟩ _ _) | (go_at_call 79; (with_reducible apply quiet_up); with_reducible exact mul_iv_c ⟨_, _, _⟩ ⟨_, _, _⟩ _)))))); (with_reducible refine wpQuiet_nil ?_); intro r1 r2) | ((with_reducible show Code.wp _ (Code.region 2 _ true) _ _ _); (with_reducible apply wp_more_heap (id := 2) 9 8 7); kernel_rfl; kernel_rfl; rfl; decide; rfl; (intro _ _; go_simp; rfl); intro x; (try simp only [List.append_eq, List.cons_append, List.nil_append]); (simp only [List.take_succ_cons, List.take_zero, List.drop_succ_cons, List.drop_zero, skipAt, Nat.reduceAdd, Nat.reduceEqDiff, reduceIte, Nat.zero_add]); (repeat (any_goals (first | go_big_quiet_step ((first | (go_at_call 79; (with_reducible apply quiet_up); with_reducible exact mul_iv_c _ _ _) | (go_at_call 79; (with_reducible apply quiet_up); with_reducible exact mul_iv_c _ ⟨_, _, _⟩ _) | (go_at_call 79; (with_reducible apply quiet_up); with_reducible exact mul_iv_c ⟨_, _, _⟩ _ _) | (go_at_call 79; (with_reducible apply quiet_up); with_reducible exact mul_iv_c ⟨_, _, _⟩ ⟨_, _, _⟩ _))) | quiet_step ((first | (go_at_call 79; (with_reducible apply quiet_up); with_reducible exact mul_iv_c _ _ _) | (go_at_call 79; (with_reducible apply quiet_up); with_reducible exact mul_iv_c _ ⟨_, _, _⟩ _) | (go_at_call 79; (with_reducible apply quiet_up); with_reducible exact mul_iv_c ⟨_, _, _⟩ _ _) | (go_at_call 79; (with_reducible apply quiet_up); with_reducible exact mul_iv_c ⟨_, _, _⟩ ⟨_, _, _⟩ _)))))); (with_reducible refine wpQuiet_nil ?_); intro r1 r2)))
  (first | (with_reducible refine wp_more_tailq_m (id := 3) 8 ?_ ?_ ?_) | (with_reducible refine wp_more_tailq (id := 3) 8 ?_ ?_ ?_))
  · kernel_rfl
  · kernel_rfl
  (try simp only [List.take_succ_cons, List.take_zero, List.drop_succ_cons, List.drop_zero])
  (try simp only [List.append_eq, List.cons_append, List.nil_append])
  (repeat (any_goals (first | go_big_quiet_step ((first | (go_at_call 13; (with_reducible apply quiet_call); with_reducible exact vof_c _ _ _ _) | (go_at_call 13; (with_reducible apply quiet_call); with_reducible exact vof_c ⟨_, _, _⟩ ⟨_, _, _⟩ ⟨_, _, _⟩ _) | (go_at_call 14; (with_reducible apply quiet_call); with_reducible exact point_c _ _) | (go_at_call 63; (with_reducible apply quiet_call); with_reducible exact neg_c _ _) | (go_at_call 63; (with_reducible apply quiet_call); with_reducible exact neg_c ⟨_, _, _⟩ _) | (go_at_call 64; (with_reducible apply quiet_call); with_reducible exact sub_c _ _ _) | (go_at_call 64; (with_reducible apply quiet_call); with_reducible exact sub_c _ ⟨_, _, _⟩ _) | (go_at_call 64; (with_reducible apply quiet_call); with_reducible exact sub_c ⟨_, _, _⟩ _ _) | (go_at_call 64; (with_reducible apply quiet_call); with_reducible exact sub_c ⟨_, _, _⟩ ⟨_, _, _⟩ _))) | quiet_step ((first | (go_at_call 13; (with_reducible apply quiet_call); with_reducible exact vof_c _ _ _ _) | (go_at_call 13; (with_reducible apply quiet_call); with_reducible exact vof_c ⟨_, _, _⟩ ⟨_, _, _⟩ ⟨_, _, _⟩ _) | (go_at_call 14; (with_reducible apply quiet_call); with_reducible exact point_c _ _) | (go_at_call 63; (with_reducible apply quiet_call); with_reducible exact neg_c _ _) | (go_at_call 63; (with_reducible apply quiet_call); with_reducible exact neg_c ⟨_, _, _⟩ _) | (go_at_call 64; (with_reducible apply quiet_call); with_reducible exact sub_c _ _ _) | (go_at_call 64; (with_reducible apply quiet_call); with_reducible exact sub_c _ ⟨_, _, _⟩ _) | (go_at_call 64; (with_reducible apply quiet_call); with_reducible exact sub_c ⟨_, _, _⟩ _ _) | (go_at_call 64; (with_reducible apply quiet_call); with_reducible exact sub_c ⟨_, _, _⟩ ⟨_, _, _⟩ _))))))
  (with_reducible refine wpQuiet_nil ?_)
  intro r
  refine one_end 30 9 (.tmp 4) (.tmp 33) (W.heap.size + 2) _ (cellsP (⟨⟨i1, i2, i3⟩, ⟨j1, j2, j3⟩, ⟨k1', k2', k3'⟩⟩)) rfl rfl rfl rfl rfl size_pl rfl (by decide) (one_pl _) (More.trans HWV.out (by repeat (first | exact More.refl _ | refine More.alloc ?_ _ | refine More.more ?_ _ | refine More.drew ?_ | refine More.drewN ?_ _))) (by omega) (heap_up (by repeat (first | exact More.refl _ | refine More.alloc ?_ _ | refine More.more ?_ _ | refine More.drew ?_ | refine More.drewN ?_ _)) HTB.out) rfl ?_
  intro wx hM h1
  refine wpList_nil ?_
  go_wp2_with fail
  exact bodyPost_ret (results_one Try.results45 rfl (load_pl_obj (p := ⟨⟨i1, i2, i3⟩, ⟨j1, j2, j3⟩, ⟨k1', k2', k3'⟩⟩) h1)) rfl ⟨rfl, hM⟩

set_option maxHeartbeats 16000000 in
set_option maxRecDepth 100000 in
theorem nbent_c (s : Sf) (p : Pl) (W : World) :
    Calls Try.prog 44 #[sfV s, plV p] W fun e w' => e = .returned (plV (normB s p)) ∧ More W w' := by
  have hone : ivPoint 65536 = ⟨65536, 65536, false⟩ := by kernel_rfl
  unfold normB normR oneI
  rw [hone]
  obtain ⟨⟨r1, r2, r3⟩, hr⟩ : ∃ d, ivAdd (ivSqr p.x) (ivSqr p.y) = d := ⟨_, rfl⟩
  rw [hr]
  obtain ⟨⟨z1, z2, z3⟩, hz⟩ : ∃ d, sagZ s ⟨r1, r2, r3⟩ = d := ⟨_, rfl⟩
  obtain ⟨⟨m1, m2, m3⟩, hm⟩ : ∃ d, sagM s ⟨r1, r2, r3⟩ = d := ⟨_, rfl⟩
  rw [hm]
  obtain ⟨⟨e1, e2, e3⟩, he⟩ : ∃ d, ivMul ⟨m1, m2, m3⟩ p.x = d := ⟨_, rfl⟩
  rw [he]
  obtain ⟨⟨f1, f2, f3⟩, hf⟩ : ∃ d, ivMul ⟨m1, m2, m3⟩ p.y = d := ⟨_, rfl⟩
  rw [hf]
  obtain ⟨⟨g1, g2, g3⟩, hg⟩ : ∃ d, ivTimes ⟨e1, e2, e3⟩ 2 = d := ⟨_, rfl⟩
  rw [hg]
  obtain ⟨⟨h1', h2', h3'⟩, hh⟩ : ∃ d, ivTimes ⟨f1, f2, f3⟩ 2 = d := ⟨_, rfl⟩
  rw [hh]
  obtain ⟨⟨i1, i2, i3⟩, hi⟩ : ∃ d, ivNeg ⟨g1, g2, g3⟩ = d := ⟨_, rfl⟩
  rw [hi]
  obtain ⟨⟨j1, j2, j3⟩, hj⟩ : ∃ d, ivNeg ⟨h1', h2', h3'⟩ = d := ⟨_, rfl⟩
  rw [hj]
  have Hr := Lib.hid hr
  clear hr
  have Hz := Lib.hid hz
  clear hz
  have Hm := Lib.hid hm
  clear hm
  have He := Lib.hid he
  clear he
  have Hf := Lib.hid hf
  clear hf
  have Hg := Lib.hid hg
  clear hg
  have Hh := Lib.hid hh
  clear hh
  go_enter Try.func44, Try.ntmps44
  go_upto_region 1 with fail
  (first | (with_reducible refine wp_more_apartl_m (id := 1) 14 37 [11] [(23, #[.int .i64 0, .int .i64 0, .bool false])] ?_ ?_ ?_ ?_ ?_ ?_ ?_ ?_ ?_ ?_) | (refine wp_more_apartl (id := 1) 14 37 [11] [(23, #[.int .i64 0, .int .i64 0, .bool false])] ?_ ?_ ?_ ?_ ?_ ?_ ?_ ?_ ?_ ?_))
  · intro p hp; simp only [List.mem_cons, List.not_mem_nil, or_false] at hp; subst hp <;> first | exact new_iv
  · kernel_rfl
  · kernel_rfl
  · kernel_rfl
  · kernel_rfl
  · kernel_rfl
  · kernel_rfl
  · rfl
  · (intro _ _ _ _ _ h; exact h)
  simp only [List.take_succ_cons, List.take_zero, List.drop_succ_cons, List.drop_zero]
  (repeat (first | (refine loose_alloc 5 23 #[.int .i64 0, .int .i64 0, .bool false] new_iv rfl rfl rfl rfl (by simp) ?_) | (refine loose_alloc 6 23 #[.int .i64 0, .int .i64 0, .bool false] new_iv rfl rfl rfl rfl (by simp) ?_) | (refine loose_step rfl (fun K9 hK9 => ?_); go_simp; first | (refine hK9 _ ?_; clear hK9 K9) | (apply Exists.intro; refine ⟨fun _ => ?_, hK9 _ ?_⟩; ((first | (go_at_call 35; with_reducible exact sag_c _ _ _) | (go_at_call 35; with_reducible exact sag_c _ ⟨_, _, _⟩ _) | (go_at_call 35; with_reducible exact sag_c ⟨_, _, ⟨_, _, _⟩, ⟨_, _, _⟩, ⟨_, _, _⟩, ⟨_, _, _⟩, ⟨_, _, _⟩, ⟨_, _, _⟩, ⟨_, _, _⟩⟩ ⟨_, _, _⟩ _) | (go_at_call 62; with_reducible exact sqr_c _ _) | (go_at_call 62; with_reducible exact sqr_c ⟨_, _, _⟩ _) | (go_at_call 73; with_reducible exact add_c _ _ _) | (go_at_call 73; with_reducible exact add_c _ ⟨_, _, _⟩ _) | (go_at_call 73; with_reducible exact add_c ⟨_, _, _⟩ _ _) | (go_at_call 73; with_reducible exact add_c ⟨_, _, _⟩ ⟨_, _, _⟩ _))); clear hK9 K9))))
  intro r
  simp only [allFits]
  rintro _ ⟨b2', rfl, hb2', hc2'⟩ _ ⟨b1', rfl, hb1', hc1'⟩ hfar
  have n12 := hfar 12 13 _ _ _ _ 5 6 rfl rfl rfl rfl rfl rfl (by decide)
  simp [Act.put] at n12
  refine two_end 23 3 (.tmp 5) (.tmp 19) (.tmp 6) (.tmp 20) b1' b2' _ _ (cellsI (sagZ s (ivAdd (ivSqr p.x) (ivSqr p.y)))) (cellsI (sagM s (ivAdd (ivSqr p.x) (ivSqr p.y)))) rfl rfl rfl rfl rfl rfl rfl rfl rfl rfl size_ivT rfl rfl (by decide) (one_iv _ _ _) (one_iv _ _ _) ((More.refl _).more r) hb1' hb2' hc1' rfl hc2' rfl n12 ?_
  clear hfar n12 hb1' hb2' hc1' hc2'
  intro V hMV h1V h2V
  refine wpList_nil ?_
  rw [Hr.out, Hz.out] at h1V
  rw [Hr.out, Hm.out] at h2V
  have hsbV : OkSfAt V W.heap.size s := heap_at W (More.trans (by repeat (first | exact More.refl _ | refine More.alloc ?_ _ | refine More.more ?_ _ | refine More.drew ?_ | refine More.drewN ?_ _)) hMV) (by simp)
  have hpbV : OkPlAt V (W.heap.size + 1) p := heap_at (W.alloc (.cells #[.bool s.stop, .bool s.bent, .int .i64 s.curve.lo, .int .i64 s.curve.hi, .bool s.curve.no, .int .i64 s.conic.lo, .int .i64 s.conic.hi, .bool s.conic.no, .int .i64 s.a4.lo, .int .i64 s.a4.hi, .bool s.a4.no, .int .i64 s.a6.lo, .int .i64 s.a6.hi, .bool s.a6.no, .int .i64 s.place.lo, .int .i64 s.place.hi, .bool s.place.no, .int .i64 s.open2.lo, .int .i64 s.open2.hi, .bool s.open2.no, .int .i64 s.ratio.lo, .int .i64 s.ratio.hi, .bool s.ratio.no] 25)) (More.trans (by repeat (first | exact More.refl _ | refine More.alloc ?_ _ | refine More.more ?_ _ | refine More.drew ?_ | refine More.drewN ?_ _)) hMV) (by simp)
  have htbV : V.heap[W.heap.size + 2]? = some (.cells #[.int .i64 0, .int .i64 0, .bool false, .int .i64 0, .int .i64 0, .bool false, .int .i64 0, .int .i64 0, .bool false] 30 (0, 0)) := heap_at ((W.alloc (.cells #[.bool s.stop, .bool s.bent, .int .i64 s.curve.lo, .int .i64 s.curve.hi, .bool s.curve.no, .int .i64 s.conic.lo, .int .i64 s.conic.hi, .bool s.conic.no, .int .i64 s.a4.lo, .int .i64 s.a4.hi, .bool s.a4.no, .int .i64 s.a6.lo, .int .i64 s.a6.hi, .bool s.a6.no, .int .i64 s.place.lo, .int .i64 s.place.hi, .bool s.place.no, .int .i64 s.open2.lo, .int .i64 s.open2.hi, .bool s.open2.no, .int .i64 s.ratio.lo, .int .i64 s.ratio.hi, .bool s.ratio.no] 25)).alloc (.cells #[.int .i64 p.x.lo, .int .i64 p.x.hi, .bool p.x.no, .int .i64 p.y.lo, .int .i64 p.y.hi, .bool p.y.no, .int .i64 p.z.lo, .int .i64 p.z.hi, .bool p.z.no] 30)) (More.trans (by repeat (first | exact More.refl _ | refine More.alloc ?_ _ | refine More.more ?_ _ | refine More.drew ?_ | refine More.drewN ?_ _)) hMV) (by simp)
  have hWV : More W V := More.trans (by repeat (first | exact More.refl _ | refine More.alloc ?_ _ | refine More.more ?_ _ | refine More.drew ?_ | refine More.drewN ?_ _)) hMV
  clear hMV
  have HTB := Lib.hid htbV
  have HWV := Lib.hid hWV
  clear htbV hWV
  obtain ⟨l0, -, ⟨l1, l2, l3⟩, ⟨l4, l5, l6⟩, -⟩ := sfat_cells hsbV
  obtain ⟨k0, ⟨k1, k2, k3⟩, ⟨k4, k5, k6⟩, k7, k8, k9⟩ := plat_cells hpbV
  obtain ⟨s1, s2, s3, s4⟩ := iv_cells h1V
  obtain ⟨t1, t2, t3, t4⟩ := iv_cells h2V
  clear hsbV hpbV h1V h2V
  go_upto_region 2 with fail
  (first | (with_reducible refine wp_more_apart_m (id := 2) 12 37 [(23, #[.int .i64 0, .int .i64 0, .bool false])] ?_ ?_ ?_ ?_ ?_ ?_ ?_ ?_) | (refine wp_more_apart (id := 2) 12 37 [(23, #[.int .i64 0, .int .i64 0, .bool false])] ?_ ?_ ?_ ?_ ?_ ?_ ?_ ?_))
  · intro p hp; simp only [List.mem_cons, List.not_mem_nil, or_false] at hp; subst hp <;> first | exact new_iv
  · kernel_rfl
  · kernel_rfl
  · kernel_rfl
  · kernel_rfl
  · kernel_rfl
  · rfl
  simp only [List.take_succ_cons, List.take_zero, List.drop_succ_cons, List.drop_zero]
  (repeat (first | (refine loose_alloc 7 23 #[.int .i64 0, .int .i64 0, .bool false] new_iv rfl rfl rfl rfl (by simp) ?_) | (refine loose_alloc 8 23 #[.int .i64 0, .int .i64 0, .bool false] new_iv rfl rfl rfl rfl (by simp) ?_) | (refine loose_step rfl (fun K9 hK9 => ?_); go_simp; first | (refine hK9 _ ?_; clear hK9 K9) | (apply Exists.intro; refine ⟨fun _ => ?_, hK9 _ ?_⟩; ((first | (go_at_call 78; with_reducible exact times_c _ _ _) | (go_at_call 78; with_reducible exact times_c ⟨_, _, _⟩ _ _) | (go_at_call 79; with_reducible exact mul_iv_c _ _ _) | (go_at_call 79; with_reducible exact mul_iv_c _ ⟨_, _, _⟩ _) | (go_at_call 79; with_reducible exact mul_iv_c ⟨_, _, _⟩ _ _) | (go_at_call 79; with_reducible exact mul_iv_c ⟨_, _, _⟩ ⟨_, _, _⟩ _))); clear hK9 K9))))
  intro r
  simp only [allFits]
  rintro _ ⟨b2', rfl, hb2', hc2'⟩ _ ⟨b1', rfl, hb1', hc1'⟩ hfar
  have n12 := hfar 10 11 _ _ _ _ 7 8 rfl rfl rfl rfl rfl rfl (by decide)
  simp [Act.put] at n12
  refine two_end 23 3 (.tmp 7) (.tmp 25) (.tmp 8) (.tmp 30) b1' b2' _ _ (cellsI (ivTimes (ivMul ⟨m1, m2, m3⟩ p.x) 2)) (cellsI (ivTimes (ivMul ⟨m1, m2, m3⟩ p.y) 2)) rfl rfl rfl rfl rfl rfl rfl rfl rfl rfl size_ivT rfl rfl (by decide) (one_iv _ _ _) (one_iv _ _ _) ((More.refl _).more r) hb1' hb2' hc1' rfl hc2' rfl n12 ?_
  clear hfar n12 hb1' hb2' hc1' hc2'
  intro U hMU h1U h2U
  refine wpList_nil ?_
  rw [He.out, Hg.out] at h1U
  rw [Hf.out, Hh.out] at h2U
  have hVU : More V U := hMU
  have HTB' := Lib.hid (heap_up hVU HTB.out)
  have HWV' := Lib.hid (More.trans HWV.out hVU)
  obtain ⟨u1, u2, u3, u4⟩ := iv_cells h1U
  obtain ⟨v1, v2, v3, v4⟩ := iv_cells h2U
  clear hMU hVU h1U h2U HTB HWV l0 l1 l2 l3 l4 l5 l6 k0 k1 k2 k3 k4 k5 k6 k7 k8 k9 s1 s2 s3 s4 t1 t2 t3 t4
  go_upto_region 3 with fail
  (first | (with_reducible refine wp_more_tailq_m (id := 3) 6 ?_ ?_ ?_) | (with_reducible refine wp_more_tailq (id := 3) 6 ?_ ?_ ?_))
  · kernel_rfl
  · kernel_rfl
  (try simp only [List.take_succ_cons, List.take_zero, List.drop_succ_cons, List.drop_zero])
  (try simp only [List.append_eq, List.cons_append, List.nil_append])
  (repeat (any_goals (first | go_big_quiet_step ((first | (go_at_call 13; (with_reducible apply quiet_call); with_reducible exact vof_c _ _ _ _) | (go_at_call 13; (with_reducible apply quiet_call); with_reducible exact vof_c ⟨_, _, _⟩ ⟨_, _, _⟩ ⟨_, _, _⟩ _) | (go_at_call 14; (with_reducible apply quiet_call); with_reducible exact point_c _ _) | (go_at_call 63; (with_reducible apply quiet_call); with_reducible exact neg_c _ _) | (go_at_call 63; (with_reducible apply quiet_call); with_reducible exact neg_c ⟨_, _, _⟩ _))) | quiet_step ((first | (go_at_call 13; (with_reducible apply quiet_call); with_reducible exact vof_c _ _ _ _) | (go_at_call 13; (with_reducible apply quiet_call); with_reducible exact vof_c ⟨_, _, _⟩ ⟨_, _, _⟩ ⟨_, _, _⟩ _) | (go_at_call 14; (with_reducible apply quiet_call); with_reducible exact point_c _ _) | (go_at_call 63; (with_reducible apply quiet_call); with_reducible exact neg_c _ _) | (go_at_call 63; (with_reducible apply quiet_call); with_reducible exact neg_c ⟨_, _, _⟩ _))))))
  (with_reducible refine wpQuiet_nil ?_)
  intro r
  refine one_end 30 9 (.tmp 4) (.tmp 36) (W.heap.size + 2) _ (cellsP (⟨⟨i1, i2, i3⟩, ⟨j1, j2, j3⟩, ⟨65536, 65536, false⟩⟩)) rfl rfl rfl rfl rfl size_pl rfl (by decide) (one_pl _) (More.trans HWV'.out (by repeat (first | exact More.refl _ | refine More.alloc ?_ _ | refine More.more ?_ _ | refine More.drew ?_ | refine More.drewN ?_ _))) (by omega) (heap_up (by repeat (first | exact More.refl _ | refine More.alloc ?_ _ | refine More.more ?_ _ | refine More.drew ?_ | refine More.drewN ?_ _)) HTB'.out) rfl ?_
  intro wx hM h1
  refine wpList_nil ?_
  go_wp2_with fail
  exact bodyPost_ret (results_one Try.results44 rfl (load_pl_obj (p := ⟨⟨i1, i2, i3⟩, ⟨j1, j2, j3⟩, ⟨65536, 65536, false⟩⟩) h1)) rfl ⟨rfl, hM⟩

set_option maxHeartbeats 8000000 in
set_option maxRecDepth 100000 in
theorem norm_c (s : Sf) (p : Pl) (W : World) :
    Calls Try.prog 12 #[sfV s, plV p] W fun e w' => e = .returned (plV (normP s p)) ∧ More W w' := by
  obtain ⟨st, bt, c, k, a, b, f, o, t⟩ := s
  unfold normP normV
  cases bt
  all_goals
    simp only [if_true, if_false, Bool.false_eq_true]
    go_enter Try.func12, Try.ntmps12
    go_wp2_with (first | (go_at_call 43; (with_reducible refine (vunit_c _ _).mono ?_); rintro e w' ⟨rfl, r, rfl⟩) | (go_at_call 43; (with_reducible refine (vunit_c ⟨_, _, _⟩ _).mono ?_); rintro e w' ⟨rfl, r, rfl⟩) | (go_at_call 43; (with_reducible refine (vunit_c ⟨⟨_, _, _⟩, ⟨_, _, _⟩, ⟨_, _, _⟩⟩ _).mono ?_); rintro e w' ⟨rfl, r, rfl⟩) | (go_at_call 44; (with_reducible refine (nbent_c _ _ _).mono ?_); rintro e w' ⟨rfl, r, rfl⟩) | (go_at_call 44; (with_reducible refine (nbent_c _ ⟨_, _, _⟩ _).mono ?_); rintro e w' ⟨rfl, r, rfl⟩) | (go_at_call 44; (with_reducible refine (nbent_c ⟨_, _, ⟨_, _, _⟩, ⟨_, _, _⟩, ⟨_, _, _⟩, ⟨_, _, _⟩, ⟨_, _, _⟩, ⟨_, _, _⟩, ⟨_, _, _⟩⟩ ⟨_, _, _⟩ _).mono ?_); rintro e w' ⟨rfl, r, rfl⟩) | (go_at_call 44; (with_reducible refine (nbent_c _ ⟨⟨_, _, _⟩, ⟨_, _, _⟩, ⟨_, _, _⟩⟩ _).mono ?_); rintro e w' ⟨rfl, r, rfl⟩) | (go_at_call 44; (with_reducible refine (nbent_c ⟨_, _, ⟨_, _, _⟩, ⟨_, _, _⟩, ⟨_, _, _⟩, ⟨_, _, _⟩, ⟨_, _, _⟩, ⟨_, _, _⟩, ⟨_, _, _⟩⟩ ⟨⟨_, _, _⟩, ⟨_, _, _⟩, ⟨_, _, _⟩⟩ _).mono ?_); rintro e w' ⟨rfl, r, rfl⟩) | (go_at_call 45; (with_reducible refine (ncone_c _ _ _).mono ?_); rintro e w' ⟨rfl, r, rfl⟩) | (go_at_call 45; (with_reducible refine (ncone_c _ ⟨_, _, _⟩ _).mono ?_); rintro e w' ⟨rfl, r, rfl⟩) | (go_at_call 45; (with_reducible refine (ncone_c ⟨_, _, ⟨_, _, _⟩, ⟨_, _, _⟩, ⟨_, _, _⟩, ⟨_, _, _⟩, ⟨_, _, _⟩, ⟨_, _, _⟩, ⟨_, _, _⟩⟩ ⟨_, _, _⟩ _).mono ?_); rintro e w' ⟨rfl, r, rfl⟩) | (go_at_call 45; (with_reducible refine (ncone_c _ ⟨⟨_, _, _⟩, ⟨_, _, _⟩, ⟨_, _, _⟩⟩ _).mono ?_); rintro e w' ⟨rfl, r, rfl⟩) | (go_at_call 45; (with_reducible refine (ncone_c ⟨_, _, ⟨_, _, _⟩, ⟨_, _, _⟩, ⟨_, _, _⟩, ⟨_, _, _⟩, ⟨_, _, _⟩, ⟨_, _, _⟩, ⟨_, _, _⟩⟩ ⟨⟨_, _, _⟩, ⟨_, _, _⟩, ⟨_, _, _⟩⟩ _).mono ?_); rintro e w' ⟨rfl, r, rfl⟩))
    go_returns
    exact ⟨rfl, (by repeat (first | exact More.refl _ | refine More.alloc ?_ _ | refine More.more ?_ _ | refine More.drew ?_ | refine More.drewN ?_ _))⟩
end Go.Proofs.Ytggohceeeggnmaa
