/-
  A glass's Abbe number.
  The index of the glasses that the statements write out.
-/
import Derived.Test.YtolfobgpgmfnpaaGreatDoorGlassIx

namespace Go.Proofs.YtolfobgpgmfnpaaGreatDoor
set_option linter.unusedVariables false
open Go.ChangeShapes Go.WideShapes Go.ChangeAt Go.RowKit

set_option maxRecDepth 100000 in
set_option maxHeartbeats 8000000 in
theorem abbe_c (g : Gl) (W : World) :
    Calls Tryz.prog 13 #[glV g] W fun e w' => e = .returned (ivV (abbeP g)) ∧ More W w' := by
  have hz : (lineP 0) = lineP 0 := rfl
  obtain ⟨d, hd⟩ : ∃ x, ixG g (lineP 0) = x := ⟨_, rfl⟩
  obtain ⟨f, hf⟩ : ∃ x, ixG g (lineP 1) = x := ⟨_, rfl⟩
  obtain ⟨c, hc⟩ : ∃ x, ixG g (lineP 2) = x := ⟨_, rfl⟩
  have hA : abbeP g = ivDiv (ivSub d (ivPoint 65536)) (ivSub f c) := by unfold abbeP; rw [hd, hf, hc]
  rw [hA]
  clear hA hz
  go_enter Tryz.func13, Tryz.ntmps13
  go_wp2_with fail
  go_simp
  (first | (with_reducible refine wp_more_apart_m (id := 1) 12 22 [(37, #[.int .i64 0, .int .i64 0, .bool false])] ?_ ?_ ?_ ?_ ?_ ?_ ?_ ?_) | (refine wp_more_apart (id := 1) 12 22 [(37, #[.int .i64 0, .int .i64 0, .bool false])] ?_ ?_ ?_ ?_ ?_ ?_ ?_ ?_))
  · intro p hp; simp only [List.mem_cons, List.not_mem_nil, or_false] at hp; subst hp; first | exact new_iv
  · kernel_rfl
  · kernel_rfl
  · kernel_rfl
  · kernel_rfl
  · kernel_rfl
  · rfl
  simp only [List.take_succ_cons, List.take_zero, List.drop_succ_cons, List.drop_zero]
  (repeat (first | (refine loose_alloc 3 37 #[.int .i64 0, .int .i64 0, .bool false] new_iv rfl rfl rfl rfl (by simp) ?_) | (refine loose_alloc 4 37 #[.int .i64 0, .int .i64 0, .bool false] new_iv rfl rfl rfl rfl (by simp) ?_) | (refine loose_alloc 5 37 #[.int .i64 0, .int .i64 0, .bool false] new_iv rfl rfl rfl rfl (by simp) ?_) | (refine loose_step rfl (fun K9 hK9 => ?_); go_simp; first | (refine hK9 _ ?_; clear hK9 K9) | (apply Exists.intro; refine ⟨fun _ => ?_, hK9 _ ?_⟩; ((first | (go_at_call 11; with_reducible exact index_c _ _ _) | (go_at_call 11; with_reducible exact index_c _ ⟨_, _, _⟩ _) | (go_at_call 11; with_reducible exact index_c ⟨_, _, _, _, _, _, _⟩ _ _) | (go_at_call 11; with_reducible exact index_c ⟨_, _, _, _, _, _, _⟩ ⟨_, _, _⟩ _) | (go_at_call 11; with_reducible exact index_c ⟨_, ⟨_, _⟩, ⟨_, _⟩, ⟨_, _⟩, ⟨_, _⟩, ⟨_, _⟩, ⟨_, _⟩⟩ ⟨_, _, _⟩ _) | (go_at_call 11; with_reducible exact indexX_c _ _ _) | (go_at_call 11; with_reducible exact indexX_c _ ⟨_, _, _⟩ _) | (go_at_call 11; with_reducible exact indexY_c _ _ _) | (go_at_call 11; with_reducible exact indexY_c _ ⟨_, _, _⟩ _) | (go_at_call 11; with_reducible exact indexN_c () _ _) | (go_at_call 11; with_reducible exact indexN_c () ⟨_, _, _⟩ _) | (go_at_call 11; with_reducible exact indexA_c () _ _) | (go_at_call 11; with_reducible exact indexA_c () ⟨_, _, _⟩ _) | (go_at_call 12; with_reducible exact line_c _ _) | (go_at_call 33; with_reducible exact point_c _ _) | (go_at_call 36; with_reducible exact sub_c _ _ _) | (go_at_call 36; with_reducible exact sub_c _ ⟨_, _, _⟩ _) | (go_at_call 36; with_reducible exact sub_c ⟨_, _, _⟩ _ _) | (go_at_call 36; with_reducible exact sub_c ⟨_, _, _⟩ ⟨_, _, _⟩ _) | (go_at_call 38; with_reducible exact idiv_c _ _ _) | (go_at_call 38; with_reducible exact idiv_c _ ⟨_, _, _⟩ _) | (go_at_call 38; with_reducible exact idiv_c ⟨_, _, _⟩ _ _) | (go_at_call 38; with_reducible exact idiv_c ⟨_, _, _⟩ ⟨_, _, _⟩ _))); clear hK9 K9))))
  intro r
  simp only [allFits]
  rintro _ ⟨b3, rfl, hb3, hc3⟩ _ ⟨b2, rfl, hb2, hc2⟩ _ ⟨b1, rfl, hb1, hc1⟩ hfar
  have n12 := hfar 9 10 _ _ _ _ 3 4 rfl rfl rfl rfl rfl rfl (by decide)
  have n13 := hfar 9 11 _ _ _ _ 3 5 rfl rfl rfl rfl rfl rfl (by decide)
  have n23 := hfar 10 11 _ _ _ _ 4 5 rfl rfl rfl rfl rfl rfl (by decide)
  simp [Act.put] at n12 n13 n23
  try rw [hc]
  clear hfar hd hf hc
  have hz : ((W.alloc (.cells #[.string (bsOf g.name), .int .i64 g.b0.c, .int .i64 g.b0.s, .int .i64 g.b1.c, .int .i64 g.b1.s, .int .i64 g.b2.c, .int .i64 g.b2.s, .int .i64 g.c0.c, .int .i64 g.c0.s, .int .i64 g.c1.c, .int .i64 g.c1.s, .int .i64 g.c2.c, .int .i64 g.c2.s] 34)).alloc (.cells #[.int .i64 0, .int .i64 0, .bool false] 37)).heap.size = W.heap.size + 2 := by simp
  refine wpList_store_new 37 (.tmp 3) (.tmp 8) 3 b1 _ (cellsI d) rfl rfl rfl rfl rfl (size_ivT _) rfl (by decide) (one_iv _ _ _) hc1 rfl ?_
  refine wpList_store_new 37 (.tmp 4) (.tmp 11) 3 b2 _ (cellsI f) rfl rfl rfl rfl rfl (size_ivT _) rfl (by decide) (one_iv _ _ _) ((setRow_other _ _ _ _ (fun e => n12 e.symm)).trans hc2) rfl ?_
  refine wpList_store_new 37 (.tmp 5) (.tmp 14) 3 b3 _ (cellsI c) rfl rfl rfl rfl rfl (size_ivT _) rfl (by decide) (one_iv _ _ _) ((setRow_other _ _ _ _ (fun e => n23 e.symm)).trans ((setRow_other _ _ _ _ (fun e => n13 e.symm)).trans hc3)) rfl ?_
  refine wpList_nil ?_
  have hm : More ((W.alloc (.cells #[.string (bsOf g.name), .int .i64 g.b0.c, .int .i64 g.b0.s, .int .i64 g.b1.c, .int .i64 g.b1.s, .int .i64 g.b2.c, .int .i64 g.b2.s, .int .i64 g.c0.c, .int .i64 g.c0.s, .int .i64 g.c1.c, .int .i64 g.c1.s, .int .i64 g.c2.c, .int .i64 g.c2.s] 34)).alloc (.cells #[.int .i64 0, .int .i64 0, .bool false] 37)) ((((more ((W.alloc (.cells #[.string (bsOf g.name), .int .i64 g.b0.c, .int .i64 g.b0.s, .int .i64 g.b1.c, .int .i64 g.b1.s, .int .i64 g.b2.c, .int .i64 g.b2.s, .int .i64 g.c0.c, .int .i64 g.c0.s, .int .i64 g.c1.c, .int .i64 g.c1.s, .int .i64 g.c2.c, .int .i64 g.c2.s] 34)).alloc (.cells #[.int .i64 0, .int .i64 0, .bool false] 37)) r).setRow b1 (cellsI d).toArray).setRow b2 (cellsI f).toArray).setRow b3 (cellsI c).toArray) := more_setRow (more_setRow (more_setRow ((More.refl _).more r) hb1) hb2) hb3
  have h1 : ((((more ((W.alloc (.cells #[.string (bsOf g.name), .int .i64 g.b0.c, .int .i64 g.b0.s, .int .i64 g.b1.c, .int .i64 g.b1.s, .int .i64 g.b2.c, .int .i64 g.b2.s, .int .i64 g.c0.c, .int .i64 g.c0.s, .int .i64 g.c1.c, .int .i64 g.c1.s, .int .i64 g.c2.c, .int .i64 g.c2.s] 34)).alloc (.cells #[.int .i64 0, .int .i64 0, .bool false] 37)) r).setRow b1 (cellsI d).toArray).setRow b2 (cellsI f).toArray).setRow b3 (cellsI c).toArray).heap[b1]? = some (.cells (cellsI d).toArray 37 (0, 0)) := (setRow_other _ _ _ _ n13).trans ((setRow_other _ _ _ _ n12).trans (heap_setRow hc1))
  have h2 : ((((more ((W.alloc (.cells #[.string (bsOf g.name), .int .i64 g.b0.c, .int .i64 g.b0.s, .int .i64 g.b1.c, .int .i64 g.b1.s, .int .i64 g.b2.c, .int .i64 g.b2.s, .int .i64 g.c0.c, .int .i64 g.c0.s, .int .i64 g.c1.c, .int .i64 g.c1.s, .int .i64 g.c2.c, .int .i64 g.c2.s] 34)).alloc (.cells #[.int .i64 0, .int .i64 0, .bool false] 37)) r).setRow b1 (cellsI d).toArray).setRow b2 (cellsI f).toArray).setRow b3 (cellsI c).toArray).heap[b2]? = some (.cells (cellsI f).toArray 37 (0, 0)) := (setRow_other _ _ _ _ n23).trans (heap_setRow ((setRow_other _ _ _ _ (fun e => n12 e.symm)).trans hc2))
  have h3 : ((((more ((W.alloc (.cells #[.string (bsOf g.name), .int .i64 g.b0.c, .int .i64 g.b0.s, .int .i64 g.b1.c, .int .i64 g.b1.s, .int .i64 g.b2.c, .int .i64 g.b2.s, .int .i64 g.c0.c, .int .i64 g.c0.s, .int .i64 g.c1.c, .int .i64 g.c1.s, .int .i64 g.c2.c, .int .i64 g.c2.s] 34)).alloc (.cells #[.int .i64 0, .int .i64 0, .bool false] 37)) r).setRow b1 (cellsI d).toArray).setRow b2 (cellsI f).toArray).setRow b3 (cellsI c).toArray).heap[b3]? = some (.cells (cellsI c).toArray 37 (0, 0)) := heap_setRow ((setRow_other _ _ _ _ (fun e => n23 e.symm)).trans ((setRow_other _ _ _ _ (fun e => n13 e.symm)).trans hc3))
  have hr : ((W.alloc (.cells #[.string (bsOf g.name), .int .i64 g.b0.c, .int .i64 g.b0.s, .int .i64 g.b1.c, .int .i64 g.b1.s, .int .i64 g.b2.c, .int .i64 g.b2.s, .int .i64 g.c0.c, .int .i64 g.c0.s, .int .i64 g.c1.c, .int .i64 g.c1.s, .int .i64 g.c2.c, .int .i64 g.c2.s] 34)).alloc (.cells #[.int .i64 0, .int .i64 0, .bool false] 37)).heap[W.heap.size + 1]? = some (.cells zeroI 37 (0, 0)) := by
    have : W.heap.size + 1 = (W.alloc (.cells #[.string (bsOf g.name), .int .i64 g.b0.c, .int .i64 g.b0.s, .int .i64 g.b1.c, .int .i64 g.b1.s, .int .i64 g.b2.c, .int .i64 g.b2.s, .int .i64 g.c0.c, .int .i64 g.c0.s, .int .i64 g.c1.c, .int .i64 g.c1.s, .int .i64 g.c2.c, .int .i64 g.c2.s] 34)).heap.size := by simp
    rw [this]
    exact heap_alloc_new _ _
  have hmW : More W ((((more ((W.alloc (.cells #[.string (bsOf g.name), .int .i64 g.b0.c, .int .i64 g.b0.s, .int .i64 g.b1.c, .int .i64 g.b1.s, .int .i64 g.b2.c, .int .i64 g.b2.s, .int .i64 g.c0.c, .int .i64 g.c0.s, .int .i64 g.c1.c, .int .i64 g.c1.s, .int .i64 g.c2.c, .int .i64 g.c2.s] 34)).alloc (.cells #[.int .i64 0, .int .i64 0, .bool false] 37)) r).setRow b1 (cellsI d).toArray).setRow b2 (cellsI f).toArray).setRow b3 (cellsI c).toArray) := More.trans (by repeat (first | exact More.refl _ | refine More.alloc ?_ _ | refine More.more ?_ _ | refine More.drew ?_ | refine More.drewN ?_ _)) hm
  have hr3 : ((((more ((W.alloc (.cells #[.string (bsOf g.name), .int .i64 g.b0.c, .int .i64 g.b0.s, .int .i64 g.b1.c, .int .i64 g.b1.s, .int .i64 g.b2.c, .int .i64 g.b2.s, .int .i64 g.c0.c, .int .i64 g.c0.s, .int .i64 g.c1.c, .int .i64 g.c1.s, .int .i64 g.c2.c, .int .i64 g.c2.s] 34)).alloc (.cells #[.int .i64 0, .int .i64 0, .bool false] 37)) r).setRow b1 (cellsI d).toArray).setRow b2 (cellsI f).toArray).setRow b3 (cellsI c).toArray).heap[W.heap.size + 1]? = some (.cells zeroI 37 (0, 0)) := by
    obtain ⟨rr, e⟩ := hm
    rw [e]
    exact (heap_more _ rr _ (by rw [hz]; omega)).trans hr
  clear hc1 hc2 hc3 hr hm
  generalize ((((more ((W.alloc (.cells #[.string (bsOf g.name), .int .i64 g.b0.c, .int .i64 g.b0.s, .int .i64 g.b1.c, .int .i64 g.b1.s, .int .i64 g.b2.c, .int .i64 g.b2.s, .int .i64 g.c0.c, .int .i64 g.c0.s, .int .i64 g.c1.c, .int .i64 g.c1.s, .int .i64 g.c2.c, .int .i64 g.c2.s] 34)).alloc (.cells #[.int .i64 0, .int .i64 0, .bool false] 37)) r).setRow b1 (cellsI d).toArray).setRow b2 (cellsI f).toArray).setRow b3 (cellsI c).toArray) = wx at h1 h2 h3 hr3 hmW ⊢
  have a0 := cell_of h1 0 (u := .int .i64 d.lo) rfl
  have a1 := cell_of h1 1 (u := .int .i64 d.hi) rfl
  have a2 := cell_of h1 2 (u := .bool d.no) rfl
  have d0 := cell_of h2 0 (u := .int .i64 f.lo) rfl
  have d1 := cell_of h2 1 (u := .int .i64 f.hi) rfl
  have d2 := cell_of h2 2 (u := .bool f.no) rfl
  have s0 := cell_of h3 0 (u := .int .i64 c.lo) rfl
  have s1 := cell_of h3 1 (u := .int .i64 c.hi) rfl
  have s2 := cell_of h3 2 (u := .bool c.no) rfl
  have y1 := (Array.getElem?_eq_some_iff.1 h1).1
  have y2 := (Array.getElem?_eq_some_iff.1 h2).1
  have y3 := (Array.getElem?_eq_some_iff.1 h3).1
  have y4 := (Array.getElem?_eq_some_iff.1 hr3).1
  have HR := Lib.hid hr3
  have HM := Lib.hid hmW
  clear h1 h2 h3 hr3 hmW
  go_wp2_with (first | ((with_reducible show Code.wp _ (Code.region 1 _ true) _ _ _); (with_reducible refine wp_more_tailq_m (id := 1) 12 ?_ ?_ ?_); kernel_rfl; kernel_rfl; (try simp only [List.take_succ_cons, List.take_zero, List.drop_succ_cons, List.drop_zero]); (repeat (any_goals (first | go_big_quiet_step (fail) | quiet_step (fail)))); (with_reducible refine wpQuiet_nil ?_); intro r) | ((with_reducible show Code.wp _ (Code.region 1 _ true) _ _ _); (with_reducible refine wp_more_tailq (id := 1) 12 ?_ ?_ ?_); kernel_rfl; kernel_rfl; (try simp only [List.take_succ_cons, List.take_zero, List.drop_succ_cons, List.drop_zero]); (repeat (any_goals (first | go_big_quiet_step (fail) | quiet_step (fail)))); (with_reducible refine wpQuiet_nil ?_); intro r) | ((with_reducible show Code.wp _ (Code.region 2 _ true) _ _ _); (with_reducible refine wp_more_tailq_m (id := 2) 7 ?_ ?_ ?_); kernel_rfl; kernel_rfl; (try simp only [List.take_succ_cons, List.take_zero, List.drop_succ_cons, List.drop_zero]); (repeat (any_goals (first | go_big_quiet_step (fail) | quiet_step (fail)))); (with_reducible refine wpQuiet_nil ?_); intro r) | ((with_reducible show Code.wp _ (Code.region 2 _ true) _ _ _); (with_reducible refine wp_more_tailq (id := 2) 7 ?_ ?_ ?_); kernel_rfl; kernel_rfl; (try simp only [List.take_succ_cons, List.take_zero, List.drop_succ_cons, List.drop_zero]); (repeat (any_goals (first | go_big_quiet_step (fail) | quiet_step (fail)))); (with_reducible refine wpQuiet_nil ?_); intro r))
  go_simp
  (first | (with_reducible refine wp_more_loose_tail_m (id := 2) 7 ?_ ?_ ?_ ?_ ?_) | (refine wp_more_loose_tail (id := 2) 7 ?_ ?_ ?_ ?_ ?_))
  · kernel_rfl
  · kernel_rfl
  · kernel_rfl
  · kernel_rfl
  simp only [List.take_succ_cons, List.take_zero, List.drop_succ_cons, List.drop_zero]
  (repeat (first | (refine loose_step rfl (fun K9 hK9 => ?_); go_simp; first | (refine hK9 _ ?_; clear hK9 K9) | (apply Exists.intro; refine ⟨fun _ => ?_, hK9 _ ?_⟩; ((first | (go_at_call 11; with_reducible exact index_c _ _ _) | (go_at_call 11; with_reducible exact index_c _ ⟨_, _, _⟩ _) | (go_at_call 11; with_reducible exact index_c ⟨_, _, _, _, _, _, _⟩ _ _) | (go_at_call 11; with_reducible exact index_c ⟨_, _, _, _, _, _, _⟩ ⟨_, _, _⟩ _) | (go_at_call 11; with_reducible exact index_c ⟨_, ⟨_, _⟩, ⟨_, _⟩, ⟨_, _⟩, ⟨_, _⟩, ⟨_, _⟩, ⟨_, _⟩⟩ ⟨_, _, _⟩ _) | (go_at_call 11; with_reducible exact indexX_c _ _ _) | (go_at_call 11; with_reducible exact indexX_c _ ⟨_, _, _⟩ _) | (go_at_call 11; with_reducible exact indexY_c _ _ _) | (go_at_call 11; with_reducible exact indexY_c _ ⟨_, _, _⟩ _) | (go_at_call 11; with_reducible exact indexN_c () _ _) | (go_at_call 11; with_reducible exact indexN_c () ⟨_, _, _⟩ _) | (go_at_call 11; with_reducible exact indexA_c () _ _) | (go_at_call 11; with_reducible exact indexA_c () ⟨_, _, _⟩ _) | (go_at_call 12; with_reducible exact line_c _ _) | (go_at_call 33; with_reducible exact point_c _ _) | (go_at_call 36; with_reducible exact sub_c _ _ _) | (go_at_call 36; with_reducible exact sub_c _ ⟨_, _, _⟩ _) | (go_at_call 36; with_reducible exact sub_c ⟨_, _, _⟩ _ _) | (go_at_call 36; with_reducible exact sub_c ⟨_, _, _⟩ ⟨_, _, _⟩ _) | (go_at_call 38; with_reducible exact idiv_c _ _ _) | (go_at_call 38; with_reducible exact idiv_c _ ⟨_, _, _⟩ _) | (go_at_call 38; with_reducible exact idiv_c ⟨_, _, _⟩ _ _) | (go_at_call 38; with_reducible exact idiv_c ⟨_, _, _⟩ ⟨_, _, _⟩ _))); clear hK9 K9))))
  intro r3
  simp only [allFits]
  refine wpList_store_new 37 (.tmp 2) (.tmp 21) 3 (W.heap.size + 1) _ (cellsI (ivDiv (ivSub d (ivPoint 65536)) (ivSub f c))) rfl rfl rfl rfl rfl (size_ivT _) rfl (by decide) (one_iv _ _ _) ((heap_more _ r3 _ y4).trans HR.out) rfl ?_
  refine wpList_nil ?_
  have hf : ((more wx r3).setRow (W.heap.size + 1) (cellsI (ivDiv (ivSub d (ivPoint 65536)) (ivSub f c))).toArray).heap[W.heap.size + 1]? = some (.cells (cellsI (ivDiv (ivSub d (ivPoint 65536)) (ivSub f c))).toArray 37 (0, 0)) := heap_setRow ((heap_more _ r3 _ y4).trans HR.out)
  have hm : More W ((more wx r3).setRow (W.heap.size + 1) (cellsI (ivDiv (ivSub d (ivPoint 65536)) (ivSub f c))).toArray) := more_setRow (HM.out.more r3) (by omega)
  clear a0 a1 a2 d0 d1 d2 s0 s1 s2 y1 y2 y3 y4
  generalize ((more wx r3).setRow (W.heap.size + 1) (cellsI (ivDiv (ivSub d (ivPoint 65536)) (ivSub f c))).toArray) = wf at hf hm ⊢
  have k0 := cell_of hf 0 (u := .int .i64 (ivDiv (ivSub d (ivPoint 65536)) (ivSub f c)).lo) rfl
  have k1 := cell_of hf 1 (u := .int .i64 (ivDiv (ivSub d (ivPoint 65536)) (ivSub f c)).hi) rfl
  have k2 := cell_of hf 2 (u := .bool (ivDiv (ivSub d (ivPoint 65536)) (ivSub f c)).no) rfl
  go_wp2_with (first | ((with_reducible show Code.wp _ (Code.region 1 _ true) _ _ _); (with_reducible refine wp_more_tailq_m (id := 1) 12 ?_ ?_ ?_); kernel_rfl; kernel_rfl; (try simp only [List.take_succ_cons, List.take_zero, List.drop_succ_cons, List.drop_zero]); (repeat (any_goals (first | go_big_quiet_step (fail) | quiet_step (fail)))); (with_reducible refine wpQuiet_nil ?_); intro r) | ((with_reducible show Code.wp _ (Code.region 1 _ true) _ _ _); (with_reducible refine wp_more_tailq (id := 1) 12 ?_ ?_ ?_); kernel_rfl; kernel_rfl; (try simp only [List.take_succ_cons, List.take_zero, List.drop_succ_cons, List.drop_zero]); (repeat (any_goals (first | go_big_quiet_step (fail) | quiet_step (fail)))); (with_reducible refine wpQuiet_nil ?_); intro r) | ((with_reducible show Code.wp _ (Code.region 2 _ true) _ _ _); (with_reducible refine wp_more_tailq_m (id := 2) 7 ?_ ?_ ?_); kernel_rfl; kernel_rfl; (try simp only [List.take_succ_cons, List.take_zero, List.drop_succ_cons, List.drop_zero]); (repeat (any_goals (first | go_big_quiet_step (fail) | quiet_step (fail)))); (with_reducible refine wpQuiet_nil ?_); intro r) | ((with_reducible show Code.wp _ (Code.region 2 _ true) _ _ _); (with_reducible refine wp_more_tailq (id := 2) 7 ?_ ?_ ?_); kernel_rfl; kernel_rfl; (try simp only [List.take_succ_cons, List.take_zero, List.drop_succ_cons, List.drop_zero]); (repeat (any_goals (first | go_big_quiet_step (fail) | quiet_step (fail)))); (with_reducible refine wpQuiet_nil ?_); intro r))
  try simp only [Exit.inBlock, Exit.then]
  refine bodyPost_ret (by simp [results, Tryz.results13, go_sem, k0, k1, k2]; try rfl) rfl ?_
  exact ⟨rfl, hm⟩

end Go.Proofs.YtolfobgpgmfnpaaGreatDoor

namespace Go.Proofs.YtolfobgpgmfnpaaGreatDoor
set_option linter.unusedVariables false
open Go.ChangeShapes Go.WideShapes Go.ChangeAt Go.RowKit

@[reducible] def oneXV (b : Int) : Value := .agg #[.string ⟨#[120]⟩, .int .i64 (decH b 1).c, .int .i64 (decH b 1).s, .int .i64 0, .int .i64 0, .int .i64 0, .int .i64 0, .int .i64 0, .int .i64 0, .int .i64 9, .int .i64 0, .int .i64 9, .int .i64 0]
@[reducible] def oneYV (b : Int) : Value := .agg #[.string ⟨#[121]⟩, .int .i64 (decH b 1).c, .int .i64 (decH b 1).s, .int .i64 0, .int .i64 0, .int .i64 0, .int .i64 0, .int .i64 0, .int .i64 0, .int .i64 9, .int .i64 0, .int .i64 9, .int .i64 0]
@[reducible] def noneV : Value := .agg #[.string ⟨#[110]⟩, .int .i64 0, .int .i64 0, .int .i64 0, .int .i64 0, .int .i64 0, .int .i64 0, .int .i64 1, .int .i64 0, .int .i64 2, .int .i64 0, .int .i64 3, .int .i64 0]
abbrev OneX := Int
abbrev OneY := Int
abbrev NoneG := Unit

set_option maxHeartbeats 4000000 in
theorem indexX_c (b : OneX) (w : Iv) (W : World) :
    Calls Tryz.prog 11 #[oneXV b, ivV w] W fun e w' => e = .returned (ivV (ixG (oneG [120] b) w)) ∧ More W w' := by
  exact index_c (oneG [120] b) w W

set_option maxHeartbeats 4000000 in
theorem indexY_c (b : OneY) (w : Iv) (W : World) :
    Calls Tryz.prog 11 #[oneYV b, ivV w] W fun e w' => e = .returned (ivV (ixG (oneG [121] b) w)) ∧ More W w' := by
  exact index_c (oneG [121] b) w W

set_option maxHeartbeats 4000000 in
theorem indexN_c (n : NoneG) (w : Iv) (W : World) :
    Calls Tryz.prog 11 #[noneV, ivV w] W fun e w' => e = .returned (ivV (ixG ⟨[110], ⟨0, 0⟩, ⟨0, 0⟩, ⟨0, 0⟩, ⟨1, 0⟩, ⟨2, 0⟩, ⟨3, 0⟩⟩ w)) ∧ More W w' := by
  exact index_c ⟨[110], ⟨0, 0⟩, ⟨0, 0⟩, ⟨0, 0⟩, ⟨1, 0⟩, ⟨2, 0⟩, ⟨3, 0⟩⟩ w W

end Go.Proofs.YtolfobgpgmfnpaaGreatDoor
