/-
  SagLess: the walk.
-/
import Derived.Test.YtggohceeeggnmaaLaw14
import Derived.Test.YtggohceeeggnmaaSagRef
import Derived.Test.YtggohceeeggnmaaGp5
import Derived.Test.YtggohceeeggnmaaGr5
import Derived.Test.YtggohceeeggnmaaReg8
namespace Go.Proofs.Ytggohceeeggnmaa
set_option linter.unusedVariables false
open Go.ChangeShapes Go.WideShapes Go.ChangeAt Go.RowKit

set_option maxHeartbeats 16000000 in
set_option maxRecDepth 100000 in
theorem sagLess_walk (w : World) (a0 : Int) (w0 : (Lit.int .i64 a0).wf = true) (s1 : Value) (l1 : List RawF) (i1 : Raws w s1 l1) (k1 : ∀ f ∈ l1, OkRaw f) (m1 : l1.length ≤ 9223372036854775807) (a2 : Int) (w2 : (Lit.int .i64 a2).wf = true) (a3 : Int) (w3 : (Lit.int .i64 a3).wf = true) (a4 : Int) (w4 : (Lit.int .i64 a4).wf = true) (a5 : Int) (w5 : (Lit.int .i64 a5).wf = true) :
    Calls Try.prog 8 #[.int .i64 a0, s1, .int .i64 a2, .int .i64 a3, .int .i64 a4, .int .i64 a5] w fun e w' => e = .returned (.bool true) ∧ More w w' := by
  obtain ⟨b01, b02⟩ := bounds_i64 w0
  obtain ⟨b21, b22⟩ := bounds_i64 w2
  obtain ⟨b31, b32⟩ := bounds_i64 w3
  obtain ⟨b41, b42⟩ := bounds_i64 w4
  obtain ⟨b51, b52⟩ := bounds_i64 w5
  obtain ⟨c0, c1'⟩ : 0 ≤ a2 % 7864320 ∧ a2 % 7864320 < 7864320 := ⟨Int.emod_nonneg _ (by omega), Int.emod_lt_of_pos _ (by omega)⟩
  obtain ⟨d0, d1⟩ : 0 ≤ a3 % 20000 ∧ a3 % 20000 < 20000 := ⟨Int.emod_nonneg _ (by omega), Int.emod_lt_of_pos _ (by omega)⟩
  have hwr : ivRight (hWide (a2 % 7864320) (a3 % 20000)) = true := hWide_right d0
  obtain ⟨⟨x1, x2, x3⟩, hx⟩ : ∃ d, hWide (a2 % 7864320) (a3 % 20000) = d := ⟨_, rfl⟩
  rw [hx] at hwr
  have hless : ivLess (hIn ⟨x1, x2, x3⟩ a4 a5) ⟨x1, x2, x3⟩ = true := partLess (hIn_part a4 a5 hwr)
  have HLESS := Lib.hid hless
  clear hless hwr
  have hsys : ∀ u, More w u → Calls Try.prog 19 #[.int .i64 a0, s1, .slice none 0 0, .int .i64 4, .bool false] u fun e w' => ∃ v', e = .returned (syV (hsP a0 l1 [] 4).wide v') ∧ More u w' ∧ Sfs w' v' (hsP a0 l1 [] 4).rows := fun u hM => hsys_c a0 s1 (.slice none 0 0) l1 [] 4 u b01 b02 (i1.up hM) k1 m1 (.inl ⟨rfl, _, _, rfl⟩) (by simp) (by simp) (by decide)
  have hright := hsP_right a0 l1 [] 4
  have hmild := hsP_mild a0 l1 [] 4
  have hlen := hsP_len a0 l1 [] (most := 4) (by decide)
  obtain ⟨⟨P, ⟨o1, o2, o3⟩⟩, hY⟩ : ∃ Y, hsP a0 l1 [] 4 = Y := ⟨_, rfl⟩
  rw [hY] at hsys hright hmild hlen
  dsimp only at hsys hright hmild hlen
  have HRT := Lib.hid hright
  have HMD := Lib.hid hmild
  have HSYS := Lib.hid hsys
  clear hsys hright hmild hY i1 k1 m1
  have E := eql_same
  have N := neql_same
  have HP0 := Lib.hid (show ivPoint 0 = ⟨0, 0, false⟩ by kernel_rfl)
  go_enter Try.func8, Try.ntmps8
  go_wp2_with fail
  go_at_call 19
  refine Calls.mono (HSYS.out _ (by repeat (first | exact More.refl _ | refine More.alloc ?_ _ | refine More.more ?_ _ | refine More.drew ?_ | refine More.drewN ?_ _))) ?_
  rintro e u ⟨v, rfl, ⟨r1, rfl⟩, hS⟩
  obtain ⟨va, vc, rfl, -⟩ := grow_form sfs_pos hS
  have HS := Lib.hid hS
  clear hS HSYS
  go_wp2_with (first | (first | (go_at_call 29; (with_reducible refine (pick_c _ _ (by omega) (by omega) (by omega) (by omega) _).mono ?_); rintro e w' ⟨rfl, rfl⟩) | (go_at_call 34; (with_reducible refine (hwide_c _ _ (by omega) (by omega) _).mono ?_); rintro e w' ⟨rfl, r, rfl⟩)))
  clear hx
  obtain ⟨rx, hrx⟩ : ∃ x, x = r := ⟨_, rfl⟩
  subst hrx
  go_loopw [33] (fun i wr => ∃ k : Nat, k ≤ P.length ∧ i = .int .i64 k ∧ More ((more ((more w r1).alloc (.cells #[.slice va P.length vc, .int .i64 o1, .int .i64 o2, .bool o3] 41)) rx).alloc (.cells #[.int .i64 x1, .int .i64 x2, .bool x3] 23)) wr) (fun i _ => P.length - (intOf i).toNat)
  case atStart => exact ⟨0, by omega, rfl, (by repeat (first | exact More.refl _ | refine More.alloc ?_ _ | refine More.more ?_ _ | refine More.drew ?_ | refine More.drewN ?_ _))⟩
  case round =>
    obtain ⟨k, hk, rfl, s, rfl⟩ := hrel
    by_cases hkl : k < P.length
    · obtain ⟨f, hf⟩ : ∃ f, P[k]? = some f := ⟨P[k], List.getElem?_eq_getElem hkl⟩
      obtain ⟨b, off, rfl, hb, hL, -⟩ := sfs_at (w := ((more ((more w r1).alloc (.cells #[.slice va P.length vc, .int .i64 o1, .int .i64 o2, .bool o3] 41)) rx).alloc (.cells #[.int .i64 x1, .int .i64 x2, .bool x3] 23))) (HS.out.up (by repeat (first | exact More.refl _ | refine More.alloc ?_ _ | refine More.more ?_ _ | refine More.drew ?_ | refine More.drewN ?_ _))) hf
      have hlt : ((k : Nat) : Int) < ((P.length : Nat) : Int) := by omega
      have hmem := List.mem_of_getElem? hf
      have haxis := sag_axis (HMD.out f hmem)
      have hsl := fun h => sag_less f HLESS.out h
      clear hf hmem
      have HAX := Lib.hid haxis
      have HSL := Lib.hid hsl
      clear hsl haxis
      have hall : ∀ w', More ((more ((more w r1).alloc (.cells #[.slice (some ⟨b, off, none⟩) P.length vc, .int .i64 o1, .int .i64 o2, .bool o3] 41)) rx).alloc (.cells #[.int .i64 x1, .int .i64 x2, .bool x3] 23)) w' → (loadWhole 25 ⟨b, off + k * 23, none⟩).run Try.prog w' = .ok (sfV f) w' := by
        rintro w' ⟨r', rfl⟩
        exact hL r'
      have HALL := Lib.hid hall
      clear hall
      generalize hwv : more ((more ((more w r1).alloc (.cells #[.slice (some ⟨b, off, none⟩) P.length vc, .int .i64 o1, .int .i64 o2, .bool o3] 41)) rx).alloc (.cells #[.int .i64 x1, .int .i64 x2, .bool x3] 23)) s = wv
      have hMX0 : More ((more ((more w r1).alloc (.cells #[.slice (some ⟨b, off, none⟩) P.length vc, .int .i64 o1, .int .i64 o2, .bool o3] 41)) rx).alloc (.cells #[.int .i64 x1, .int .i64 x2, .bool x3] 23)) wv := ⟨s, hwv.symm⟩
      clear hwv hL
      have hbx0 : wv.heap[(w.heap.size + (r1.len + (1 + rx.len)))]? = some (.cells #[.int .i64 x1, .int .i64 x2, .bool x3] 23 (0, 0)) := heap_at _ hMX0 (by simp [Nat.add_assoc])
      have hby0 : wv.heap[(w.heap.size + r1.len)]? = some (.cells #[.slice (some ⟨b, off, none⟩) P.length vc, .int .i64 o1, .int .i64 o2, .bool o3] 41 (0, 0)) := heap_at (more w r1) (More.trans (by repeat (first | exact More.refl _ | refine More.alloc ?_ _ | refine More.more ?_ _ | refine More.drew ?_ | refine More.drewN ?_ _)) hMX0) (by simp)
      have LR0 : ∀ R, (loadWhole 25 ⟨b, off + k * 23, none⟩).run Try.prog (more wv R) = .ok (sfV f) (more wv R) := fun R => HALL.out _ (More.trans hMX0 ((More.refl _).more R))
      have LZ0 : (loadWhole 25 ⟨b, off + k * 23, none⟩).run Try.prog wv = .ok (sfV f) wv := HALL.out _ hMX0
      obtain ⟨lx0, ex00, ex01, ex02⟩ := iv_cells hbx0
      have ey0 : wv.cell? ⟨(w.heap.size + r1.len), 0, none⟩ = some (.slice (some ⟨b, off, none⟩) P.length vc) := by simp [World.cell?, hby0]
      have ly0 : (w.heap.size + r1.len) < wv.heap.size := (Array.getElem?_eq_some_iff.1 hby0).1
      have HMX0 := Lib.hid hMX0
      clear hMX0 hbx0 hby0
      go_upto_region 6 with fail
      (first | (with_reducible refine wp_more_apartl_m (id := 6) 12 88 [9] [(23, #[.int .i64 0, .int .i64 0, .bool false])] ?_ ?_ ?_ ?_ ?_ ?_ ?_ ?_ ?_ ?_) | (refine wp_more_apartl (id := 6) 12 88 [9] [(23, #[.int .i64 0, .int .i64 0, .bool false])] ?_ ?_ ?_ ?_ ?_ ?_ ?_ ?_ ?_ ?_))
      · intro p hp; simp only [List.mem_cons, List.not_mem_nil, or_false] at hp; subst hp <;> first | exact new_iv
      · kernel_rfl
      · kernel_rfl
      · kernel_rfl
      · kernel_rfl
      · kernel_rfl
      · kernel_rfl
      · rfl
      · (intro _ _ _ _ _ h; exact h)
      simp only [List.take_succ_cons, List.take_zero, List.drop_succ_cons, List.drop_zero]
      (repeat (first | (refine loose_alloc 16 23 #[.int .i64 0, .int .i64 0, .bool false] new_iv rfl rfl rfl rfl (by simp) ?_) | (refine loose_alloc 17 23 #[.int .i64 0, .int .i64 0, .bool false] new_iv rfl rfl rfl rfl (by simp) ?_) | (refine loose_step rfl (fun K9 hK9 => ?_); go_simp; first | (refine hK9 _ ?_; clear hK9 K9) | (apply Exists.intro; refine ⟨fun _ => ?_, hK9 _ ?_⟩; ((first | (go_at_call 35; with_reducible exact sag_c f ⟨x1, x2, x3⟩ _) | (go_at_call 35; with_reducible exact sag_c _ _ _) | (go_at_call 35; with_reducible exact sag_c _ ⟨_, _, _⟩ _) | (go_at_call 35; with_reducible exact sag_c ⟨_, _, ⟨_, _, _⟩, ⟨_, _, _⟩, ⟨_, _, _⟩, ⟨_, _, _⟩, ⟨_, _, _⟩, ⟨_, _, _⟩, ⟨_, _, _⟩⟩ ⟨_, _, _⟩ _))); clear hK9 K9))))
      intro r
      simp only [allFits]
      rintro _ ⟨b2', rfl, hb2', hc2'⟩ _ ⟨b1', rfl, hb1', hc1'⟩ hfar
      have n12 := hfar 10 11 _ _ _ _ 16 17 rfl rfl rfl rfl rfl rfl (by decide)
      simp [Act.put] at n12
      refine two_end 23 3 (.tmp 16) (.tmp 44) (.tmp 17) (.tmp 45) b1' b2' _ _ (cellsI (sagZ f ⟨x1, x2, x3⟩)) (cellsI (sagM f ⟨x1, x2, x3⟩)) rfl rfl rfl rfl rfl rfl rfl rfl rfl rfl size_ivT rfl rfl (by decide) (one_iv _ _ _) (one_iv _ _ _) ((More.refl _).more r) hb1' hb2' hc1' rfl hc2' rfl n12 ?_
      clear hfar n12 hb1' hb2' hc1' hc2'
      intro v0 hMv0 h1v0 h2v0
      refine wpList_nil ?_
      have hMX1 : More ((more ((more w r1).alloc (.cells #[.slice (some ⟨b, off, none⟩) P.length vc, .int .i64 o1, .int .i64 o2, .bool o3] 41)) rx).alloc (.cells #[.int .i64 x1, .int .i64 x2, .bool x3] 23)) v0 := More.trans HMX0.out (More.trans (by repeat (first | exact More.refl _ | refine More.alloc ?_ _ | refine More.more ?_ _ | refine More.drew ?_ | refine More.drewN ?_ _)) hMv0)
      clear hMv0
      clear LR0 LZ0 lx0 ex00 ex01 ex02 ey0 ly0
      have hbx1 : v0.heap[(w.heap.size + (r1.len + (1 + rx.len)))]? = some (.cells #[.int .i64 x1, .int .i64 x2, .bool x3] 23 (0, 0)) := heap_at _ hMX1 (by simp [Nat.add_assoc])
      have hby1 : v0.heap[(w.heap.size + r1.len)]? = some (.cells #[.slice (some ⟨b, off, none⟩) P.length vc, .int .i64 o1, .int .i64 o2, .bool o3] 41 (0, 0)) := heap_at (more w r1) (More.trans (by repeat (first | exact More.refl _ | refine More.alloc ?_ _ | refine More.more ?_ _ | refine More.drew ?_ | refine More.drewN ?_ _)) hMX1) (by simp)
      have LR1 : ∀ R, (loadWhole 25 ⟨b, off + k * 23, none⟩).run Try.prog (more v0 R) = .ok (sfV f) (more v0 R) := fun R => HALL.out _ (More.trans hMX1 ((More.refl _).more R))
      have LZ1 : (loadWhole 25 ⟨b, off + k * 23, none⟩).run Try.prog v0 = .ok (sfV f) v0 := HALL.out _ hMX1
      obtain ⟨lx1, ex10, ex11, ex12⟩ := iv_cells hbx1
      have ey1 : v0.cell? ⟨(w.heap.size + r1.len), 0, none⟩ = some (.slice (some ⟨b, off, none⟩) P.length vc) := by simp [World.cell?, hby1]
      have ly1 : (w.heap.size + r1.len) < v0.heap.size := (Array.getElem?_eq_some_iff.1 hby1).1
      have HMX1 := Lib.hid hMX1
      clear hMX1 hbx1 hby1
      go_upto_region 7 with fail
      (first | (with_reducible refine wp_more_apartl_m (id := 7) 15 88 [12] [(23, #[.int .i64 0, .int .i64 0, .bool false])] ?_ ?_ ?_ ?_ ?_ ?_ ?_ ?_ ?_ ?_) | (refine wp_more_apartl (id := 7) 15 88 [12] [(23, #[.int .i64 0, .int .i64 0, .bool false])] ?_ ?_ ?_ ?_ ?_ ?_ ?_ ?_ ?_ ?_))
      · intro p hp; simp only [List.mem_cons, List.not_mem_nil, or_false] at hp; subst hp <;> first | exact new_iv
      · kernel_rfl
      · kernel_rfl
      · kernel_rfl
      · kernel_rfl
      · kernel_rfl
      · kernel_rfl
      · rfl
      · (intro _ _ _ _ _ h; exact h)
      simp only [List.take_succ_cons, List.take_zero, List.drop_succ_cons, List.drop_zero]
      (repeat (first | (refine loose_alloc 18 23 #[.int .i64 0, .int .i64 0, .bool false] new_iv rfl rfl rfl rfl (by simp) ?_) | (refine loose_alloc 19 23 #[.int .i64 0, .int .i64 0, .bool false] new_iv rfl rfl rfl rfl (by simp) ?_) | (refine loose_step rfl (fun K9 hK9 => ?_); go_simp; first | (refine hK9 _ ?_; clear hK9 K9) | (apply Exists.intro; refine ⟨fun _ => ?_, hK9 _ ?_⟩; ((first | (go_at_call 35; with_reducible exact sag_c f (hIn ⟨x1, x2, x3⟩ a4 a5) _) | (go_at_call 36; with_reducible exact hin_c ⟨x1, x2, x3⟩ a4 a5 b41 b42 b51 b52 _) | (go_at_call 35; with_reducible exact sag_c _ _ _) | (go_at_call 35; with_reducible exact sag_c _ ⟨_, _, _⟩ _) | (go_at_call 35; with_reducible exact sag_c ⟨_, _, ⟨_, _, _⟩, ⟨_, _, _⟩, ⟨_, _, _⟩, ⟨_, _, _⟩, ⟨_, _, _⟩, ⟨_, _, _⟩, ⟨_, _, _⟩⟩ ⟨_, _, _⟩ _) | (go_at_call 36; with_reducible exact hin_c _ _ _ (by omega) (by omega) (by omega) (by omega) _) | (go_at_call 36; with_reducible exact hin_c ⟨_, _, _⟩ _ _ (by omega) (by omega) (by omega) (by omega) _))); clear hK9 K9))))
      intro r
      simp only [allFits]
      rintro _ ⟨b2', rfl, hb2', hc2'⟩ _ ⟨b1', rfl, hb1', hc1'⟩ hfar
      have n12 := hfar 13 14 _ _ _ _ 18 19 rfl rfl rfl rfl rfl rfl (by decide)
      simp [Act.put] at n12
      refine two_end 23 3 (.tmp 18) (.tmp 57) (.tmp 19) (.tmp 58) b1' b2' _ _ (cellsI (sagZ f (hIn ⟨x1, x2, x3⟩ a4 a5))) (cellsI (sagM f (hIn ⟨x1, x2, x3⟩ a4 a5))) rfl rfl rfl rfl rfl rfl rfl rfl rfl rfl size_ivT rfl rfl (by decide) (one_iv _ _ _) (one_iv _ _ _) ((More.refl _).more r) hb1' hb2' hc1' rfl hc2' rfl n12 ?_
      clear hfar n12 hb1' hb2' hc1' hc2'
      intro v1 hMv1 h1v1 h2v1
      refine wpList_nil ?_
      have hM01 : More v0 v1 := More.trans (by repeat (first | exact More.refl _ | refine More.alloc ?_ _ | refine More.more ?_ _ | refine More.drew ?_ | refine More.drewN ?_ _)) hMv1
      have hMX2 : More ((more ((more w r1).alloc (.cells #[.slice (some ⟨b, off, none⟩) P.length vc, .int .i64 o1, .int .i64 o2, .bool o3] 41)) rx).alloc (.cells #[.int .i64 x1, .int .i64 x2, .bool x3] 23)) v1 := More.trans HMX1.out hM01
      clear hMv1
      clear LR1 LZ1 lx1 ex10 ex11 ex12 ey1 ly1
      have hbx2 : v1.heap[(w.heap.size + (r1.len + (1 + rx.len)))]? = some (.cells #[.int .i64 x1, .int .i64 x2, .bool x3] 23 (0, 0)) := heap_at _ hMX2 (by simp [Nat.add_assoc])
      have hby2 : v1.heap[(w.heap.size + r1.len)]? = some (.cells #[.slice (some ⟨b, off, none⟩) P.length vc, .int .i64 o1, .int .i64 o2, .bool o3] 41 (0, 0)) := heap_at (more w r1) (More.trans (by repeat (first | exact More.refl _ | refine More.alloc ?_ _ | refine More.more ?_ _ | refine More.drew ?_ | refine More.drewN ?_ _)) hMX2) (by simp)
      have LR2 : ∀ R, (loadWhole 25 ⟨b, off + k * 23, none⟩).run Try.prog (more v1 R) = .ok (sfV f) (more v1 R) := fun R => HALL.out _ (More.trans hMX2 ((More.refl _).more R))
      have LZ2 : (loadWhole 25 ⟨b, off + k * 23, none⟩).run Try.prog v1 = .ok (sfV f) v1 := HALL.out _ hMX2
      obtain ⟨lx2, ex20, ex21, ex22⟩ := iv_cells hbx2
      have ey2 : v1.cell? ⟨(w.heap.size + r1.len), 0, none⟩ = some (.slice (some ⟨b, off, none⟩) P.length vc) := by simp [World.cell?, hby2]
      have ly2 : (w.heap.size + r1.len) < v1.heap.size := (Array.getElem?_eq_some_iff.1 hby2).1
      have HMX2 := Lib.hid hMX2
      clear hMX2 hbx2 hby2
      have hsl := HSL.out
      obtain ⟨⟨z1, z2, z3⟩, hz⟩ : ∃ d, sagZ f ⟨x1, x2, x3⟩ = d := ⟨_, rfl⟩
      obtain ⟨⟨m1, m2, m3⟩, hm⟩ : ∃ d, sagM f ⟨x1, x2, x3⟩ = d := ⟨_, rfl⟩
      obtain ⟨⟨y1, y2, y3⟩, hy⟩ : ∃ d, sagZ f (hIn ⟨x1, x2, x3⟩ a4 a5) = d := ⟨_, rfl⟩
      obtain ⟨⟨n1, n2, n3⟩, hn⟩ : ∃ d, sagM f (hIn ⟨x1, x2, x3⟩ a4 a5) = d := ⟨_, rfl⟩
      rw [hz, hm, hy, hn] at hsl
      rw [hz] at h1v0
      rw [hm] at h2v0
      rw [hy] at h1v1
      rw [hn] at h2v1
      obtain ⟨i0, i1, i2, i3⟩ := iv_cells (heap_up hM01 h1v0)
      obtain ⟨i4, i5, i6, i7⟩ := iv_cells (heap_up hM01 h2v0)
      obtain ⟨j0, j1, j2, j3⟩ := iv_cells h1v1
      obtain ⟨j4, j5, j6, j7⟩ := iv_cells h2v1
      clear hM01 h1v0 h2v0 h1v1 h2v1 hz hm hy hn
      have hway : ivRight ⟨z1, z2, z3⟩ = false ∨ (ivRight ⟨z1, z2, z3⟩ = true ∧ ivInside ⟨y1, y2, y3⟩ ⟨z1, z2, z3⟩ = true ∧ ivInside ⟨n1, n2, n3⟩ ⟨m1, m2, m3⟩ = true) := by
        cases h : ivRight ⟨z1, z2, z3⟩
        · exact .inl rfl
        · exact .inr ⟨rfl, hsl h⟩
      clear hsl
      rcases hway with g1 | ⟨g1, g2, g3⟩
      all_goals
        go_upto_region 10 with (first | (first | (go_at_call 18; (with_reducible refine (right_c _ _).mono ?_); rintro e w' ⟨rfl, r, rfl⟩) | (go_at_call 18; (with_reducible refine (right_c ⟨_, _, _⟩ _).mono ?_); rintro e w' ⟨rfl, r, rfl⟩) | (go_at_call 37; (with_reducible refine (inside_c _ _ _).mono ?_); rintro e w' ⟨rfl, r, rfl⟩) | (go_at_call 37; (with_reducible refine (inside_c _ ⟨_, _, _⟩ _).mono ?_); rintro e w' ⟨rfl, r, rfl⟩) | (go_at_call 37; (with_reducible refine (inside_c ⟨_, _, _⟩ _ _).mono ?_); rintro e w' ⟨rfl, r, rfl⟩) | (go_at_call 37; (with_reducible refine (inside_c ⟨_, _, _⟩ ⟨_, _, _⟩ _).mono ?_); rintro e w' ⟨rfl, r, rfl⟩)))
        (first | (with_reducible refine wp_more_apartl_m (id := 10) 12 88 [9] [(23, #[.int .i64 0, .int .i64 0, .bool false])] ?_ ?_ ?_ ?_ ?_ ?_ ?_ ?_ ?_ ?_) | (refine wp_more_apartl (id := 10) 12 88 [9] [(23, #[.int .i64 0, .int .i64 0, .bool false])] ?_ ?_ ?_ ?_ ?_ ?_ ?_ ?_ ?_ ?_))
        · intro p hp; simp only [List.mem_cons, List.not_mem_nil, or_false] at hp; subst hp <;> first | exact new_iv
        · kernel_rfl
        · kernel_rfl
        · kernel_rfl
        · kernel_rfl
        · kernel_rfl
        · kernel_rfl
        · rfl
        · (intro _ _ _ _ _ h; exact h)
        simp only [List.take_succ_cons, List.take_zero, List.drop_succ_cons, List.drop_zero]
        (repeat (first | (refine loose_alloc 20 23 #[.int .i64 0, .int .i64 0, .bool false] new_iv rfl rfl rfl rfl (by simp) ?_) | (refine loose_alloc 21 23 #[.int .i64 0, .int .i64 0, .bool false] new_iv rfl rfl rfl rfl (by simp) ?_) | (refine loose_step rfl (fun K9 hK9 => ?_); go_simp; first | (refine hK9 _ ?_; clear hK9 K9) | (apply Exists.intro; refine ⟨fun _ => ?_, hK9 _ ?_⟩; ((first | (go_at_call 35; with_reducible exact sag_c f (ivPoint 0) _) | (go_at_call 14; with_reducible exact point_c _ _) | (go_at_call 35; with_reducible exact sag_c _ _ _) | (go_at_call 35; with_reducible exact sag_c _ ⟨_, _, _⟩ _) | (go_at_call 35; with_reducible exact sag_c ⟨_, _, ⟨_, _, _⟩, ⟨_, _, _⟩, ⟨_, _, _⟩, ⟨_, _, _⟩, ⟨_, _, _⟩, ⟨_, _, _⟩, ⟨_, _, _⟩⟩ ⟨_, _, _⟩ _))); clear hK9 K9))))
        intro r
        simp only [allFits]
        rintro _ ⟨b2', rfl, hb2', hc2'⟩ _ ⟨b1', rfl, hb1', hc1'⟩ hfar
        have n12 := hfar 10 11 _ _ _ _ 20 21 rfl rfl rfl rfl rfl rfl (by decide)
        simp [Act.put] at n12
        refine two_end 23 3 (.tmp 20) (.tmp 81) (.tmp 21) (.tmp 82) b1' b2' _ _ (cellsI (sagZ f (ivPoint 0))) (cellsI (sagM f (ivPoint 0))) rfl rfl rfl rfl rfl rfl rfl rfl rfl rfl size_ivT rfl rfl (by decide) (one_iv _ _ _) (one_iv _ _ _) ((More.refl _).more r) hb1' hb2' hc1' rfl hc2' rfl n12 ?_
        clear hfar n12 hb1' hb2' hc1' hc2'
        intro v2 hMv2 h1v2 h2v2
        refine wpList_nil ?_
        have hMX3 : More ((more ((more w r1).alloc (.cells #[.slice (some ⟨b, off, none⟩) P.length vc, .int .i64 o1, .int .i64 o2, .bool o3] 41)) rx).alloc (.cells #[.int .i64 x1, .int .i64 x2, .bool x3] 23)) v2 := More.trans HMX2.out (More.trans (by repeat (first | exact More.refl _ | refine More.alloc ?_ _ | refine More.more ?_ _ | refine More.drew ?_ | refine More.drewN ?_ _)) hMv2)
        have HMX3 := Lib.hid hMX3
        rw [HP0.out, HAX.out] at h1v2
        have hp0 := HP0.out
        obtain ⟨l0, l1, l2, l3⟩ := iv_cells h1v2
        clear hMX3 hMv2 h1v2 h2v2
        clear LR2 LZ2 lx2 ex20 ex21 ex22 ey2 ly2
        go_wp2_with (first | (first | (go_at_call 14; (with_reducible refine (point_c _ _).mono ?_); rintro e w' ⟨rfl, r, rfl⟩) | ((with_reducible show Code.wp _ (Code.region 11 _ true) _ _ _); (with_reducible refine wp_more_quick_m (id := 11) ?_ ?_ ?_); kernel_rfl; kernel_rfl; (try simp only [List.take_succ_cons, List.take_zero, List.drop_succ_cons, List.drop_zero]); (repeat (any_goals (first | go_big_quiet_step ((first | (go_at_call 14; (with_reducible apply quiet_call); with_reducible exact point_c _ _))) | quiet_step ((first | (go_at_call 14; (with_reducible apply quiet_call); with_reducible exact point_c _ _)))))); (with_reducible refine wpQuiet_nil ?_); intro r) | ((with_reducible show Code.wp _ (Code.region 11 _ true) _ _ _); (with_reducible refine wp_more_quick (id := 11) ?_ ?_ ?_); kernel_rfl; kernel_rfl; (try simp only [List.take_succ_cons, List.take_zero, List.drop_succ_cons, List.drop_zero]); (repeat (any_goals (first | go_big_quiet_step ((first | (go_at_call 14; (with_reducible apply quiet_call); with_reducible exact point_c _ _))) | quiet_step ((first | (go_at_call 14; (with_reducible apply quiet_call); with_reducible exact point_c _ _)))))); (with_reducible refine wpQuiet_nil ?_); intro r)))
        go_roundw
        case rel => (first | exact ⟨k + 1, by omega, rfl, More.trans HMX3.out (by repeat (first | exact More.refl _ | refine More.alloc ?_ _ | refine More.more ?_ _ | refine More.drew ?_ | refine More.drewN ?_ _))⟩ | ((repeat apply Exists.intro); exact ⟨⟨k + 1, by omega, rfl, More.trans HMX3.out (by repeat (first | exact More.refl _ | refine More.alloc ?_ _ | refine More.more ?_ _ | refine More.drew ?_ | refine More.drewN ?_ _))⟩, rfl⟩))
        case measure => simp [intOf] <;> omega
    · obtain rfl : k = P.length := by omega
      go_wp2_with (first | (first | (go_at_call 38; (with_reducible refine (known14_c _).mono ?_); rintro e w' ⟨rfl, r, rfl⟩)))
      go_returns
      exact ⟨rfl, (by repeat (first | exact More.refl _ | refine More.alloc ?_ _ | refine More.more ?_ _ | refine More.drew ?_ | refine More.drewN ?_ _))⟩
end Go.Proofs.Ytggohceeeggnmaa

