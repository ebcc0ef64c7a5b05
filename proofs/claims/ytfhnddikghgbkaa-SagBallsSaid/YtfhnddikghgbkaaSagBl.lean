/-
  SagBalls: the walk.
-/
import Derived.Test.YtfhnddikghgbkaaLaw14
import Derived.Test.YtfhnddikghgbkaaGr5
import Derived.Test.YtfhnddikghgbkaaReg8
import Derived.Test.YtfhnddikghgbkaaGm5
namespace Go.Proofs.Ytfhnddikghgbkaa
set_option linter.unusedVariables false
open Go.ChangeShapes Go.WideShapes Go.ChangeAt Go.RowKit

theorem size_al15 (W : World) (O : Obj) : (W.alloc O).heap.size = W.heap.size + 1 := by simp
theorem has_right {z : Iv} {n : Int} (h : ivHas z n = true) : ivRight z = true := by
  unfold ivHas at h
  rw [Bool.and_eq_true] at h
  exact h.1

set_option maxHeartbeats 16000000 in
set_option maxRecDepth 100000 in
theorem sagBalls_walk (w : World) (a0 : Int) (w0 : (Lit.int .i64 a0).wf = true) (a1 : Int) (w1 : (Lit.int .i64 a1).wf = true) (a2 : Int) (w2 : (Lit.int .i64 a2).wf = true) (a3 : Bool) :
    Calls Try.prog 4 #[.int .i64 a0, .int .i64 a1, .int .i64 a2, .bool a3] w fun e w' => e = .returned (.bool true) ∧ More w w' := by
  obtain ⟨b01, b02⟩ := bounds_i64 w0
  obtain ⟨b11, b12⟩ := bounds_i64 w1
  obtain ⟨b21, b22⟩ := bounds_i64 w2
  obtain ⟨m, hm⟩ : ∃ m, 2 + a0 % 3 = m := ⟨_, rfl⟩
  have m0 : 2 ≤ m := by omega
  have m1 : m ≤ 4 := by omega
  obtain ⟨n, hn⟩ : ∃ n, 1 + a1 % (m - 1) = n := ⟨_, rfl⟩
  have n0 : 1 ≤ n := by have := Int.emod_nonneg a1 (show m - 1 ≠ 0 by omega); omega
  have n1 : n < m := by have := Int.emod_lt_of_pos a1 (show 0 < m - 1 by omega); omega
  obtain ⟨k, hk⟩ : ∃ k, 1 + a2 % 20 = k := ⟨_, rfl⟩
  have k0 : 1 ≤ k := by omega
  have k1 : k ≤ 20 := by omega
  have hball := ball_has m0 m1 n0 n1 a3
  have hbowl := bowl_is m0 m1 n0 n1 k0 k1 a3
  unfold ballOk at hball
  unfold bowlOk at hbowl
  dsimp only at hball hbowl
  obtain ⟨M, hM⟩ : ∃ M, m * m = M := ⟨_, rfl⟩
  obtain ⟨N, hN⟩ : ∃ N, n * n = N := ⟨_, rfl⟩
  obtain ⟨Q, hQ⟩ : ∃ Q, 2 * m * n = Q := ⟨_, rfl⟩
  obtain ⟨PP, hPP⟩ : ∃ PP, (M - N) * (M - N) = PP := ⟨_, rfl⟩
  rw [hM, hN, hPP] at hball hbowl
  rw [hQ] at hball
  have hb : (4 ≤ M ∧ M ≤ 16) ∧ (1 ≤ N ∧ N ≤ 9) ∧ (4 ≤ Q ∧ Q ≤ 24) ∧ (0 ≤ PP ∧ PP ≤ 225) := by
    rcases (show m = 2 ∨ m = 3 ∨ m = 4 by omega) with h | h | h <;> rcases (show n = 1 ∨ n = 2 ∨ n = 3 by omega) with g | g | g <;> (rw [h] at hM hQ; rw [g] at hN hQ; rw [← hM, ← hN] at hPP; omega)
  obtain ⟨⟨M0, M1⟩, ⟨N0, N1⟩, ⟨Q0, Q1⟩, P0, P1⟩ := hb
  obtain ⟨v, hv⟩ : ∃ v, M + N - Q = v := ⟨_, rfl⟩
  have v0 : -100 ≤ v ∧ v ≤ 100 := by omega
  obtain ⟨v1, v2⟩ := v0
  rw [hv] at hball
  have eP : IntKind.i64.wrap PP = PP := IntWalk.i64_in _ ⟨by omega, by omega⟩
  have E := eql_same
  obtain ⟨⟨c1, c2, c3⟩, hc⟩ : ∃ d, ivDiv (ivWhole 1) (ivWhole (M + N)) = d := ⟨_, rfl⟩
  obtain ⟨⟨d1, d2, d3⟩, hd⟩ : ∃ d, ivPoint (k * 512) = d := ⟨_, rfl⟩
  rw [hc] at hball
  rw [hd] at hbowl
  have hp0 : ivPoint 0 = ⟨0, 0, false⟩ := by kernel_rfl
  go_enter Try.func4, Try.ntmps4
  go_upto_if 64 with (first | (go_at_call 16; (with_reducible refine (flat14_c _).mono ?_); rintro e w' ⟨rfl, r, rfl⟩) | (first | (go_at_call 9; (with_reducible refine (pick_c _ _ (by omega) (by omega) (by omega) (by omega) _).mono ?_); rintro e w' ⟨rfl, rfl⟩) | (go_at_call 14; (with_reducible refine (point_c _ _).mono ?_); rintro e w' ⟨rfl, r, rfl⟩) | (go_at_call 17; (with_reducible refine (idiv_c _ _ _).mono ?_); rintro e w' ⟨rfl, r, rfl⟩) | (go_at_call 17; (with_reducible refine (idiv_c _ ⟨_, _, _⟩ _).mono ?_); rintro e w' ⟨rfl, r, rfl⟩) | (go_at_call 17; (with_reducible refine (idiv_c ⟨_, _, _⟩ _ _).mono ?_); rintro e w' ⟨rfl, r, rfl⟩) | (go_at_call 17; (with_reducible refine (idiv_c ⟨_, _, _⟩ ⟨_, _, _⟩ _).mono ?_); rintro e w' ⟨rfl, r, rfl⟩) | (go_at_call 18; (with_reducible refine (whole_c _ _).mono ?_); rintro e w' ⟨rfl, r, rfl⟩)))
  cases a3 with
  | false =>
    simp only [if_false, Bool.false_eq_true] at hball hbowl
    obtain ⟨PK, hPK⟩ : ∃ PK, PP * k = PK := ⟨_, rfl⟩
    have pkb : 0 ≤ PK ∧ PK ≤ 4500 := by
      have := Int.mul_le_mul_of_nonneg_left (show k ≤ 20 by omega) P0
      have := Int.mul_nonneg P0 (show 0 ≤ k by omega)
      omega
    obtain ⟨pk0, pk1⟩ := pkb
    rw [hPK] at hbowl
    have eK : IntKind.i64.wrap PK = PK := IntWalk.i64_in _ ⟨by omega, by omega⟩
    have eK2 : IntKind.i64.wrap (PK * 256) = PK * 256 := IntWalk.i64_in _ ⟨by omega, by omega⟩
    have eK3 : IntKind.i64.wrap (k * 256) = k * 256 := IntWalk.i64_in _ ⟨by omega, by omega⟩
    have eV : IntKind.i64.wrap (v * 65536) = v * 65536 := IntWalk.i64_in _ ⟨by omega, by omega⟩
    unfold ballS at hball hbowl
    have HBA := Lib.hid hball
    have HBO := Lib.hid hbowl
    clear hball hbowl
    go_upto_region 18 with (first | (first | (go_at_call 19; (with_reducible refine (neg_c _ _).mono ?_); rintro e w' ⟨rfl, r, rfl⟩) | (go_at_call 19; (with_reducible refine (neg_c ⟨_, _, _⟩ _).mono ?_); rintro e w' ⟨rfl, r, rfl⟩)))
    (first | (with_reducible refine wp_more_apartl_m (id := 18) 11 124 [8] [(25, #[.int .i64 0, .int .i64 0, .bool false])] ?_ ?_ ?_ ?_ ?_ ?_ ?_ ?_ ?_ ?_) | (refine wp_more_apartl (id := 18) 11 124 [8] [(25, #[.int .i64 0, .int .i64 0, .bool false])] ?_ ?_ ?_ ?_ ?_ ?_ ?_ ?_ ?_ ?_))
    · intro p hp; simp only [List.mem_cons, List.not_mem_nil, or_false] at hp; subst hp <;> first | exact new_iv
    · kernel_rfl
    · kernel_rfl
    · kernel_rfl
    · kernel_rfl
    · kernel_rfl
    · kernel_rfl
    · rfl
    · (intro _ _ _ _ _ h; exact h)
    simp only [List.take_succ_cons, List.take_zero, List.drop_succ_cons, List.drop_zero]
    (repeat (first | (refine loose_alloc 15 25 #[.int .i64 0, .int .i64 0, .bool false] new_iv rfl rfl rfl rfl (by simp) ?_) | (refine loose_alloc 16 25 #[.int .i64 0, .int .i64 0, .bool false] new_iv rfl rfl rfl rfl (by simp) ?_) | (refine loose_step rfl (fun K9 hK9 => ?_); go_simp; first | (refine hK9 _ ?_; clear hK9 K9) | (apply Exists.intro; refine ⟨fun _ => ?_, hK9 _ ?_⟩; ((first | (go_at_call 10; with_reducible exact sag_c ⟨false, false, ⟨c1, c2, c3⟩, ⟨65536, 65536, false⟩, ⟨0, 0, false⟩, ⟨0, 0, false⟩, ⟨0, 0, false⟩, ⟨6553600, 6553600, false⟩, ⟨65536, 65536, false⟩⟩ (ivWhole PP) _) | (go_at_call 10; with_reducible exact sag_c _ _ _) | (go_at_call 10; with_reducible exact sag_c _ ⟨_, _, _⟩ _) | (go_at_call 10; with_reducible exact sag_c ⟨_, _, ⟨_, _, _⟩, ⟨_, _, _⟩, ⟨_, _, _⟩, ⟨_, _, _⟩, ⟨_, _, _⟩, ⟨_, _, _⟩, ⟨_, _, _⟩⟩ ⟨_, _, _⟩ _) | (go_at_call 18; with_reducible exact whole_c _ _))); clear hK9 K9))))
    intro r
    simp only [allFits]
    rintro _ ⟨b2', rfl, hb2', hc2'⟩ _ ⟨b1', rfl, hb1', hc1'⟩ hfar
    have n12 := hfar 9 10 _ _ _ _ 15 16 rfl rfl rfl rfl rfl rfl (by decide)
    simp [Act.put] at n12
    refine two_end 25 3 (.tmp 15) (.tmp 84) (.tmp 16) (.tmp 85) b1' b2' _ _ (cellsI (sagZ ⟨false, false, ⟨c1, c2, c3⟩, ⟨65536, 65536, false⟩, ⟨0, 0, false⟩, ⟨0, 0, false⟩, ⟨0, 0, false⟩, ⟨6553600, 6553600, false⟩, ⟨65536, 65536, false⟩⟩ (ivWhole PP))) (cellsI (sagM ⟨false, false, ⟨c1, c2, c3⟩, ⟨65536, 65536, false⟩, ⟨0, 0, false⟩, ⟨0, 0, false⟩, ⟨0, 0, false⟩, ⟨6553600, 6553600, false⟩, ⟨65536, 65536, false⟩⟩ (ivWhole PP))) rfl rfl rfl rfl rfl rfl rfl rfl rfl rfl size_ivT rfl rfl (by decide) (one_iv _ _ _) (one_iv _ _ _) ((More.refl _).more r) hb1' hb2' hc1' rfl hc2' rfl n12 ?_
    clear hfar n12 hb1' hb2' hc1' hc2'
    intro V0 hMV0 h1V0 h2V0
    refine wpList_nil ?_
    have M0 : More w V0 := More.trans (by repeat (first | exact More.refl _ | refine More.alloc ?_ _ | refine More.more ?_ _ | refine More.drew ?_ | refine More.drewN ?_ _)) hMV0
    have hb0 := heap_at (O := .cells #[.bool false, .bool false, .int .i64 d1, .int .i64 d2, .bool d3, .int .i64 0, .int .i64 0, .bool false, .int .i64 0, .int .i64 0, .bool false, .int .i64 0, .int .i64 0, .bool false, .int .i64 0, .int .i64 0, .bool false, .int .i64 6553600, .int .i64 6553600, .bool false, .int .i64 65536, .int .i64 65536, .bool false] 34) _ hMV0 rfl
    simp only [size_more, size_al15, Nat.add_assoc] at hb0
    have LB := load_sfat (s := ⟨false, false, ⟨d1, d2, d3⟩, ⟨0, 0, false⟩, ⟨0, 0, false⟩, ⟨0, 0, false⟩, ⟨0, 0, false⟩, ⟨6553600, 6553600, false⟩, ⟨65536, 65536, false⟩⟩) hb0
    have LB2 : ∀ R, (loadWhole 34 ⟨_, 0, none⟩).run Try.prog (more V0 R) = _ := fun R => load_sfat (s := ⟨false, false, ⟨d1, d2, d3⟩, ⟨0, 0, false⟩, ⟨0, 0, false⟩, ⟨0, 0, false⟩, ⟨0, 0, false⟩, ⟨6553600, 6553600, false⟩, ⟨65536, 65536, false⟩⟩) (OkSfAt.up (s := ⟨false, false, ⟨d1, d2, d3⟩, ⟨0, 0, false⟩, ⟨0, 0, false⟩, ⟨0, 0, false⟩, ⟨0, 0, false⟩, ⟨6553600, 6553600, false⟩, ⟨65536, 65536, false⟩⟩) hb0 ((More.refl _).more R))
    clear hMV0 h2V0 hb0
    go_upto_region 19 with fail
    (first | (with_reducible refine wp_more_apartl_m (id := 19) 11 124 [8] [(25, #[.int .i64 0, .int .i64 0, .bool false])] ?_ ?_ ?_ ?_ ?_ ?_ ?_ ?_ ?_ ?_) | (refine wp_more_apartl (id := 19) 11 124 [8] [(25, #[.int .i64 0, .int .i64 0, .bool false])] ?_ ?_ ?_ ?_ ?_ ?_ ?_ ?_ ?_ ?_))
    · intro p hp; simp only [List.mem_cons, List.not_mem_nil, or_false] at hp; subst hp <;> first | exact new_iv
    · kernel_rfl
    · kernel_rfl
    · kernel_rfl
    · kernel_rfl
    · kernel_rfl
    · kernel_rfl
    · rfl
    · (intro _ _ _ _ _ h; exact h)
    simp only [List.take_succ_cons, List.take_zero, List.drop_succ_cons, List.drop_zero]
    (repeat (first | (refine loose_alloc 17 25 #[.int .i64 0, .int .i64 0, .bool false] new_iv rfl rfl rfl rfl (by simp) ?_) | (refine loose_alloc 18 25 #[.int .i64 0, .int .i64 0, .bool false] new_iv rfl rfl rfl rfl (by simp) ?_) | (refine loose_step rfl (fun K9 hK9 => ?_); go_simp; first | (refine hK9 _ ?_; clear hK9 K9) | (apply Exists.intro; refine ⟨fun _ => ?_, hK9 _ ?_⟩; ((first | (go_at_call 10; with_reducible exact sag_c ⟨false, false, ⟨d1, d2, d3⟩, ⟨0, 0, false⟩, ⟨0, 0, false⟩, ⟨0, 0, false⟩, ⟨0, 0, false⟩, ⟨6553600, 6553600, false⟩, ⟨65536, 65536, false⟩⟩ (ivWhole PP) _) | (go_at_call 10; with_reducible exact sag_c _ _ _) | (go_at_call 10; with_reducible exact sag_c _ ⟨_, _, _⟩ _) | (go_at_call 10; with_reducible exact sag_c ⟨_, _, ⟨_, _, _⟩, ⟨_, _, _⟩, ⟨_, _, _⟩, ⟨_, _, _⟩, ⟨_, _, _⟩, ⟨_, _, _⟩, ⟨_, _, _⟩⟩ ⟨_, _, _⟩ _) | (go_at_call 18; with_reducible exact whole_c _ _))); clear hK9 K9))))
    intro r
    simp only [allFits]
    rintro _ ⟨b2', rfl, hb2', hc2'⟩ _ ⟨b1', rfl, hb1', hc1'⟩ hfar
    have n12 := hfar 9 10 _ _ _ _ 17 18 rfl rfl rfl rfl rfl rfl (by decide)
    simp [Act.put] at n12
    refine two_end 25 3 (.tmp 17) (.tmp 93) (.tmp 18) (.tmp 94) b1' b2' _ _ (cellsI (sagZ ⟨false, false, ⟨d1, d2, d3⟩, ⟨0, 0, false⟩, ⟨0, 0, false⟩, ⟨0, 0, false⟩, ⟨0, 0, false⟩, ⟨6553600, 6553600, false⟩, ⟨65536, 65536, false⟩⟩ (ivWhole PP))) (cellsI (sagM ⟨false, false, ⟨d1, d2, d3⟩, ⟨0, 0, false⟩, ⟨0, 0, false⟩, ⟨0, 0, false⟩, ⟨0, 0, false⟩, ⟨6553600, 6553600, false⟩, ⟨65536, 65536, false⟩⟩ (ivWhole PP))) rfl rfl rfl rfl rfl rfl rfl rfl rfl rfl size_ivT rfl rfl (by decide) (one_iv _ _ _) (one_iv _ _ _) ((More.refl _).more r) hb1' hb2' hc1' rfl hc2' rfl n12 ?_
    clear hfar n12 hb1' hb2' hc1' hc2'
    intro V1 hMV1 h1V1 h2V1
    refine wpList_nil ?_
    have M01 : More V0 V1 := More.trans (by repeat (first | exact More.refl _ | refine More.alloc ?_ _ | refine More.more ?_ _ | refine More.drew ?_ | refine More.drewN ?_ _)) hMV1
    clear hMV1 LB LB2
    have hball := HBA.out
    have hbowl := HBO.out
    obtain ⟨⟨z1, z2, z3⟩, hz⟩ : ∃ d, sagZ ⟨false, false, ⟨c1, c2, c3⟩, ⟨65536, 65536, false⟩, ⟨0, 0, false⟩, ⟨0, 0, false⟩, ⟨0, 0, false⟩, ⟨6553600, 6553600, false⟩, ⟨65536, 65536, false⟩⟩ (ivWhole PP) = d := ⟨_, rfl⟩
    obtain ⟨⟨y1, y2, y3⟩, hy⟩ : ∃ d, sagZ ⟨false, false, ⟨d1, d2, d3⟩, ⟨0, 0, false⟩, ⟨0, 0, false⟩, ⟨0, 0, false⟩, ⟨0, 0, false⟩, ⟨6553600, 6553600, false⟩, ⟨65536, 65536, false⟩⟩ (ivWhole PP) = d := ⟨_, rfl⟩
    obtain ⟨⟨s1, s2, s3⟩, hs⟩ : ∃ d, sagM ⟨false, false, ⟨d1, d2, d3⟩, ⟨0, 0, false⟩, ⟨0, 0, false⟩, ⟨0, 0, false⟩, ⟨0, 0, false⟩, ⟨6553600, 6553600, false⟩, ⟨65536, 65536, false⟩⟩ (ivWhole PP) = d := ⟨_, rfl⟩
    rw [hz] at hball h1V0
    rw [hy] at h1V1
    rw [hs] at h2V1
    rw [hy, hs, Bool.and_eq_true] at hbowl
    obtain ⟨q1, q2⟩ := hbowl
    have hq1 := (ivEq_iff.1 q1).symm
    have hq2 := (ivEq_iff.1 q2).symm
    have hzr := has_right hball
    clear q1 q2 hz hy hs HBA HBO
    obtain ⟨l0, e0, e1, e2⟩ := iv_cells (heap_up M01 h1V0)
    obtain ⟨l1, e3, e4, e5⟩ := iv_cells h1V1
    obtain ⟨l2, e6, e7, e8⟩ := iv_cells h2V1
    have MW : More w V1 := More.trans M0 M01
    clear h1V0 h1V1 h2V1 M0 M01
    go_upto_region 20 with fail
    go_simp
    go_wp2_with (first | (first | (go_at_call 14; (with_reducible refine (point_c _ _).mono ?_); rintro e w' ⟨rfl, r, rfl⟩) | (go_at_call 15; (with_reducible refine (known14_c _).mono ?_); rintro e w' ⟨rfl, r, rfl⟩) | (go_at_call 20; (with_reducible refine (has_c _ _ _).mono ?_); rintro e w' ⟨rfl, r, rfl⟩) | (go_at_call 20; (with_reducible refine (has_c ⟨_, _, _⟩ _ _).mono ?_); rintro e w' ⟨rfl, r, rfl⟩) | (go_at_call 21; (with_reducible refine (rright_c _ _).mono ?_); rintro e w' ⟨rfl, r, rfl⟩) | (go_at_call 21; (with_reducible refine (rright_c ⟨_, _, _⟩ _).mono ?_); rintro e w' ⟨rfl, r, rfl⟩) | ((with_reducible show Code.wp _ (Code.region 20 _ true) _ _ _); (with_reducible refine wp_more_quick_m (id := 20) ?_ ?_ ?_); kernel_rfl; kernel_rfl; (try simp only [List.take_succ_cons, List.take_zero, List.drop_succ_cons, List.drop_zero]); (repeat (any_goals (first | go_big_quiet_step ((first | (go_at_call 14; (with_reducible apply quiet_call); with_reducible exact point_c _ _) | (go_at_call 15; (with_reducible apply quiet_call); with_reducible exact known14_c _) | (go_at_call 20; (with_reducible apply quiet_call_b); (with_reducible exact has_c _ _ _); with_reducible assumption) | (go_at_call 20; (with_reducible apply quiet_call); with_reducible exact has_c _ _ _) | (go_at_call 20; (with_reducible apply quiet_call_b); (with_reducible exact has_c ⟨_, _, _⟩ _ _); with_reducible assumption) | (go_at_call 20; (with_reducible apply quiet_call); with_reducible exact has_c ⟨_, _, _⟩ _ _) | (go_at_call 21; (with_reducible apply quiet_call_b); (with_reducible exact rright_c _ _); with_reducible assumption) | (go_at_call 21; (with_reducible apply quiet_call); with_reducible exact rright_c _ _) | (go_at_call 21; (with_reducible apply quiet_call_b); (with_reducible exact rright_c ⟨_, _, _⟩ _); with_reducible assumption) | (go_at_call 21; (with_reducible apply quiet_call); with_reducible exact rright_c ⟨_, _, _⟩ _))) | quiet_step ((first | (go_at_call 14; (with_reducible apply quiet_call); with_reducible exact point_c _ _) | (go_at_call 15; (with_reducible apply quiet_call); with_reducible exact known14_c _) | (go_at_call 20; (with_reducible apply quiet_call_b); (with_reducible exact has_c _ _ _); with_reducible assumption) | (go_at_call 20; (with_reducible apply quiet_call); with_reducible exact has_c _ _ _) | (go_at_call 20; (with_reducible apply quiet_call_b); (with_reducible exact has_c ⟨_, _, _⟩ _ _); with_reducible assumption) | (go_at_call 20; (with_reducible apply quiet_call); with_reducible exact has_c ⟨_, _, _⟩ _ _) | (go_at_call 21; (with_reducible apply quiet_call_b); (with_reducible exact rright_c _ _); with_reducible assumption) | (go_at_call 21; (with_reducible apply quiet_call); with_reducible exact rright_c _ _) | (go_at_call 21; (with_reducible apply quiet_call_b); (with_reducible exact rright_c ⟨_, _, _⟩ _); with_reducible assumption) | (go_at_call 21; (with_reducible apply quiet_call); with_reducible exact rright_c ⟨_, _, _⟩ _)))))); (with_reducible refine wpQuiet_nil ?_); intro r) | ((with_reducible show Code.wp _ (Code.region 20 _ true) _ _ _); (with_reducible refine wp_more_quick (id := 20) ?_ ?_ ?_); kernel_rfl; kernel_rfl; (try simp only [List.take_succ_cons, List.take_zero, List.drop_succ_cons, List.drop_zero]); (repeat (any_goals (first | go_big_quiet_step ((first | (go_at_call 14; (with_reducible apply quiet_call); with_reducible exact point_c _ _) | (go_at_call 15; (with_reducible apply quiet_call); with_reducible exact known14_c _) | (go_at_call 20; (with_reducible apply quiet_call_b); (with_reducible exact has_c _ _ _); with_reducible assumption) | (go_at_call 20; (with_reducible apply quiet_call); with_reducible exact has_c _ _ _) | (go_at_call 20; (with_reducible apply quiet_call_b); (with_reducible exact has_c ⟨_, _, _⟩ _ _); with_reducible assumption) | (go_at_call 20; (with_reducible apply quiet_call); with_reducible exact has_c ⟨_, _, _⟩ _ _) | (go_at_call 21; (with_reducible apply quiet_call_b); (with_reducible exact rright_c _ _); with_reducible assumption) | (go_at_call 21; (with_reducible apply quiet_call); with_reducible exact rright_c _ _) | (go_at_call 21; (with_reducible apply quiet_call_b); (with_reducible exact rright_c ⟨_, _, _⟩ _); with_reducible assumption) | (go_at_call 21; (with_reducible apply quiet_call); with_reducible exact rright_c ⟨_, _, _⟩ _))) | quiet_step ((first | (go_at_call 14; (with_reducible apply quiet_call); with_reducible exact point_c _ _) | (go_at_call 15; (with_reducible apply quiet_call); with_reducible exact known14_c _) | (go_at_call 20; (with_reducible apply quiet_call_b); (with_reducible exact has_c _ _ _); with_reducible assumption) | (go_at_call 20; (with_reducible apply quiet_call); with_reducible exact has_c _ _ _) | (go_at_call 20; (with_reducible apply quiet_call_b); (with_reducible exact has_c ⟨_, _, _⟩ _ _); with_reducible assumption) | (go_at_call 20; (with_reducible apply quiet_call); with_reducible exact has_c ⟨_, _, _⟩ _ _) | (go_at_call 21; (with_reducible apply quiet_call_b); (with_reducible exact rright_c _ _); with_reducible assumption) | (go_at_call 21; (with_reducible apply quiet_call); with_reducible exact rright_c _ _) | (go_at_call 21; (with_reducible apply quiet_call_b); (with_reducible exact rright_c ⟨_, _, _⟩ _); with_reducible assumption) | (go_at_call 21; (with_reducible apply quiet_call); with_reducible exact rright_c ⟨_, _, _⟩ _)))))); (with_reducible refine wpQuiet_nil ?_); intro r)))
    go_returns
    exact ⟨rfl, More.trans MW (by repeat (first | exact More.refl _ | refine More.alloc ?_ _ | refine More.more ?_ _ | refine More.drew ?_ | refine More.drewN ?_ _))⟩
  | true =>
    simp only [if_true] at hball hbowl
    obtain ⟨⟨g1, g2, g3⟩, hg⟩ : ∃ d, ivNeg ⟨c1, c2, c3⟩ = d := ⟨_, rfl⟩
    obtain ⟨⟨j1, j2, j3⟩, hj⟩ : ∃ d, ivNeg ⟨d1, d2, d3⟩ = d := ⟨_, rfl⟩
    rw [hg] at hball
    rw [hj] at hbowl
    obtain ⟨kk, hkk⟩ : ∃ kk, -k = kk := ⟨_, rfl⟩
    obtain ⟨u, hu⟩ : ∃ u, -v = u := ⟨_, rfl⟩
    rw [hkk] at hbowl
    rw [hu] at hball
    have kb : -20 ≤ kk ∧ kk ≤ -1 := by omega
    have ub : -100 ≤ u ∧ u ≤ 100 := by omega
    obtain ⟨kb0, kb1⟩ := kb
    obtain ⟨ub0, ub1⟩ := ub
    obtain ⟨PK, hPK⟩ : ∃ PK, PP * kk = PK := ⟨_, rfl⟩
    have pkb : -4500 ≤ PK ∧ PK ≤ 0 := by
      have := Int.mul_le_mul_of_nonneg_left (show -20 ≤ kk by omega) P0
      have := Int.mul_le_mul_of_nonneg_left (show kk ≤ 0 by omega) P0
      omega
    obtain ⟨pk0, pk1⟩ := pkb
    rw [hPK] at hbowl
    have eK : IntKind.i64.wrap PK = PK := IntWalk.i64_in _ ⟨by omega, by omega⟩
    have eK2 : IntKind.i64.wrap (PK * 256) = PK * 256 := IntWalk.i64_in _ ⟨by omega, by omega⟩
    have eK3 : IntKind.i64.wrap (kk * 256) = kk * 256 := IntWalk.i64_in _ ⟨by omega, by omega⟩
    have eV : IntKind.i64.wrap (u * 65536) = u * 65536 := IntWalk.i64_in _ ⟨by omega, by omega⟩
    unfold ballS at hball hbowl
    have HBA := Lib.hid hball
    have HBO := Lib.hid hbowl
    clear hball hbowl
    go_upto_region 18 with (first | (first | (go_at_call 19; (with_reducible refine (neg_c _ _).mono ?_); rintro e w' ⟨rfl, r, rfl⟩) | (go_at_call 19; (with_reducible refine (neg_c ⟨_, _, _⟩ _).mono ?_); rintro e w' ⟨rfl, r, rfl⟩)))
    (first | (with_reducible refine wp_more_apartl_m (id := 18) 11 124 [8] [(25, #[.int .i64 0, .int .i64 0, .bool false])] ?_ ?_ ?_ ?_ ?_ ?_ ?_ ?_ ?_ ?_) | (refine wp_more_apartl (id := 18) 11 124 [8] [(25, #[.int .i64 0, .int .i64 0, .bool false])] ?_ ?_ ?_ ?_ ?_ ?_ ?_ ?_ ?_ ?_))
    · intro p hp; simp only [List.mem_cons, List.not_mem_nil, or_false] at hp; subst hp <;> first | exact new_iv
    · kernel_rfl
    · kernel_rfl
    · kernel_rfl
    · kernel_rfl
    · kernel_rfl
    · kernel_rfl
    · rfl
    · (intro _ _ _ _ _ h; exact h)
    simp only [List.take_succ_cons, List.take_zero, List.drop_succ_cons, List.drop_zero]
    (repeat (first | (refine loose_alloc 15 25 #[.int .i64 0, .int .i64 0, .bool false] new_iv rfl rfl rfl rfl (by simp) ?_) | (refine loose_alloc 16 25 #[.int .i64 0, .int .i64 0, .bool false] new_iv rfl rfl rfl rfl (by simp) ?_) | (refine loose_step rfl (fun K9 hK9 => ?_); go_simp; first | (refine hK9 _ ?_; clear hK9 K9) | (apply Exists.intro; refine ⟨fun _ => ?_, hK9 _ ?_⟩; ((first | (go_at_call 10; with_reducible exact sag_c ⟨false, false, ⟨g1, g2, g3⟩, ⟨65536, 65536, false⟩, ⟨0, 0, false⟩, ⟨0, 0, false⟩, ⟨0, 0, false⟩, ⟨6553600, 6553600, false⟩, ⟨65536, 65536, false⟩⟩ (ivWhole PP) _) | (go_at_call 10; with_reducible exact sag_c _ _ _) | (go_at_call 10; with_reducible exact sag_c _ ⟨_, _, _⟩ _) | (go_at_call 10; with_reducible exact sag_c ⟨_, _, ⟨_, _, _⟩, ⟨_, _, _⟩, ⟨_, _, _⟩, ⟨_, _, _⟩, ⟨_, _, _⟩, ⟨_, _, _⟩, ⟨_, _, _⟩⟩ ⟨_, _, _⟩ _) | (go_at_call 18; with_reducible exact whole_c _ _))); clear hK9 K9))))
    intro r
    simp only [allFits]
    rintro _ ⟨b2', rfl, hb2', hc2'⟩ _ ⟨b1', rfl, hb1', hc1'⟩ hfar
    have n12 := hfar 9 10 _ _ _ _ 15 16 rfl rfl rfl rfl rfl rfl (by decide)
    simp [Act.put] at n12
    refine two_end 25 3 (.tmp 15) (.tmp 84) (.tmp 16) (.tmp 85) b1' b2' _ _ (cellsI (sagZ ⟨false, false, ⟨g1, g2, g3⟩, ⟨65536, 65536, false⟩, ⟨0, 0, false⟩, ⟨0, 0, false⟩, ⟨0, 0, false⟩, ⟨6553600, 6553600, false⟩, ⟨65536, 65536, false⟩⟩ (ivWhole PP))) (cellsI (sagM ⟨false, false, ⟨g1, g2, g3⟩, ⟨65536, 65536, false⟩, ⟨0, 0, false⟩, ⟨0, 0, false⟩, ⟨0, 0, false⟩, ⟨6553600, 6553600, false⟩, ⟨65536, 65536, false⟩⟩ (ivWhole PP))) rfl rfl rfl rfl rfl rfl rfl rfl rfl rfl size_ivT rfl rfl (by decide) (one_iv _ _ _) (one_iv _ _ _) ((More.refl _).more r) hb1' hb2' hc1' rfl hc2' rfl n12 ?_
    clear hfar n12 hb1' hb2' hc1' hc2'
    intro V0 hMV0 h1V0 h2V0
    refine wpList_nil ?_
    have M0 : More w V0 := More.trans (by repeat (first | exact More.refl _ | refine More.alloc ?_ _ | refine More.more ?_ _ | refine More.drew ?_ | refine More.drewN ?_ _)) hMV0
    have hb0 := heap_at (O := .cells #[.bool false, .bool false, .int .i64 j1, .int .i64 j2, .bool j3, .int .i64 0, .int .i64 0, .bool false, .int .i64 0, .int .i64 0, .bool false, .int .i64 0, .int .i64 0, .bool false, .int .i64 0, .int .i64 0, .bool false, .int .i64 6553600, .int .i64 6553600, .bool false, .int .i64 65536, .int .i64 65536, .bool false] 34) _ hMV0 rfl
    simp only [size_more, size_al15, Nat.add_assoc] at hb0
    have LB := load_sfat (s := ⟨false, false, ⟨j1, j2, j3⟩, ⟨0, 0, false⟩, ⟨0, 0, false⟩, ⟨0, 0, false⟩, ⟨0, 0, false⟩, ⟨6553600, 6553600, false⟩, ⟨65536, 65536, false⟩⟩) hb0
    have LB2 : ∀ R, (loadWhole 34 ⟨_, 0, none⟩).run Try.prog (more V0 R) = _ := fun R => load_sfat (s := ⟨false, false, ⟨j1, j2, j3⟩, ⟨0, 0, false⟩, ⟨0, 0, false⟩, ⟨0, 0, false⟩, ⟨0, 0, false⟩, ⟨6553600, 6553600, false⟩, ⟨65536, 65536, false⟩⟩) (OkSfAt.up (s := ⟨false, false, ⟨j1, j2, j3⟩, ⟨0, 0, false⟩, ⟨0, 0, false⟩, ⟨0, 0, false⟩, ⟨0, 0, false⟩, ⟨6553600, 6553600, false⟩, ⟨65536, 65536, false⟩⟩) hb0 ((More.refl _).more R))
    clear hMV0 h2V0 hb0
    go_upto_region 19 with fail
    (first | (with_reducible refine wp_more_apartl_m (id := 19) 11 124 [8] [(25, #[.int .i64 0, .int .i64 0, .bool false])] ?_ ?_ ?_ ?_ ?_ ?_ ?_ ?_ ?_ ?_) | (refine wp_more_apartl (id := 19) 11 124 [8] [(25, #[.int .i64 0, .int .i64 0, .bool false])] ?_ ?_ ?_ ?_ ?_ ?_ ?_ ?_ ?_ ?_))
    · intro p hp; simp only [List.mem_cons, List.not_mem_nil, or_false] at hp; subst hp <;> first | exact new_iv
    · kernel_rfl
    · kernel_rfl
    · kernel_rfl
    · kernel_rfl
    · kernel_rfl
    · kernel_rfl
    · rfl
    · (intro _ _ _ _ _ h; exact h)
    simp only [List.take_succ_cons, List.take_zero, List.drop_succ_cons, List.drop_zero]
    (repeat (first | (refine loose_alloc 17 25 #[.int .i64 0, .int .i64 0, .bool false] new_iv rfl rfl rfl rfl (by simp) ?_) | (refine loose_alloc 18 25 #[.int .i64 0, .int .i64 0, .bool false] new_iv rfl rfl rfl rfl (by simp) ?_) | (refine loose_step rfl (fun K9 hK9 => ?_); go_simp; first | (refine hK9 _ ?_; clear hK9 K9) | (apply Exists.intro; refine ⟨fun _ => ?_, hK9 _ ?_⟩; ((first | (go_at_call 10; with_reducible exact sag_c ⟨false, false, ⟨j1, j2, j3⟩, ⟨0, 0, false⟩, ⟨0, 0, false⟩, ⟨0, 0, false⟩, ⟨0, 0, false⟩, ⟨6553600, 6553600, false⟩, ⟨65536, 65536, false⟩⟩ (ivWhole PP) _) | (go_at_call 10; with_reducible exact sag_c _ _ _) | (go_at_call 10; with_reducible exact sag_c _ ⟨_, _, _⟩ _) | (go_at_call 10; with_reducible exact sag_c ⟨_, _, ⟨_, _, _⟩, ⟨_, _, _⟩, ⟨_, _, _⟩, ⟨_, _, _⟩, ⟨_, _, _⟩, ⟨_, _, _⟩, ⟨_, _, _⟩⟩ ⟨_, _, _⟩ _) | (go_at_call 18; with_reducible exact whole_c _ _))); clear hK9 K9))))
    intro r
    simp only [allFits]
    rintro _ ⟨b2', rfl, hb2', hc2'⟩ _ ⟨b1', rfl, hb1', hc1'⟩ hfar
    have n12 := hfar 9 10 _ _ _ _ 17 18 rfl rfl rfl rfl rfl rfl (by decide)
    simp [Act.put] at n12
    refine two_end 25 3 (.tmp 17) (.tmp 93) (.tmp 18) (.tmp 94) b1' b2' _ _ (cellsI (sagZ ⟨false, false, ⟨j1, j2, j3⟩, ⟨0, 0, false⟩, ⟨0, 0, false⟩, ⟨0, 0, false⟩, ⟨0, 0, false⟩, ⟨6553600, 6553600, false⟩, ⟨65536, 65536, false⟩⟩ (ivWhole PP))) (cellsI (sagM ⟨false, false, ⟨j1, j2, j3⟩, ⟨0, 0, false⟩, ⟨0, 0, false⟩, ⟨0, 0, false⟩, ⟨0, 0, false⟩, ⟨6553600, 6553600, false⟩, ⟨65536, 65536, false⟩⟩ (ivWhole PP))) rfl rfl rfl rfl rfl rfl rfl rfl rfl rfl size_ivT rfl rfl (by decide) (one_iv _ _ _) (one_iv _ _ _) ((More.refl _).more r) hb1' hb2' hc1' rfl hc2' rfl n12 ?_
    clear hfar n12 hb1' hb2' hc1' hc2'
    intro V1 hMV1 h1V1 h2V1
    refine wpList_nil ?_
    have M01 : More V0 V1 := More.trans (by repeat (first | exact More.refl _ | refine More.alloc ?_ _ | refine More.more ?_ _ | refine More.drew ?_ | refine More.drewN ?_ _)) hMV1
    clear hMV1 LB LB2
    have hball := HBA.out
    have hbowl := HBO.out
    obtain ⟨⟨z1, z2, z3⟩, hz⟩ : ∃ d, sagZ ⟨false, false, ⟨g1, g2, g3⟩, ⟨65536, 65536, false⟩, ⟨0, 0, false⟩, ⟨0, 0, false⟩, ⟨0, 0, false⟩, ⟨6553600, 6553600, false⟩, ⟨65536, 65536, false⟩⟩ (ivWhole PP) = d := ⟨_, rfl⟩
    obtain ⟨⟨y1, y2, y3⟩, hy⟩ : ∃ d, sagZ ⟨false, false, ⟨j1, j2, j3⟩, ⟨0, 0, false⟩, ⟨0, 0, false⟩, ⟨0, 0, false⟩, ⟨0, 0, false⟩, ⟨6553600, 6553600, false⟩, ⟨65536, 65536, false⟩⟩ (ivWhole PP) = d := ⟨_, rfl⟩
    obtain ⟨⟨s1, s2, s3⟩, hs⟩ : ∃ d, sagM ⟨false, false, ⟨j1, j2, j3⟩, ⟨0, 0, false⟩, ⟨0, 0, false⟩, ⟨0, 0, false⟩, ⟨0, 0, false⟩, ⟨6553600, 6553600, false⟩, ⟨65536, 65536, false⟩⟩ (ivWhole PP) = d := ⟨_, rfl⟩
    rw [hz] at hball h1V0
    rw [hy] at h1V1
    rw [hs] at h2V1
    rw [hy, hs, Bool.and_eq_true] at hbowl
    obtain ⟨q1, q2⟩ := hbowl
    have hq1 := (ivEq_iff.1 q1).symm
    have hq2 := (ivEq_iff.1 q2).symm
    have hzr := has_right hball
    clear q1 q2 hz hy hs HBA HBO
    obtain ⟨l0, e0, e1, e2⟩ := iv_cells (heap_up M01 h1V0)
    obtain ⟨l1, e3, e4, e5⟩ := iv_cells h1V1
    obtain ⟨l2, e6, e7, e8⟩ := iv_cells h2V1
    have MW : More w V1 := More.trans M0 M01
    clear h1V0 h1V1 h2V1 M0 M01
    go_upto_region 20 with fail
    go_simp
    go_wp2_with (first | (first | (go_at_call 14; (with_reducible refine (point_c _ _).mono ?_); rintro e w' ⟨rfl, r, rfl⟩) | (go_at_call 15; (with_reducible refine (known14_c _).mono ?_); rintro e w' ⟨rfl, r, rfl⟩) | (go_at_call 20; (with_reducible refine (has_c _ _ _).mono ?_); rintro e w' ⟨rfl, r, rfl⟩) | (go_at_call 20; (with_reducible refine (has_c ⟨_, _, _⟩ _ _).mono ?_); rintro e w' ⟨rfl, r, rfl⟩) | (go_at_call 21; (with_reducible refine (rright_c _ _).mono ?_); rintro e w' ⟨rfl, r, rfl⟩) | (go_at_call 21; (with_reducible refine (rright_c ⟨_, _, _⟩ _).mono ?_); rintro e w' ⟨rfl, r, rfl⟩) | ((with_reducible show Code.wp _ (Code.region 20 _ true) _ _ _); (with_reducible refine wp_more_quick_m (id := 20) ?_ ?_ ?_); kernel_rfl; kernel_rfl; (try simp only [List.take_succ_cons, List.take_zero, List.drop_succ_cons, List.drop_zero]); (repeat (any_goals (first | go_big_quiet_step ((first | (go_at_call 14; (with_reducible apply quiet_call); with_reducible exact point_c _ _) | (go_at_call 15; (with_reducible apply quiet_call); with_reducible exact known14_c _) | (go_at_call 20; (with_reducible apply quiet_call_b); (with_reducible exact has_c _ _ _); with_reducible assumption) | (go_at_call 20; (with_reducible apply quiet_call); with_reducible exact has_c _ _ _) | (go_at_call 20; (with_reducible apply quiet_call_b); (with_reducible exact has_c ⟨_, _, _⟩ _ _); with_reducible assumption) | (go_at_call 20; (with_reducible apply quiet_call); with_reducible exact has_c ⟨_, _, _⟩ _ _) | (go_at_call 21; (with_reducible apply quiet_call_b); (with_reducible exact rright_c _ _); with_reducible assumption) | (go_at_call 21; (with_reducible apply quiet_call); with_reducible exact rright_c _ _) | (go_at_call 21; (with_reducible apply quiet_call_b); (with_reducible exact rright_c ⟨_, _, _⟩ _); with_reducible assumption) | (go_at_call 21; (with_reducible apply quiet_call); with_reducible exact rright_c ⟨_, _, _⟩ _))) | quiet_step ((first | (go_at_call 14; (with_reducible apply quiet_call); with_reducible exact point_c _ _) | (go_at_call 15; (with_reducible apply quiet_call); with_reducible exact known14_c _) | (go_at_call 20; (with_reducible apply quiet_call_b); (with_reducible exact has_c _ _ _); with_reducible assumption) | (go_at_call 20; (with_reducible apply quiet_call); with_reducible exact has_c _ _ _) | (go_at_call 20; (with_reducible apply quiet_call_b); (with_reducible exact has_c ⟨_, _, _⟩ _ _); with_reducible assumption) | (go_at_call 20; (with_reducible apply quiet_call); with_reducible exact has_c ⟨_, _, _⟩ _ _) | (go_at_call 21; (with_reducible apply quiet_call_b); (with_reducible exact rright_c _ _); with_reducible assumption) | (go_at_call 21; (with_reducible apply quiet_call); with_reducible exact rright_c _ _) | (go_at_call 21; (with_reducible apply quiet_call_b); (with_reducible exact rright_c ⟨_, _, _⟩ _); with_reducible assumption) | (go_at_call 21; (with_reducible apply quiet_call); with_reducible exact rright_c ⟨_, _, _⟩ _)))))); (with_reducible refine wpQuiet_nil ?_); intro r) | ((with_reducible show Code.wp _ (Code.region 20 _ true) _ _ _); (with_reducible refine wp_more_quick (id := 20) ?_ ?_ ?_); kernel_rfl; kernel_rfl; (try simp only [List.take_succ_cons, List.take_zero, List.drop_succ_cons, List.drop_zero]); (repeat (any_goals (first | go_big_quiet_step ((first | (go_at_call 14; (with_reducible apply quiet_call); with_reducible exact point_c _ _) | (go_at_call 15; (with_reducible apply quiet_call); with_reducible exact known14_c _) | (go_at_call 20; (with_reducible apply quiet_call_b); (with_reducible exact has_c _ _ _); with_reducible assumption) | (go_at_call 20; (with_reducible apply quiet_call); with_reducible exact has_c _ _ _) | (go_at_call 20; (with_reducible apply quiet_call_b); (with_reducible exact has_c ⟨_, _, _⟩ _ _); with_reducible assumption) | (go_at_call 20; (with_reducible apply quiet_call); with_reducible exact has_c ⟨_, _, _⟩ _ _) | (go_at_call 21; (with_reducible apply quiet_call_b); (with_reducible exact rright_c _ _); with_reducible assumption) | (go_at_call 21; (with_reducible apply quiet_call); with_reducible exact rright_c _ _) | (go_at_call 21; (with_reducible apply quiet_call_b); (with_reducible exact rright_c ⟨_, _, _⟩ _); with_reducible assumption) | (go_at_call 21; (with_reducible apply quiet_call); with_reducible exact rright_c ⟨_, _, _⟩ _))) | quiet_step ((first | (go_at_call 14; (with_reducible apply quiet_call); with_reducible exact point_c _ _) | (go_at_call 15; (with_reducible apply quiet_call); with_reducible exact known14_c _) | (go_at_call 20; (with_reducible apply quiet_call_b); (with_reducible exact has_c _ _ _); with_reducible assumption) | (go_at_call 20; (with_reducible apply quiet_call); with_reducible exact has_c _ _ _) | (go_at_call 20; (with_reducible apply quiet_call_b); (with_reducible exact has_c ⟨_, _, _⟩ _ _); with_reducible assumption) | (go_at_call 20; (with_reducible apply quiet_call); with_reducible exact has_c ⟨_, _, _⟩ _ _) | (go_at_call 21; (with_reducible apply quiet_call_b); (with_reducible exact rright_c _ _); with_reducible assumption) | (go_at_call 21; (with_reducible apply quiet_call); with_reducible exact rright_c _ _) | (go_at_call 21; (with_reducible apply quiet_call_b); (with_reducible exact rright_c ⟨_, _, _⟩ _); with_reducible assumption) | (go_at_call 21; (with_reducible apply quiet_call); with_reducible exact rright_c ⟨_, _, _⟩ _)))))); (with_reducible refine wpQuiet_nil ?_); intro r)))
    go_returns
    exact ⟨rfl, More.trans MW (by repeat (first | exact More.refl _ | refine More.alloc ?_ _ | refine More.more ?_ _ | refine More.drew ?_ | refine More.drewN ?_ _))⟩
end Go.Proofs.Ytfhnddikghgbkaa

