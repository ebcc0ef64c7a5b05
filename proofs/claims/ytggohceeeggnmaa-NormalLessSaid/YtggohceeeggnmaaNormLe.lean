/-
  NormalLess: the walk.
-/
import Derived.Test.YtggohceeeggnmaaGu5
import Derived.Test.YtggohceeeggnmaaGp5
namespace Go.Proofs.Ytggohceeeggnmaa
set_option linter.unusedVariables false
open Go.ChangeShapes Go.WideShapes Go.ChangeAt Go.RowKit

set_option maxHeartbeats 16000000 in
set_option maxRecDepth 100000 in
theorem normalLess_walk (w : World) (a0 : Int) (w0 : (Lit.int .i64 a0).wf = true) (s1 : Value) (l1 : List RawF) (i1 : Raws w s1 l1) (k1 : ∀ f ∈ l1, OkRaw f) (m1 : l1.length ≤ 9223372036854775807) (a2 : Int) (w2 : (Lit.int .i64 a2).wf = true) (a3 : Int) (w3 : (Lit.int .i64 a3).wf = true) (a4 : Int) (w4 : (Lit.int .i64 a4).wf = true) (a5 : Int) (w5 : (Lit.int .i64 a5).wf = true) (a6 : Int) (w6 : (Lit.int .i64 a6).wf = true) (a7 : Int) (w7 : (Lit.int .i64 a7).wf = true) (a8 : Int) (w8 : (Lit.int .i64 a8).wf = true) :
    Calls Try.prog 5 #[.int .i64 a0, s1, .int .i64 a2, .int .i64 a3, .int .i64 a4, .int .i64 a5, .int .i64 a6, .int .i64 a7, .int .i64 a8] w fun e w' => e = .returned (.bool true) ∧ More w w' := by
  obtain ⟨b01, b02⟩ := bounds_i64 w0
  obtain ⟨b21, b22⟩ := bounds_i64 w2
  obtain ⟨b31, b32⟩ := bounds_i64 w3
  obtain ⟨b41, b42⟩ := bounds_i64 w4
  obtain ⟨b51, b52⟩ := bounds_i64 w5
  obtain ⟨b61, b62⟩ := bounds_i64 w6
  obtain ⟨b71, b72⟩ := bounds_i64 w7
  obtain ⟨b81, b82⟩ := bounds_i64 w8
  have hpr := hPlace_right a2 a3 a4 a5
  have hqp := hInV_part hpr a6 a7
  obtain ⟨⟨⟨ox1, ox2, ox3⟩, ⟨oy1, oy2, oy3⟩, ⟨oz1, oz2, oz3⟩⟩, hP⟩ : ∃ d, hPlace a2 a3 a4 a5 = d := ⟨_, rfl⟩
  rw [hP] at hqp
  obtain ⟨⟨⟨qx1, qx2, qx3⟩, ⟨qy1, qy2, qy3⟩, ⟨qz1, qz2, qz3⟩⟩, hQ⟩ : ∃ d, hInV ⟨⟨ox1, ox2, ox3⟩, ⟨oy1, oy2, oy3⟩, ⟨oz1, oz2, oz3⟩⟩ a6 a7 = d := ⟨_, rfl⟩
  rw [hQ] at hqp
  obtain ⟨⟨⟨tx1, tx2, tx3⟩, ⟨ty1, ty2, ty3⟩, ⟨tz1, tz2, tz3⟩⟩, hT⟩ : ∃ d, plTurn ⟨⟨ox1, ox2, ox3⟩, ⟨oy1, oy2, oy3⟩, ⟨oz1, oz2, oz3⟩⟩ a8 = d := ⟨_, rfl⟩
  obtain ⟨⟨⟨mx1, mx2, mx3⟩, ⟨my1, my2, my3⟩, ⟨mz1, mz2, mz3⟩⟩, hM⟩ : ∃ d, plMirror ⟨⟨ox1, ox2, ox3⟩, ⟨oy1, oy2, oy3⟩, ⟨oz1, oz2, oz3⟩⟩ = d := ⟨_, rfl⟩
  have hless := fun s => norm_less s hqp
  have hturn := fun s => norm_turn s ⟨⟨ox1, ox2, ox3⟩, ⟨oy1, oy2, oy3⟩, ⟨oz1, oz2, oz3⟩⟩ a8
  have hmir := fun s => norm_mir s ⟨⟨ox1, ox2, ox3⟩, ⟨oy1, oy2, oy3⟩, ⟨oz1, oz2, oz3⟩⟩
  rw [hT] at hturn
  rw [hM] at hmir
  have HLE := Lib.hid hless
  have HTU := Lib.hid hturn
  have HMI := Lib.hid hmir
  clear hless hturn hmir hqp hpr
  have hsys : ∀ u, More w u → Calls Try.prog 19 #[.int .i64 a0, s1, .slice none 0 0, .int .i64 4, .bool false] u fun e w' => ∃ v', e = .returned (syV (hsP a0 l1 [] 4).wide v') ∧ More u w' ∧ Sfs w' v' (hsP a0 l1 [] 4).rows := fun u hM => hsys_c a0 s1 (.slice none 0 0) l1 [] 4 u b01 b02 (i1.up hM) k1 m1 (.inl ⟨rfl, _, _, rfl⟩) (by simp) (by simp) (by decide)
  have hmild := hsP_mild a0 l1 [] 4
  have hlen := hsP_len a0 l1 [] (most := 4) (by decide)
  obtain ⟨⟨P, ⟨o1, o2, o3⟩⟩, hY⟩ : ∃ Y, hsP a0 l1 [] 4 = Y := ⟨_, rfl⟩
  rw [hY] at hsys hmild hlen
  dsimp only at hsys hmild hlen
  have HMD := Lib.hid hmild
  have HSYS := Lib.hid hsys
  clear hsys hmild hY i1 k1 m1
  have NP := neql_pl16
  go_enter Try.func5, Try.ntmps5
  go_wp2_with fail
  go_at_call 19
  refine Calls.mono (HSYS.out _ (by repeat (first | exact More.refl _ | refine More.alloc ?_ _ | refine More.more ?_ _ | refine More.drew ?_ | refine More.drewN ?_ _))) ?_
  rintro e u ⟨v, rfl, ⟨rs, rfl⟩, hS⟩
  obtain ⟨va, vc, rfl, -⟩ := grow_form sfs_pos hS
  have HS := Lib.hid hS
  clear hS HSYS
  have w1 : ivWhole 1 = ⟨65536, 65536, false⟩ := by kernel_rfl
  have p0 : ivPoint 0 = ⟨0, 0, false⟩ := by kernel_rfl
  go_upto_region 3 with (first | (first | (go_at_call 20; (with_reducible refine (place16_c _ _ _ _ (by omega) (by omega) (by omega) (by omega) (by omega) (by omega) (by omega) (by omega) _).mono ?_); rintro e w' ⟨rfl, r, rfl⟩)))
  obtain ⟨ra, hra⟩ : ∃ x, x = r := ⟨_, rfl⟩
  subst hra
  go_wp2_with (first | (first | (go_at_call 23; (with_reducible refine (hinv_c _ _ _ (by omega) (by omega) (by omega) (by omega) _).mono ?_); rintro e w' ⟨rfl, r, rfl⟩) | (go_at_call 23; (with_reducible refine (hinv_c ⟨_, _, _⟩ _ _ (by omega) (by omega) (by omega) (by omega) _).mono ?_); rintro e w' ⟨rfl, r, rfl⟩) | (go_at_call 23; (with_reducible refine (hinv_c ⟨⟨_, _, _⟩, ⟨_, _, _⟩, ⟨_, _, _⟩⟩ _ _ (by omega) (by omega) (by omega) (by omega) _).mono ?_); rintro e w' ⟨rfl, r, rfl⟩)))
  clear hP hQ
  go_loopw [42] (fun i wr => ∃ k : Nat, k ≤ P.length ∧ i = .int .i64 k ∧ More ((more ((more ((more w rs).alloc (.cells #[.slice va P.length vc, .int .i64 o1, .int .i64 o2, .bool o3] 41)) ra).alloc (.cells #[.int .i64 ox1, .int .i64 ox2, .bool ox3, .int .i64 oy1, .int .i64 oy2, .bool oy3, .int .i64 oz1, .int .i64 oz2, .bool oz3] 30)) r).alloc (.cells #[.int .i64 qx1, .int .i64 qx2, .bool qx3, .int .i64 qy1, .int .i64 qy2, .bool qy3, .int .i64 qz1, .int .i64 qz2, .bool qz3] 30)) wr) (fun i _ => P.length - (intOf i).toNat)
  case atStart => exact ⟨0, by omega, rfl, (by repeat (first | exact More.refl _ | refine More.alloc ?_ _ | refine More.more ?_ _ | refine More.drew ?_ | refine More.drewN ?_ _))⟩
  case round =>
    obtain ⟨k, hk, rfl, s, rfl⟩ := hrel
    by_cases hkl : k < P.length
    · obtain ⟨f, hf⟩ : ∃ f, P[k]? = some f := ⟨P[k], List.getElem?_eq_getElem hkl⟩
      obtain ⟨b, off, rfl, hb, hL, -⟩ := sfs_at (w := ((more ((more ((more w rs).alloc (.cells #[.slice va P.length vc, .int .i64 o1, .int .i64 o2, .bool o3] 41)) ra).alloc (.cells #[.int .i64 ox1, .int .i64 ox2, .bool ox3, .int .i64 oy1, .int .i64 oy2, .bool oy3, .int .i64 oz1, .int .i64 oz2, .bool oz3] 30)) r).alloc (.cells #[.int .i64 qx1, .int .i64 qx2, .bool qx3, .int .i64 qy1, .int .i64 qy2, .bool qy3, .int .i64 qz1, .int .i64 qz2, .bool qz3] 30))) (HS.out.up (by repeat (first | exact More.refl _ | refine More.alloc ?_ _ | refine More.more ?_ _ | refine More.drew ?_ | refine More.drewN ?_ _))) hf
      have hlt : ((k : Nat) : Int) < ((P.length : Nat) : Int) := by omega
      have hmem := List.mem_of_getElem? hf
      have hmd := HMD.out f hmem
      clear hf hmem
      have hax := norm_axis hmd
      clear hmd
      have hle := HLE.out f
      have hlo := norm_long f (p := ⟨⟨ox1, ox2, ox3⟩, ⟨oy1, oy2, oy3⟩, ⟨oz1, oz2, oz3⟩⟩)
      have htu := HTU.out f
      have hmi := HMI.out f
      obtain ⟨⟨⟨Ax1, Ax2, Ax3⟩, ⟨Ay1, Ay2, Ay3⟩, ⟨Az1, Az2, Az3⟩⟩, hA⟩ : ∃ d, normP f ⟨⟨ox1, ox2, ox3⟩, ⟨oy1, oy2, oy3⟩, ⟨oz1, oz2, oz3⟩⟩ = d := ⟨_, rfl⟩
      obtain ⟨⟨⟨Bx1, Bx2, Bx3⟩, ⟨By1, By2, By3⟩, ⟨Bz1, Bz2, Bz3⟩⟩, hB⟩ : ∃ d, normP f ⟨⟨qx1, qx2, qx3⟩, ⟨qy1, qy2, qy3⟩, ⟨qz1, qz2, qz3⟩⟩ = d := ⟨_, rfl⟩
      rw [hA, hB] at hle
      rw [hA] at hlo htu hmi
      obtain ⟨⟨⟨Tx1, Tx2, Tx3⟩, ⟨Ty1, Ty2, Ty3⟩, ⟨Tz1, Tz2, Tz3⟩⟩, hTA⟩ : ∃ d, plTurn ⟨⟨Ax1, Ax2, Ax3⟩, ⟨Ay1, Ay2, Ay3⟩, ⟨Az1, Az2, Az3⟩⟩ a8 = d := ⟨_, rfl⟩
      obtain ⟨⟨⟨Mx1, Mx2, Mx3⟩, ⟨My1, My2, My3⟩, ⟨Mz1, Mz2, Mz3⟩⟩, hMA⟩ : ∃ d, plMirror ⟨⟨Ax1, Ax2, Ax3⟩, ⟨Ay1, Ay2, Ay3⟩, ⟨Az1, Az2, Az3⟩⟩ = d := ⟨_, rfl⟩
      rw [hTA] at htu
      rw [hMA] at hmi
      obtain ⟨⟨l1', l2', l3'⟩, hL2⟩ : ∃ d, plLen2 ⟨⟨Ax1, Ax2, Ax3⟩, ⟨Ay1, Ay2, Ay3⟩, ⟨Az1, Az2, Az3⟩⟩ = d := ⟨_, rfl⟩
      rw [hL2] at hlo
      have hway1 : plRight ⟨⟨Ax1, Ax2, Ax3⟩, ⟨Ay1, Ay2, Ay3⟩, ⟨Az1, Az2, Az3⟩⟩ = false ∨ (plRight ⟨⟨Ax1, Ax2, Ax3⟩, ⟨Ay1, Ay2, Ay3⟩, ⟨Az1, Az2, Az3⟩⟩ = true ∧ plInside ⟨⟨Bx1, Bx2, Bx3⟩, ⟨By1, By2, By3⟩, ⟨Bz1, Bz2, Bz3⟩⟩ ⟨⟨Ax1, Ax2, Ax3⟩, ⟨Ay1, Ay2, Ay3⟩, ⟨Az1, Az2, Az3⟩⟩ = true) := by
        cases h : plRight ⟨⟨Ax1, Ax2, Ax3⟩, ⟨Ay1, Ay2, Ay3⟩, ⟨Az1, Az2, Az3⟩⟩
        · exact .inl rfl
        · exact .inr ⟨rfl, hle h⟩
      have hway2 : ivRight ⟨l1', l2', l3'⟩ = false ∨ (ivRight ⟨l1', l2', l3'⟩ = true ∧ ivHas ⟨l1', l2', l3'⟩ 65536 = true) := by
        cases h : ivRight ⟨l1', l2', l3'⟩
        · exact .inl rfl
        · exact .inr ⟨rfl, hlo h⟩
      clear hle hlo
      have HW2 := Lib.hid hway2
      clear hway2
      rcases hway1 with g1 | ⟨g1, g2⟩
      all_goals
        go_upto_region 11 with (first | (go_at_call 12; (with_reducible refine (norm_c f ⟨⟨ox1, ox2, ox3⟩, ⟨oy1, oy2, oy3⟩, ⟨oz1, oz2, oz3⟩⟩ _).mono ?_); rintro e w' ⟨rfl, r5, rfl⟩; rw [hA]) | (go_at_call 12; (with_reducible refine (norm_c f ⟨⟨qx1, qx2, qx3⟩, ⟨qy1, qy2, qy3⟩, ⟨qz1, qz2, qz3⟩⟩ _).mono ?_); rintro e w' ⟨rfl, r5, rfl⟩; rw [hB]) | (first | (go_at_call 24; (with_reducible refine (vright_c _ _).mono ?_); rintro e w' ⟨rfl, r, rfl⟩) | (go_at_call 24; (with_reducible refine (vright_c ⟨_, _, _⟩ _).mono ?_); rintro e w' ⟨rfl, r, rfl⟩) | (go_at_call 24; (with_reducible refine (vright_c ⟨⟨_, _, _⟩, ⟨_, _, _⟩, ⟨_, _, _⟩⟩ _).mono ?_); rintro e w' ⟨rfl, r, rfl⟩) | (go_at_call 25; (with_reducible refine (vinside_c _ _ _).mono ?_); rintro e w' ⟨rfl, r, rfl⟩) | (go_at_call 25; (with_reducible refine (vinside_c _ ⟨_, _, _⟩ _).mono ?_); rintro e w' ⟨rfl, r, rfl⟩) | (go_at_call 25; (with_reducible refine (vinside_c ⟨_, _, _⟩ _ _).mono ?_); rintro e w' ⟨rfl, r, rfl⟩) | (go_at_call 25; (with_reducible refine (vinside_c ⟨_, _, _⟩ ⟨_, _, _⟩ _).mono ?_); rintro e w' ⟨rfl, r, rfl⟩) | (go_at_call 25; (with_reducible refine (vinside_c ⟨⟨_, _, _⟩, ⟨_, _, _⟩, ⟨_, _, _⟩⟩ ⟨_, _, _⟩ _).mono ?_); rintro e w' ⟨rfl, r, rfl⟩) | (go_at_call 25; (with_reducible refine (vinside_c ⟨_, _, _⟩ ⟨⟨_, _, _⟩, ⟨_, _, _⟩, ⟨_, _, _⟩⟩ _).mono ?_); rintro e w' ⟨rfl, r, rfl⟩) | (go_at_call 25; (with_reducible refine (vinside_c ⟨⟨_, _, _⟩, ⟨_, _, _⟩, ⟨_, _, _⟩⟩ ⟨⟨_, _, _⟩, ⟨_, _, _⟩, ⟨_, _, _⟩⟩ _).mono ?_); rintro e w' ⟨rfl, r, rfl⟩)))
        go_simp
        rcases HW2.out with g3 | ⟨g3, g4⟩
        all_goals
          go_wp2_with (first | (go_at_call 12; (with_reducible refine (norm_c f ⟨⟨ox1, ox2, ox3⟩, ⟨oy1, oy2, oy3⟩, ⟨oz1, oz2, oz3⟩⟩ _).mono ?_); rintro e w' ⟨rfl, r5, rfl⟩; rw [hA]) | (go_at_call 12; (with_reducible refine (norm_c f ⟨⟨qx1, qx2, qx3⟩, ⟨qy1, qy2, qy3⟩, ⟨qz1, qz2, qz3⟩⟩ _).mono ?_); rintro e w' ⟨rfl, r5, rfl⟩; rw [hB]) | (go_at_call 12; (with_reducible refine (norm_c f ⟨⟨tx1, tx2, tx3⟩, ⟨ty1, ty2, ty3⟩, ⟨tz1, tz2, tz3⟩⟩ _).mono ?_); rintro e w' ⟨rfl, r5, rfl⟩; rw [htu]) | (go_at_call 12; (with_reducible refine (norm_c f ⟨⟨mx1, mx2, mx3⟩, ⟨my1, my2, my3⟩, ⟨mz1, mz2, mz3⟩⟩ _).mono ?_); rintro e w' ⟨rfl, r5, rfl⟩; rw [hmi]) | (go_at_call 12; (with_reducible refine (norm_c f ⟨⟨0, 0, false⟩, ⟨0, 0, false⟩, ⟨0, 0, false⟩⟩ _).mono ?_); rintro e w' ⟨rfl, r5, rfl⟩; rw [hax]) | (first | (go_at_call 11; (with_reducible refine (whole_c _ _).mono ?_); rintro e w' ⟨rfl, r, rfl⟩) | (go_at_call 13; (with_reducible refine (vof_c _ _ _ _).mono ?_); rintro e w' ⟨rfl, r, rfl⟩) | (go_at_call 13; (with_reducible refine (vof_c ⟨_, _, _⟩ ⟨_, _, _⟩ ⟨_, _, _⟩ _).mono ?_); rintro e w' ⟨rfl, r, rfl⟩) | (go_at_call 14; (with_reducible refine (point_c _ _).mono ?_); rintro e w' ⟨rfl, r, rfl⟩) | (go_at_call 17; (with_reducible refine (has_c _ _ _).mono ?_); rintro e w' ⟨rfl, r, rfl⟩) | (go_at_call 17; (with_reducible refine (has_c ⟨_, _, _⟩ _ _).mono ?_); rintro e w' ⟨rfl, r, rfl⟩) | (go_at_call 18; (with_reducible refine (right_c _ _).mono ?_); rintro e w' ⟨rfl, r, rfl⟩) | (go_at_call 18; (with_reducible refine (right_c ⟨_, _, _⟩ _).mono ?_); rintro e w' ⟨rfl, r, rfl⟩) | (go_at_call 26; (with_reducible refine (vlen2_c _ _).mono ?_); rintro e w' ⟨rfl, r, rfl⟩) | (go_at_call 26; (with_reducible refine (vlen2_c ⟨_, _, _⟩ _).mono ?_); rintro e w' ⟨rfl, r, rfl⟩) | (go_at_call 26; (with_reducible refine (vlen2_c ⟨⟨_, _, _⟩, ⟨_, _, _⟩, ⟨_, _, _⟩⟩ _).mono ?_); rintro e w' ⟨rfl, r, rfl⟩) | (go_at_call 27; (with_reducible refine (vturn_c _ _ _).mono ?_); rintro e w' ⟨rfl, r, rfl⟩) | (go_at_call 27; (with_reducible refine (vturn_c ⟨_, _, _⟩ _ _).mono ?_); rintro e w' ⟨rfl, r, rfl⟩) | (go_at_call 27; (with_reducible refine (vturn_c ⟨⟨_, _, _⟩, ⟨_, _, _⟩, ⟨_, _, _⟩⟩ _ _).mono ?_); rintro e w' ⟨rfl, r, rfl⟩) | (go_at_call 28; (with_reducible refine (vmirror_c _ _).mono ?_); rintro e w' ⟨rfl, r, rfl⟩) | (go_at_call 28; (with_reducible refine (vmirror_c ⟨_, _, _⟩ _).mono ?_); rintro e w' ⟨rfl, r, rfl⟩) | (go_at_call 28; (with_reducible refine (vmirror_c ⟨⟨_, _, _⟩, ⟨_, _, _⟩, ⟨_, _, _⟩⟩ _).mono ?_); rintro e w' ⟨rfl, r, rfl⟩) | ((with_reducible show Code.wp _ (Code.region 14 _ true) _ _ _); (with_reducible refine wp_more_quick_m (id := 14) ?_ ?_ ?_); kernel_rfl; kernel_rfl; (try simp only [List.take_succ_cons, List.take_zero, List.drop_succ_cons, List.drop_zero]); (repeat (any_goals (first | go_big_quiet_step ((first | (go_at_call 12; (with_reducible apply quiet_call); with_reducible exact norm_c f ⟨⟨tx1, tx2, tx3⟩, ⟨ty1, ty2, ty3⟩, ⟨tz1, tz2, tz3⟩⟩ _) | (go_at_call 12; (with_reducible apply quiet_call); with_reducible exact norm_c f ⟨⟨mx1, mx2, mx3⟩, ⟨my1, my2, my3⟩, ⟨mz1, mz2, mz3⟩⟩ _) | (go_at_call 12; (with_reducible apply quiet_call); with_reducible exact norm_c f ⟨⟨0, 0, false⟩, ⟨0, 0, false⟩, ⟨0, 0, false⟩⟩ _) | (go_at_call 27; (with_reducible apply quiet_call); with_reducible exact vturn_c _ _ _) | (go_at_call 27; (with_reducible apply quiet_call); with_reducible exact vturn_c ⟨_, _, _⟩ _ _) | (go_at_call 27; (with_reducible apply quiet_call); with_reducible exact vturn_c ⟨⟨_, _, _⟩, ⟨_, _, _⟩, ⟨_, _, _⟩⟩ _ _) | (go_at_call 28; (with_reducible apply quiet_call); with_reducible exact vmirror_c _ _) | (go_at_call 28; (with_reducible apply quiet_call); with_reducible exact vmirror_c ⟨_, _, _⟩ _) | (go_at_call 28; (with_reducible apply quiet_call); with_reducible exact vmirror_c ⟨⟨_, _, _⟩, ⟨_, _, _⟩, ⟨_, _, _⟩⟩ _))) | quiet_step ((first | (go_at_call 12; (with_reducible apply quiet_call); with_reducible exact norm_c f ⟨⟨tx1, tx2, tx3⟩, ⟨ty1, ty2, ty3⟩, ⟨tz1, tz2, tz3⟩⟩ _) | (go_at_call 12; (with_reducible apply quiet_call); with_reducible exact norm_c f ⟨⟨mx1, mx2, mx3⟩, ⟨my1, my2, my3⟩, ⟨mz1, mz2, mz3⟩⟩ _) | (go_at_call 12; (with_reducible apply quiet_call); with_reducible exact norm_c f ⟨⟨0, 0, false⟩, ⟨0, 0, false⟩, ⟨0, 0, false⟩⟩ _) | (go_at_call 27; (with_reducible apply quiet_call); with_reducible exact vturn_c _ _ _) | (go_at_call 27; (with_reducible apply quiet_call); with_reducible exact vturn_c ⟨_, _, _⟩ _ _) | (go_at_call 27; (with_reducible apply quiet_call); with_reducible exact vturn_c ⟨⟨_, _, _⟩, ⟨_, _, _⟩, ⟨_, _, _⟩⟩ _ _) | (go_at_call 28; (with_reducible apply quiet_call); with_reducible exact vmirror_c _ _) | (go_at_call 28; (with_reducible apply quiet_call); with_reducible exact vmirror_c ⟨_, _, _⟩ _) | (go_at_call 28; (with_reducible apply quiet_call); with_reducible exact vmirror_c ⟨⟨_, _, _⟩, ⟨_, _, _⟩, ⟨_, _, _⟩⟩ _)))))); (with_reducible refine wpQuiet_nil ?_); intro r) | ((with_reducible show Code.wp _ (Code.region 14 _ true) _ _ _); (with_reducible refine wp_more_quick (id := 14) ?_ ?_ ?_); kernel_rfl; kernel_rfl; (try simp only [List.take_succ_cons, List.take_zero, List.drop_succ_cons, List.drop_zero]); (repeat (any_goals (first | go_big_quiet_step ((first | (go_at_call 12; (with_reducible apply quiet_call); with_reducible exact norm_c f ⟨⟨tx1, tx2, tx3⟩, ⟨ty1, ty2, ty3⟩, ⟨tz1, tz2, tz3⟩⟩ _) | (go_at_call 12; (with_reducible apply quiet_call); with_reducible exact norm_c f ⟨⟨mx1, mx2, mx3⟩, ⟨my1, my2, my3⟩, ⟨mz1, mz2, mz3⟩⟩ _) | (go_at_call 12; (with_reducible apply quiet_call); with_reducible exact norm_c f ⟨⟨0, 0, false⟩, ⟨0, 0, false⟩, ⟨0, 0, false⟩⟩ _) | (go_at_call 27; (with_reducible apply quiet_call); with_reducible exact vturn_c _ _ _) | (go_at_call 27; (with_reducible apply quiet_call); with_reducible exact vturn_c ⟨_, _, _⟩ _ _) | (go_at_call 27; (with_reducible apply quiet_call); with_reducible exact vturn_c ⟨⟨_, _, _⟩, ⟨_, _, _⟩, ⟨_, _, _⟩⟩ _ _) | (go_at_call 28; (with_reducible apply quiet_call); with_reducible exact vmirror_c _ _) | (go_at_call 28; (with_reducible apply quiet_call); with_reducible exact vmirror_c ⟨_, _, _⟩ _) | (go_at_call 28; (with_reducible apply quiet_call); with_reducible exact vmirror_c ⟨⟨_, _, _⟩, ⟨_, _, _⟩, ⟨_, _, _⟩⟩ _))) | quiet_step ((first | (go_at_call 12; (with_reducible apply quiet_call); with_reducible exact norm_c f ⟨⟨tx1, tx2, tx3⟩, ⟨ty1, ty2, ty3⟩, ⟨tz1, tz2, tz3⟩⟩ _) | (go_at_call 12; (with_reducible apply quiet_call); with_reducible exact norm_c f ⟨⟨mx1, mx2, mx3⟩, ⟨my1, my2, my3⟩, ⟨mz1, mz2, mz3⟩⟩ _) | (go_at_call 12; (with_reducible apply quiet_call); with_reducible exact norm_c f ⟨⟨0, 0, false⟩, ⟨0, 0, false⟩, ⟨0, 0, false⟩⟩ _) | (go_at_call 27; (with_reducible apply quiet_call); with_reducible exact vturn_c _ _ _) | (go_at_call 27; (with_reducible apply quiet_call); with_reducible exact vturn_c ⟨_, _, _⟩ _ _) | (go_at_call 27; (with_reducible apply quiet_call); with_reducible exact vturn_c ⟨⟨_, _, _⟩, ⟨_, _, _⟩, ⟨_, _, _⟩⟩ _ _) | (go_at_call 28; (with_reducible apply quiet_call); with_reducible exact vmirror_c _ _) | (go_at_call 28; (with_reducible apply quiet_call); with_reducible exact vmirror_c ⟨_, _, _⟩ _) | (go_at_call 28; (with_reducible apply quiet_call); with_reducible exact vmirror_c ⟨⟨_, _, _⟩, ⟨_, _, _⟩, ⟨_, _, _⟩⟩ _)))))); (with_reducible refine wpQuiet_nil ?_); intro r) | ((with_reducible show Code.wp _ (Code.region 16 _ true) _ _ _); (with_reducible refine wp_more_quick_m (id := 16) ?_ ?_ ?_); kernel_rfl; kernel_rfl; (try simp only [List.take_succ_cons, List.take_zero, List.drop_succ_cons, List.drop_zero]); (repeat (any_goals (first | go_big_quiet_step ((first | (go_at_call 12; (with_reducible apply quiet_call); with_reducible exact norm_c f ⟨⟨tx1, tx2, tx3⟩, ⟨ty1, ty2, ty3⟩, ⟨tz1, tz2, tz3⟩⟩ _) | (go_at_call 12; (with_reducible apply quiet_call); with_reducible exact norm_c f ⟨⟨mx1, mx2, mx3⟩, ⟨my1, my2, my3⟩, ⟨mz1, mz2, mz3⟩⟩ _) | (go_at_call 12; (with_reducible apply quiet_call); with_reducible exact norm_c f ⟨⟨0, 0, false⟩, ⟨0, 0, false⟩, ⟨0, 0, false⟩⟩ _) | (go_at_call 11; (with_reducible apply quiet_call); with_reducible exact whole_c _ _) | (go_at_call 13; (with_reducible apply quiet_call); with_reducible exact vof_c _ _ _ _) | (go_at_call 13; (with_reducible apply quiet_call); with_reducible exact vof_c ⟨_, _, _⟩ ⟨_, _, _⟩ ⟨_, _, _⟩ _) | (go_at_call 14; (with_reducible apply quiet_call); with_reducible exact point_c _ _))) | quiet_step ((first | (go_at_call 12; (with_reducible apply quiet_call); with_reducible exact norm_c f ⟨⟨tx1, tx2, tx3⟩, ⟨ty1, ty2, ty3⟩, ⟨tz1, tz2, tz3⟩⟩ _) | (go_at_call 12; (with_reducible apply quiet_call); with_reducible exact norm_c f ⟨⟨mx1, mx2, mx3⟩, ⟨my1, my2, my3⟩, ⟨mz1, mz2, mz3⟩⟩ _) | (go_at_call 12; (with_reducible apply quiet_call); with_reducible exact norm_c f ⟨⟨0, 0, false⟩, ⟨0, 0, false⟩, ⟨0, 0, false⟩⟩ _) | (go_at_call 11; (with_reducible apply quiet_call); with_reducible exact whole_c _ _) | (go_at_call 13; (with_reducible apply quiet_call); with_reducible exact vof_c _ _ _ _) | (go_at_call 13; (with_reducible apply quiet_call); with_reducible exact vof_c ⟨_, _, _⟩ ⟨_, _, _⟩ ⟨_, _, _⟩ _) | (go_at_call 14; (with_reducible apply quiet_call); with_reducible exact point_c _ _)))))); (with_reducible refine wpQuiet_nil ?_); intro r) | ((with_reducible show Code.wp _ (Code.region 16 _ true) _ _ _); (with_reducible refine wp_more_quick (id := 16) ?_ ?_ ?_); kernel_rfl; kernel_rfl; (try simp only [List.take_succ_cons, List.take_zero, List.drop_succ_cons, List.drop_zero]); (repeat (any_goals (first | go_big_quiet_step ((first | (go_at_call 12; (with_reducible apply quiet_call); with_reducible exact norm_c f ⟨⟨tx1, tx2, tx3⟩, ⟨ty1, ty2, ty3⟩, ⟨tz1, tz2, tz3⟩⟩ _) | (go_at_call 12; (with_reducible apply quiet_call); with_reducible exact norm_c f ⟨⟨mx1, mx2, mx3⟩, ⟨my1, my2, my3⟩, ⟨mz1, mz2, mz3⟩⟩ _) | (go_at_call 12; (with_reducible apply quiet_call); with_reducible exact norm_c f ⟨⟨0, 0, false⟩, ⟨0, 0, false⟩, ⟨0, 0, false⟩⟩ _) | (go_at_call 11; (with_reducible apply quiet_call); with_reducible exact whole_c _ _) | (go_at_call 13; (with_reducible apply quiet_call); with_reducible exact vof_c _ _ _ _) | (go_at_call 13; (with_reducible apply quiet_call); with_reducible exact vof_c ⟨_, _, _⟩ ⟨_, _, _⟩ ⟨_, _, _⟩ _) | (go_at_call 14; (with_reducible apply quiet_call); with_reducible exact point_c _ _))) | quiet_step ((first | (go_at_call 12; (with_reducible apply quiet_call); with_reducible exact norm_c f ⟨⟨tx1, tx2, tx3⟩, ⟨ty1, ty2, ty3⟩, ⟨tz1, tz2, tz3⟩⟩ _) | (go_at_call 12; (with_reducible apply quiet_call); with_reducible exact norm_c f ⟨⟨mx1, mx2, mx3⟩, ⟨my1, my2, my3⟩, ⟨mz1, mz2, mz3⟩⟩ _) | (go_at_call 12; (with_reducible apply quiet_call); with_reducible exact norm_c f ⟨⟨0, 0, false⟩, ⟨0, 0, false⟩, ⟨0, 0, false⟩⟩ _) | (go_at_call 11; (with_reducible apply quiet_call); with_reducible exact whole_c _ _) | (go_at_call 13; (with_reducible apply quiet_call); with_reducible exact vof_c _ _ _ _) | (go_at_call 13; (with_reducible apply quiet_call); with_reducible exact vof_c ⟨_, _, _⟩ ⟨_, _, _⟩ ⟨_, _, _⟩ _) | (go_at_call 14; (with_reducible apply quiet_call); with_reducible exact point_c _ _)))))); (with_reducible refine wpQuiet_nil ?_); intro r)))
          go_roundw
          case rel => (first | exact ⟨k + 1, by omega, rfl, (by repeat (first | exact More.refl _ | refine More.alloc ?_ _ | refine More.more ?_ _ | refine More.drew ?_ | refine More.drewN ?_ _))⟩ | ((repeat apply Exists.intro); exact ⟨⟨k + 1, by omega, rfl, (by repeat (first | exact More.refl _ | refine More.alloc ?_ _ | refine More.more ?_ _ | refine More.drew ?_ | refine More.drewN ?_ _))⟩, rfl⟩))
          case measure => simp [intOf] <;> omega
    · obtain rfl : k = P.length := by omega
      go_wp2_with (first | (first | (go_at_call 16; (with_reducible refine (known16_c _).mono ?_); rintro e w' ⟨rfl, r, rfl⟩)))
      go_returns
      exact ⟨rfl, (by repeat (first | exact More.refl _ | refine More.alloc ?_ _ | refine More.more ?_ _ | refine More.drew ?_ | refine More.drewN ?_ _))⟩
end Go.Proofs.Ytggohceeeggnmaa

