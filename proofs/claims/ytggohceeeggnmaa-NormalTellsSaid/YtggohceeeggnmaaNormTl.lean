/-
  NormalTells: the walk.
-/
import Derived.Test.YtggohceeeggnmaaGu5
import Derived.Test.YtggohceeeggnmaaGp5
namespace Go.Proofs.Ytggohceeeggnmaa
set_option linter.unusedVariables false
open Go.ChangeShapes Go.WideShapes Go.ChangeAt Go.RowKit

set_option maxHeartbeats 16000000 in
set_option maxRecDepth 100000 in
theorem normalTells_walk (w : World) (a0 : Int) (w0 : (Lit.int .i64 a0).wf = true) (s1 : Value) (l1 : List RawF) (i1 : Raws w s1 l1) (k1 : ∀ f ∈ l1, OkRaw f) (m1 : l1.length ≤ 9223372036854775807) (a2 : Int) (w2 : (Lit.int .i64 a2).wf = true) (a3 : Int) (w3 : (Lit.int .i64 a3).wf = true) (a4 : Int) (w4 : (Lit.int .i64 a4).wf = true) (a5 : Int) (w5 : (Lit.int .i64 a5).wf = true) (l6 : Six) (o6 : OkSix l6) (a7 : Bool) :
    Calls Try.prog 4 #[.int .i64 a0, s1, .int .i64 a2, .int .i64 a3, .int .i64 a4, .int .i64 a5, sixV l6, .bool a7] w fun e w' => e = .returned (.bool true) ∧ More w w' := by
  obtain ⟨b01, b02⟩ := bounds_i64 w0
  obtain ⟨b21, b22⟩ := bounds_i64 w2
  obtain ⟨b31, b32⟩ := bounds_i64 w3
  obtain ⟨b41, b42⟩ := bounds_i64 w4
  obtain ⟨b51, b52⟩ := bounds_i64 w5
  obtain ⟨⟨⟨ox1, ox2, ox3⟩, ⟨oy1, oy2, oy3⟩, ⟨oz1, oz2, oz3⟩⟩, hP⟩ : ∃ d, hPlace a2 a3 a4 a5 = d := ⟨_, rfl⟩
  obtain ⟨⟨⟨qx1, qx2, qx3⟩, ⟨qy1, qy2, qy3⟩, ⟨qz1, qz2, qz3⟩⟩, hQ⟩ : ∃ d, hPl l6 = d := ⟨_, rfl⟩
  have hsys : ∀ u, More w u → Calls Try.prog 19 #[.int .i64 a0, s1, .slice none 0 0, .int .i64 4, .bool false] u fun e w' => ∃ v', e = .returned (syV (hsP a0 l1 [] 4).wide v') ∧ More u w' ∧ Sfs w' v' (hsP a0 l1 [] 4).rows := fun u hM => hsys_c a0 s1 (.slice none 0 0) l1 [] 4 u b01 b02 (i1.up hM) k1 m1 (.inl ⟨rfl, _, _, rfl⟩) (by simp) (by simp) (by decide)
  have hmild := hsP_mild a0 l1 [] 4
  have hlen := hsP_len a0 l1 [] (most := 4) (by decide)
  obtain ⟨⟨P, ⟨o1, o2, o3⟩⟩, hY⟩ : ∃ Y, hsP a0 l1 [] 4 = Y := ⟨_, rfl⟩
  rw [hY] at hsys hmild hlen
  dsimp only at hsys hmild hlen
  have HMD := Lib.hid hmild
  have HSYS := Lib.hid hsys
  clear hsys hmild hY i1 k1 m1
  have NP := neql_pl16
  go_enter Try.func4, Try.ntmps4
  go_wp2_with fail
  go_at_call 19
  refine Calls.mono (HSYS.out _ (by repeat (first | exact More.refl _ | refine More.alloc ?_ _ | refine More.more ?_ _ | refine More.drew ?_ | refine More.drewN ?_ _))) ?_
  rintro e u ⟨v, rfl, ⟨rs, rfl⟩, hS⟩
  obtain ⟨va, vc, rfl, -⟩ := grow_form sfs_pos hS
  have HS := Lib.hid hS
  clear hS HSYS
  cases a7 with
  | false =>
    go_wp2_with (first | (first | (go_at_call 20; (with_reducible refine (place16_c _ _ _ _ (by omega) (by omega) (by omega) (by omega) (by omega) (by omega) (by omega) (by omega) _).mono ?_); rintro e w' ⟨rfl, r, rfl⟩)))
    clear hP hQ
    go_loopw [35] (fun i wr => ∃ k : Nat, k ≤ P.length ∧ i = .int .i64 k ∧ More ((more ((more (w.alloc (.cells #[.int .i64 l6.a, .int .i64 l6.b, .int .i64 l6.c, .int .i64 l6.d, .int .i64 l6.e, .int .i64 l6.f] 38)) rs).alloc (.cells #[.slice va P.length vc, .int .i64 o1, .int .i64 o2, .bool o3] 41)) r).alloc (.cells #[.int .i64 ox1, .int .i64 ox2, .bool ox3, .int .i64 oy1, .int .i64 oy2, .bool oy3, .int .i64 oz1, .int .i64 oz2, .bool oz3] 30)) wr) (fun i _ => P.length - (intOf i).toNat)
    case atStart => exact ⟨0, by omega, rfl, (by repeat (first | exact More.refl _ | refine More.alloc ?_ _ | refine More.more ?_ _ | refine More.drew ?_ | refine More.drewN ?_ _))⟩
    case round =>
      obtain ⟨k, hk, rfl, s, rfl⟩ := hrel
      by_cases hkl : k < P.length
      · obtain ⟨f, hf⟩ : ∃ f, P[k]? = some f := ⟨P[k], List.getElem?_eq_getElem hkl⟩
        obtain ⟨b, off, rfl, hb, hL, -⟩ := sfs_at (w := ((more ((more (w.alloc (.cells #[.int .i64 l6.a, .int .i64 l6.b, .int .i64 l6.c, .int .i64 l6.d, .int .i64 l6.e, .int .i64 l6.f] 38)) rs).alloc (.cells #[.slice va P.length vc, .int .i64 o1, .int .i64 o2, .bool o3] 41)) r).alloc (.cells #[.int .i64 ox1, .int .i64 ox2, .bool ox3, .int .i64 oy1, .int .i64 oy2, .bool oy3, .int .i64 oz1, .int .i64 oz2, .bool oz3] 30))) (HS.out.up (by repeat (first | exact More.refl _ | refine More.alloc ?_ _ | refine More.more ?_ _ | refine More.drew ?_ | refine More.drewN ?_ _))) hf
        have hlt : ((k : Nat) : Int) < ((P.length : Nat) : Int) := by omega
        have hmem := List.mem_of_getElem? hf
        have hmd := HMD.out f hmem
        clear hf hmem
        clear hmd
        obtain ⟨⟨⟨Ax1, Ax2, Ax3⟩, ⟨Ay1, Ay2, Ay3⟩, ⟨Az1, Az2, Az3⟩⟩, hA⟩ : ∃ d, normP f ⟨⟨ox1, ox2, ox3⟩, ⟨oy1, oy2, oy3⟩, ⟨oz1, oz2, oz3⟩⟩ = d := ⟨_, rfl⟩
        go_wp2_with (first | (go_at_call 12; (with_reducible refine (norm_c f ⟨⟨ox1, ox2, ox3⟩, ⟨oy1, oy2, oy3⟩, ⟨oz1, oz2, oz3⟩⟩ _).mono ?_); rintro e w' ⟨rfl, r5, rfl⟩; rw [hA]) | (go_at_call 22; (with_reducible refine (rnorm_c f ⟨⟨ox1, ox2, ox3⟩, ⟨oy1, oy2, oy3⟩, ⟨oz1, oz2, oz3⟩⟩ _).mono ?_); rintro e w' ⟨rfl, r5, rfl⟩; rw [hA]) | (first | ((with_reducible show Code.wp _ (Code.region 8 _ true) _ _ _); (with_reducible refine wp_more_quick_m (id := 8) ?_ ?_ ?_); kernel_rfl; kernel_rfl; (try simp only [List.take_succ_cons, List.take_zero, List.drop_succ_cons, List.drop_zero]); (repeat (any_goals (first | go_big_quiet_step ((first | (go_at_call 12; (with_reducible apply quiet_call); with_reducible exact norm_c f ⟨⟨ox1, ox2, ox3⟩, ⟨oy1, oy2, oy3⟩, ⟨oz1, oz2, oz3⟩⟩ _) | (go_at_call 22; (with_reducible apply quiet_call); with_reducible exact rnorm_c f ⟨⟨ox1, ox2, ox3⟩, ⟨oy1, oy2, oy3⟩, ⟨oz1, oz2, oz3⟩⟩ _) | (go_at_call 12; (with_reducible apply quiet_call); with_reducible exact norm_c f ⟨⟨qx1, qx2, qx3⟩, ⟨qy1, qy2, qy3⟩, ⟨qz1, qz2, qz3⟩⟩ _) | (go_at_call 22; (with_reducible apply quiet_call); with_reducible exact rnorm_c f ⟨⟨qx1, qx2, qx3⟩, ⟨qy1, qy2, qy3⟩, ⟨qz1, qz2, qz3⟩⟩ _))) | quiet_step ((first | (go_at_call 12; (with_reducible apply quiet_call); with_reducible exact norm_c f ⟨⟨ox1, ox2, ox3⟩, ⟨oy1, oy2, oy3⟩, ⟨oz1, oz2, oz3⟩⟩ _) | (go_at_call 22; (with_reducible apply quiet_call); with_reducible exact rnorm_c f ⟨⟨ox1, ox2, ox3⟩, ⟨oy1, oy2, oy3⟩, ⟨oz1, oz2, oz3⟩⟩ _) | (go_at_call 12; (with_reducible apply quiet_call); with_reducible exact norm_c f ⟨⟨qx1, qx2, qx3⟩, ⟨qy1, qy2, qy3⟩, ⟨qz1, qz2, qz3⟩⟩ _) | (go_at_call 22; (with_reducible apply quiet_call); with_reducible exact rnorm_c f ⟨⟨qx1, qx2, qx3⟩, ⟨qy1, qy2, qy3⟩, ⟨qz1, qz2, qz3⟩⟩ _)))))); (with_reducible refine wpQuiet_nil ?_); intro r) | ((with_reducible show Code.wp _ (Code.region 8 _ true) _ _ _); (with_reducible refine wp_more_quick (id := 8) ?_ ?_ ?_); kernel_rfl; kernel_rfl; (try simp only [List.take_succ_cons, List.take_zero, List.drop_succ_cons, List.drop_zero]); (repeat (any_goals (first | go_big_quiet_step ((first | (go_at_call 12; (with_reducible apply quiet_call); with_reducible exact norm_c f ⟨⟨ox1, ox2, ox3⟩, ⟨oy1, oy2, oy3⟩, ⟨oz1, oz2, oz3⟩⟩ _) | (go_at_call 22; (with_reducible apply quiet_call); with_reducible exact rnorm_c f ⟨⟨ox1, ox2, ox3⟩, ⟨oy1, oy2, oy3⟩, ⟨oz1, oz2, oz3⟩⟩ _) | (go_at_call 12; (with_reducible apply quiet_call); with_reducible exact norm_c f ⟨⟨qx1, qx2, qx3⟩, ⟨qy1, qy2, qy3⟩, ⟨qz1, qz2, qz3⟩⟩ _) | (go_at_call 22; (with_reducible apply quiet_call); with_reducible exact rnorm_c f ⟨⟨qx1, qx2, qx3⟩, ⟨qy1, qy2, qy3⟩, ⟨qz1, qz2, qz3⟩⟩ _))) | quiet_step ((first | (go_at_call 12; (with_reducible apply quiet_call); with_reducible exact norm_c f ⟨⟨ox1, ox2, ox3⟩, ⟨oy1, oy2, oy3⟩, ⟨oz1, oz2, oz3⟩⟩ _) | (go_at_call 22; (with_reducible apply quiet_call); with_reducible exact rnorm_c f ⟨⟨ox1, ox2, ox3⟩, ⟨oy1, oy2, oy3⟩, ⟨oz1, oz2, oz3⟩⟩ _) | (go_at_call 12; (with_reducible apply quiet_call); with_reducible exact norm_c f ⟨⟨qx1, qx2, qx3⟩, ⟨qy1, qy2, qy3⟩, ⟨qz1, qz2, qz3⟩⟩ _) | (go_at_call 22; (with_reducible apply quiet_call); with_reducible exact rnorm_c f ⟨⟨qx1, qx2, qx3⟩, ⟨qy1, qy2, qy3⟩, ⟨qz1, qz2, qz3⟩⟩ _)))))); (with_reducible refine wpQuiet_nil ?_); intro r)))
        go_roundw
        case rel => (first | exact ⟨k + 1, by omega, rfl, (by repeat (first | exact More.refl _ | refine More.alloc ?_ _ | refine More.more ?_ _ | refine More.drew ?_ | refine More.drewN ?_ _))⟩ | ((repeat apply Exists.intro); exact ⟨⟨k + 1, by omega, rfl, (by repeat (first | exact More.refl _ | refine More.alloc ?_ _ | refine More.more ?_ _ | refine More.drew ?_ | refine More.drewN ?_ _))⟩, rfl⟩))
        case measure => simp [intOf] <;> omega
      · obtain rfl : k = P.length := by omega
        go_wp2_with (first | (first | (go_at_call 16; (with_reducible refine (known16_c _).mono ?_); rintro e w' ⟨rfl, r, rfl⟩)))
        go_returns
        exact ⟨rfl, (by repeat (first | exact More.refl _ | refine More.alloc ?_ _ | refine More.more ?_ _ | refine More.drew ?_ | refine More.drewN ?_ _))⟩
  | true =>
    go_wp2_with (first | (first | (go_at_call 20; (with_reducible refine (place16_c _ _ _ _ (by omega) (by omega) (by omega) (by omega) (by omega) (by omega) (by omega) (by omega) _).mono ?_); rintro e w' ⟨rfl, r, rfl⟩) | (go_at_call 21; (with_reducible refine (hv_c _ (by assumption) _).mono ?_); rintro e w' ⟨rfl, r, rfl⟩) | (go_at_call 21; (with_reducible refine (hv_c ⟨_, _, _, _, _, _⟩ (by assumption) _).mono ?_); rintro e w' ⟨rfl, r, rfl⟩)))
    rename_i r5 KK kk
    go_loopw [35] (fun i wr => ∃ k : Nat, k ≤ P.length ∧ i = .int .i64 k ∧ More ((more ((more (w.alloc (.cells #[.int .i64 l6.a, .int .i64 l6.b, .int .i64 l6.c, .int .i64 l6.d, .int .i64 l6.e, .int .i64 l6.f] 38)) rs).alloc (.cells #[.slice va P.length vc, .int .i64 o1, .int .i64 o2, .bool o3] 41)) r5).alloc (.cells #[.int .i64 qx1, .int .i64 qx2, .bool qx3, .int .i64 qy1, .int .i64 qy2, .bool qy3, .int .i64 qz1, .int .i64 qz2, .bool qz3] 30)) wr) (fun i _ => P.length - (intOf i).toNat)
    case atStart => exact ⟨0, by omega, rfl, (by repeat (first | exact More.refl _ | refine More.alloc ?_ _ | refine More.more ?_ _ | refine More.drew ?_ | refine More.drewN ?_ _))⟩
    case round =>
      obtain ⟨k, hk, rfl, s, rfl⟩ := hrel
      by_cases hkl : k < P.length
      · obtain ⟨f, hf⟩ : ∃ f, P[k]? = some f := ⟨P[k], List.getElem?_eq_getElem hkl⟩
        obtain ⟨b, off, rfl, hb, hL, -⟩ := sfs_at (w := ((more ((more (w.alloc (.cells #[.int .i64 l6.a, .int .i64 l6.b, .int .i64 l6.c, .int .i64 l6.d, .int .i64 l6.e, .int .i64 l6.f] 38)) rs).alloc (.cells #[.slice va P.length vc, .int .i64 o1, .int .i64 o2, .bool o3] 41)) r5).alloc (.cells #[.int .i64 qx1, .int .i64 qx2, .bool qx3, .int .i64 qy1, .int .i64 qy2, .bool qy3, .int .i64 qz1, .int .i64 qz2, .bool qz3] 30))) (HS.out.up (by repeat (first | exact More.refl _ | refine More.alloc ?_ _ | refine More.more ?_ _ | refine More.drew ?_ | refine More.drewN ?_ _))) hf
        have hlt : ((k : Nat) : Int) < ((P.length : Nat) : Int) := by omega
        have hmem := List.mem_of_getElem? hf
        have hmd := HMD.out f hmem
        clear hf hmem
        clear hmd
        obtain ⟨⟨⟨Ax1, Ax2, Ax3⟩, ⟨Ay1, Ay2, Ay3⟩, ⟨Az1, Az2, Az3⟩⟩, hA⟩ : ∃ d, normP f ⟨⟨qx1, qx2, qx3⟩, ⟨qy1, qy2, qy3⟩, ⟨qz1, qz2, qz3⟩⟩ = d := ⟨_, rfl⟩
        go_wp2_with (first | (go_at_call 12; (with_reducible refine (norm_c f ⟨⟨qx1, qx2, qx3⟩, ⟨qy1, qy2, qy3⟩, ⟨qz1, qz2, qz3⟩⟩ _).mono ?_); rintro e w' ⟨rfl, r5, rfl⟩; rw [hA]) | (go_at_call 22; (with_reducible refine (rnorm_c f ⟨⟨qx1, qx2, qx3⟩, ⟨qy1, qy2, qy3⟩, ⟨qz1, qz2, qz3⟩⟩ _).mono ?_); rintro e w' ⟨rfl, r5, rfl⟩; rw [hA]) | (first | ((with_reducible show Code.wp _ (Code.region 8 _ true) _ _ _); (with_reducible refine wp_more_quick_m (id := 8) ?_ ?_ ?_); kernel_rfl; kernel_rfl; (try simp only [List.take_succ_cons, List.take_zero, List.drop_succ_cons, List.drop_zero]); (repeat (any_goals (first | go_big_quiet_step ((first | (go_at_call 12; (with_reducible apply quiet_call); with_reducible exact norm_c f ⟨⟨ox1, ox2, ox3⟩, ⟨oy1, oy2, oy3⟩, ⟨oz1, oz2, oz3⟩⟩ _) | (go_at_call 22; (with_reducible apply quiet_call); with_reducible exact rnorm_c f ⟨⟨ox1, ox2, ox3⟩, ⟨oy1, oy2, oy3⟩, ⟨oz1, oz2, oz3⟩⟩ _) | (go_at_call 12; (with_reducible apply quiet_call); with_reducible exact norm_c f ⟨⟨qx1, qx2, qx3⟩, ⟨qy1, qy2, qy3⟩, ⟨qz1, qz2, qz3⟩⟩ _) | (go_at_call 22; (with_reducible apply quiet_call); with_reducible exact rnorm_c f ⟨⟨qx1, qx2, qx3⟩, ⟨qy1, qy2, qy3⟩, ⟨qz1, qz2, qz3⟩⟩ _))) | quiet_step ((first | (go_at_call 12; (with_reducible apply quiet_call); with_reducible exact norm_c f ⟨⟨ox1, ox2, ox3⟩, ⟨oy1, oy2, oy3⟩, ⟨oz1, oz2, oz3⟩⟩ _) | (go_at_call 22; (with_reducible apply quiet_call); with_reducible exact rnorm_c f ⟨⟨ox1, ox2, ox3⟩, ⟨oy1, oy2, oy3⟩, ⟨oz1, oz2, oz3⟩⟩ _) | (go_at_call 12; (with_reducible apply quiet_call); with_reducible exact norm_c f ⟨⟨qx1, qx2, qx3⟩, ⟨qy1, qy2, qy3⟩, ⟨qz1, qz2, qz3⟩⟩ _) | (go_at_call 22; (with_reducible apply quiet_call); with_reducible exact rnorm_c f ⟨⟨qx1, qx2, qx3⟩, ⟨qy1, qy2, qy3⟩, ⟨qz1, qz2, qz3⟩⟩ _)))))); (with_reducible refine wpQuiet_nil ?_); intro r) | ((with_reducible show Code.wp _ (Code.region 8 _ true) _ _ _); (with_reducible refine wp_more_quick (id := 8) ?_ ?_ ?_); kernel_rfl; kernel_rfl; (try simp only [List.take_succ_cons, List.take_zero, List.drop_succ_cons, List.drop_zero]); (repeat (any_goals (first | go_big_quiet_step ((first | (go_at_call 12; (with_reducible apply quiet_call); with_reducible exact norm_c f ⟨⟨ox1, ox2, ox3⟩, ⟨oy1, oy2, oy3⟩, ⟨oz1, oz2, oz3⟩⟩ _) | (go_at_call 22; (with_reducible apply quiet_call); with_reducible exact rnorm_c f ⟨⟨ox1, ox2, ox3⟩, ⟨oy1, oy2, oy3⟩, ⟨oz1, oz2, oz3⟩⟩ _) | (go_at_call 12; (with_reducible apply quiet_call); with_reducible exact norm_c f ⟨⟨qx1, qx2, qx3⟩, ⟨qy1, qy2, qy3⟩, ⟨qz1, qz2, qz3⟩⟩ _) | (go_at_call 22; (with_reducible apply quiet_call); with_reducible exact rnorm_c f ⟨⟨qx1, qx2, qx3⟩, ⟨qy1, qy2, qy3⟩, ⟨qz1, qz2, qz3⟩⟩ _))) | quiet_step ((first | (go_at_call 12; (with_reducible apply quiet_call); with_reducible exact norm_c f ⟨⟨ox1, ox2, ox3⟩, ⟨oy1, oy2, oy3⟩, ⟨oz1, oz2, oz3⟩⟩ _) | (go_at_call 22; (with_reducible apply quiet_call); with_reducible exact rnorm_c f ⟨⟨ox1, ox2, ox3⟩, ⟨oy1, oy2, oy3⟩, ⟨oz1, oz2, oz3⟩⟩ _) | (go_at_call 12; (with_reducible apply quiet_call); with_reducible exact norm_c f ⟨⟨qx1, qx2, qx3⟩, ⟨qy1, qy2, qy3⟩, ⟨qz1, qz2, qz3⟩⟩ _) | (go_at_call 22; (with_reducible apply quiet_call); with_reducible exact rnorm_c f ⟨⟨qx1, qx2, qx3⟩, ⟨qy1, qy2, qy3⟩, ⟨qz1, qz2, qz3⟩⟩ _)))))); (with_reducible refine wpQuiet_nil ?_); intro r)))
        go_roundw
        case rel => (first | exact ⟨k + 1, by omega, rfl, (by repeat (first | exact More.refl _ | refine More.alloc ?_ _ | refine More.more ?_ _ | refine More.drew ?_ | refine More.drewN ?_ _))⟩ | ((repeat apply Exists.intro); exact ⟨⟨k + 1, by omega, rfl, (by repeat (first | exact More.refl _ | refine More.alloc ?_ _ | refine More.more ?_ _ | refine More.drew ?_ | refine More.drewN ?_ _))⟩, rfl⟩))
        case measure => simp [intOf] <;> omega
      · obtain rfl : k = P.length := by omega
        go_wp2_with (first | (first | (go_at_call 16; (with_reducible refine (known16_c _).mono ?_); rintro e w' ⟨rfl, r, rfl⟩)))
        go_returns
        exact ⟨rfl, (by repeat (first | exact More.refl _ | refine More.alloc ?_ _ | refine More.more ?_ _ | refine More.drew ?_ | refine More.drewN ?_ _))⟩
end Go.Proofs.Ytggohceeeggnmaa

