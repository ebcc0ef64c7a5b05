/-
  HitOn: the walk.
-/
import Derived.Test.YtggohceeeggnmaaGreatLaw14
import Derived.Test.YtggohceeeggnmaaGreatSagOf
import Derived.Test.YtggohceeeggnmaaGreatGp5
import Derived.Test.YtggohceeeggnmaaGreatLaw15
import Derived.Test.YtggohceeeggnmaaGreatHitHand
import Derived.Test.YtggohceeeggnmaaGreatGv5
import Derived.Test.YtggohceeeggnmaaGreatGr5
import Derived.Test.YtggohceeeggnmaaGreatReg8
namespace Go.Proofs.YtggohceeeggnmaaGreat
set_option linter.unusedVariables false
open Go.ChangeShapes Go.WideShapes Go.ChangeAt Go.RowKit

set_option maxHeartbeats 16000000 in
set_option maxRecDepth 100000 in
theorem hitOn_walk (w : World) (a0 : Int) (w0 : (Lit.int .i64 a0).wf = true) (s1 : Value) (l1 : List RawF) (i1 : Raws w s1 l1) (k1 : ∀ f ∈ l1, OkRaw f) (m1 : l1.length ≤ 9223372036854775807) (l2 : Six) (o2 : OkSix l2) :
    Calls Tryz.prog 5 #[.int .i64 a0, s1, sixV l2] w fun e w' => e = .returned (.bool true) ∧ More w w' := by
  obtain ⟨b01, b02⟩ := bounds_i64 w0
  obtain ⟨⟨⟨⟨ox1, ox2, ox3⟩, ⟨oy1, oy2, oy3⟩, ⟨oz1, oz2, oz3⟩⟩, ⟨⟨dx1, dx2, dx3⟩, ⟨dy1, dy2, dy3⟩, ⟨dz1, dz2, dz3⟩⟩⟩, hray⟩ : ∃ d, hRay l2 = d := ⟨_, rfl⟩
  have hsys : ∀ u, More w u → Calls Tryz.prog 6 #[.int .i64 a0, s1, .slice none 0 0, .int .i64 4, .bool false] u fun e w' => ∃ v', e = .returned (syV (hsP a0 l1 [] 4).wide v') ∧ More u w' ∧ Sfs w' v' (hsP a0 l1 [] 4).rows := fun u hM => hsys_c a0 s1 (.slice none 0 0) l1 [] 4 u b01 b02 (i1.up hM) k1 m1 (.inl ⟨rfl, _, _, rfl⟩) (by simp) (by simp) (by decide)
  have hplace := hsP_place a0 l1 [] (most := 4) (by decide)
  have hmild := hsP_mild a0 l1 [] 4
  have hlen := hsP_len a0 l1 [] (most := 4) (by decide)
  obtain ⟨⟨P, ⟨o1, o2, o3⟩⟩, hY⟩ : ∃ Y, hsP a0 l1 [] 4 = Y := ⟨_, rfl⟩
  rw [hY] at hsys hplace hmild hlen
  dsimp only at hsys hplace hmild hlen
  have HPL := Lib.hid hplace
  have HMD := Lib.hid hmild
  have HSYS := Lib.hid hsys
  clear hsys hplace hmild hY i1 k1 m1
  have E := eql_same
  have N := neql_same
  have NP := neql_pl_same
  go_enter Tryz.func5, Tryz.ntmps5
  go_wp2_with fail
  go_at_call 6
  refine Calls.mono (HSYS.out _ (by repeat (first | exact More.refl _ | refine More.alloc ?_ _ | refine More.more ?_ _ | refine More.drew ?_ | refine More.drewN ?_ _))) ?_
  rintro e u ⟨v, rfl, ⟨rs, rfl⟩, hS⟩
  obtain ⟨va, vc, rfl, -⟩ := grow_form sfs_pos hS
  have HS := Lib.hid hS
  clear hS HSYS
  have w1 : ivWhole 1 = ⟨65536, 65536, false⟩ := by kernel_rfl
  have n0 : ivNone = ⟨0, 0, true⟩ := rfl
  have np : plRight ⟨⟨0, 0, true⟩, ⟨0, 0, true⟩, ⟨0, 0, true⟩⟩ = false := by decide
  go_wp2_with (first | (first | (go_at_call 7; (with_reducible refine (hray_c _ (by assumption) _).mono ?_); rintro e w' ⟨rfl, r, rfl⟩) | (go_at_call 7; (with_reducible refine (hray_c ⟨_, _, _, _, _, _⟩ (by assumption) _).mono ?_); rintro e w' ⟨rfl, r, rfl⟩)))
  clear hray
  obtain ⟨rb, hrb⟩ : ∃ x, x = r := ⟨_, rfl⟩
  subst hrb
  go_loopw [25] (fun i wr => ∃ k : Nat, k ≤ P.length ∧ i = .int .i64 k ∧ More ((more ((more (w.alloc (.cells #[.int .i64 l2.a, .int .i64 l2.b, .int .i64 l2.c, .int .i64 l2.d, .int .i64 l2.e, .int .i64 l2.f] 37)) rs).alloc (.cells #[.slice va P.length vc, .int .i64 o1, .int .i64 o2, .bool o3] 29)) rb).alloc (.cells #[.int .i64 ox1, .int .i64 ox2, .bool ox3, .int .i64 oy1, .int .i64 oy2, .bool oy3, .int .i64 oz1, .int .i64 oz2, .bool oz3, .int .i64 dx1, .int .i64 dx2, .bool dx3, .int .i64 dy1, .int .i64 dy2, .bool dy3, .int .i64 dz1, .int .i64 dz2, .bool dz3] 34)) wr) (fun i _ => P.length - (intOf i).toNat)
  case atStart => exact ⟨0, by omega, rfl, (by repeat (first | exact More.refl _ | refine More.alloc ?_ _ | refine More.more ?_ _ | refine More.drew ?_ | refine More.drewN ?_ _))⟩
  case round =>
    obtain ⟨k, hk, rfl, s, rfl⟩ := hrel
    by_cases hkl : k < P.length
    · obtain ⟨f, hf⟩ : ∃ f, P[k]? = some f := ⟨P[k], List.getElem?_eq_getElem hkl⟩
      obtain ⟨b, off, rfl, hb, hL, -⟩ := sfs_at (w := ((more ((more (w.alloc (.cells #[.int .i64 l2.a, .int .i64 l2.b, .int .i64 l2.c, .int .i64 l2.d, .int .i64 l2.e, .int .i64 l2.f] 37)) rs).alloc (.cells #[.slice va P.length vc, .int .i64 o1, .int .i64 o2, .bool o3] 29)) rb).alloc (.cells #[.int .i64 ox1, .int .i64 ox2, .bool ox3, .int .i64 oy1, .int .i64 oy2, .bool oy3, .int .i64 oz1, .int .i64 oz2, .bool oz3, .int .i64 dx1, .int .i64 dx2, .bool dx3, .int .i64 dy1, .int .i64 dy2, .bool dy3, .int .i64 dz1, .int .i64 dz2, .bool dz3] 34))) (HS.out.up (by repeat (first | exact More.refl _ | refine More.alloc ?_ _ | refine More.more ?_ _ | refine More.drew ?_ | refine More.drewN ?_ _))) hf
      have hlt : ((k : Nat) : Int) < ((P.length : Nat) : Int) := by omega
      have hmem := List.mem_of_getElem? hf
      have hpl := HPL.out f hmem
      have hmd := HMD.out f hmem
      clear hf hmem
      have hon := hit_on_law (r := ⟨⟨⟨ox1, ox2, ox3⟩, ⟨oy1, oy2, oy3⟩, ⟨oz1, oz2, oz3⟩⟩, ⟨⟨dx1, dx2, dx3⟩, ⟨dy1, dy2, dy3⟩, ⟨dz1, dz2, dz3⟩⟩⟩) hmd
      clear hpl hmd
      obtain ⟨⟨⟨z1, z2, z3⟩, ⟨⟨Px1, Px2, Px3⟩, ⟨Py1, Py2, Py3⟩, ⟨Pz1, Pz2, Pz3⟩⟩, z4⟩, hz⟩ : ∃ d, hitP f ⟨⟨⟨ox1, ox2, ox3⟩, ⟨oy1, oy2, oy3⟩, ⟨oz1, oz2, oz3⟩⟩, ⟨⟨dx1, dx2, dx3⟩, ⟨dy1, dy2, dy3⟩, ⟨dz1, dz2, dz3⟩⟩⟩ = d := ⟨_, rfl⟩
      rw [hz] at hon
      dsimp only at hon
      rcases hon with ⟨hi, ht, hp⟩ | ⟨rfl, hon⟩
      · injection ht with q1 q2 q3
        injection hp with q4 q5 q6
        injection q4 with q4 q7 q8
        injection q5 with q5 q9 q10
        injection q6 with q6 q11 q12
        subst q1 q2 q3 q4 q5 q6 q7 q8 q9 q10 q11 q12
        rcases hi with rfl | rfl
        all_goals
          go_wp2_with (first | (go_at_call 9; (with_reducible refine (hitof_c f ⟨⟨⟨ox1, ox2, ox3⟩, ⟨oy1, oy2, oy3⟩, ⟨oz1, oz2, oz3⟩⟩, ⟨⟨dx1, dx2, dx3⟩, ⟨dy1, dy2, dy3⟩, ⟨dz1, dz2, dz3⟩⟩⟩ _).mono ?_); rintro e w' ⟨rfl, r5, rfl⟩; rw [hz]; dsimp only) | (first | (go_at_call 17; (with_reducible refine (none_c _).mono ?_); rintro e w' ⟨rfl, r, rfl⟩) | (go_at_call 18; (with_reducible refine (vright_c _ _).mono ?_); rintro e w' ⟨rfl, r, rfl⟩) | (go_at_call 18; (with_reducible refine (vright_c ⟨_, _, _⟩ _).mono ?_); rintro e w' ⟨rfl, r, rfl⟩) | (go_at_call 18; (with_reducible refine (vright_c ⟨⟨_, _, _⟩, ⟨_, _, _⟩, ⟨_, _, _⟩⟩ _).mono ?_); rintro e w' ⟨rfl, r, rfl⟩) | ((with_reducible show Code.wp _ (Code.region 8 _ true) _ _ _); (with_reducible refine wp_more_quick_m (id := 8) ?_ ?_ ?_); kernel_rfl; kernel_rfl; (try simp only [List.take_succ_cons, List.take_zero, List.drop_succ_cons, List.drop_zero]); (repeat (any_goals (first | go_big_quiet_step ((first | (go_at_call 17; (with_reducible apply quiet_call); with_reducible exact none_c _) | (go_at_call 18; (with_reducible apply quiet_call_b); (with_reducible exact vright_c _ _); with_reducible assumption) | (go_at_call 18; (with_reducible apply quiet_call); with_reducible exact vright_c _ _) | (go_at_call 18; (with_reducible apply quiet_call_b); (with_reducible exact vright_c ⟨_, _, _⟩ _); with_reducible assumption) | (go_at_call 18; (with_reducible apply quiet_call); with_reducible exact vright_c ⟨_, _, _⟩ _) | (go_at_call 18; (with_reducible apply quiet_call_b); (with_reducible exact vright_c ⟨⟨_, _, _⟩, ⟨_, _, _⟩, ⟨_, _, _⟩⟩ _); with_reducible assumption) | (go_at_call 18; (with_reducible apply quiet_call); with_reducible exact vright_c ⟨⟨_, _, _⟩, ⟨_, _, _⟩, ⟨_, _, _⟩⟩ _))) | quiet_step ((first | (go_at_call 17; (with_reducible apply quiet_call); with_reducible exact none_c _) | (go_at_call 18; (with_reducible apply quiet_call_b); (with_reducible exact vright_c _ _); with_reducible assumption) | (go_at_call 18; (with_reducible apply quiet_call); with_reducible exact vright_c _ _) | (go_at_call 18; (with_reducible apply quiet_call_b); (with_reducible exact vright_c ⟨_, _, _⟩ _); with_reducible assumption) | (go_at_call 18; (with_reducible apply quiet_call); with_reducible exact vright_c ⟨_, _, _⟩ _) | (go_at_call 18; (with_reducible apply quiet_call_b); (with_reducible exact vright_c ⟨⟨_, _, _⟩, ⟨_, _, _⟩, ⟨_, _, _⟩⟩ _); with_reducible assumption) | (go_at_call 18; (with_reducible apply quiet_call); with_reducible exact vright_c ⟨⟨_, _, _⟩, ⟨_, _, _⟩, ⟨_, _, _⟩⟩ _)))))); (with_reducible refine wpQuiet_nil ?_); intro r) | ((with_reducible show Code.wp _ (Code.region 8 _ true) _ _ _); (with_reducible refine wp_more_quick (id := 8) ?_ ?_ ?_); kernel_rfl; kernel_rfl; (try simp only [List.take_succ_cons, List.take_zero, List.drop_succ_cons, List.drop_zero]); (repeat (any_goals (first | go_big_quiet_step ((first | (go_at_call 17; (with_reducible apply quiet_call); with_reducible exact none_c _) | (go_at_call 18; (with_reducible apply quiet_call_b); (with_reducible exact vright_c _ _); with_reducible assumption) | (go_at_call 18; (with_reducible apply quiet_call); with_reducible exact vright_c _ _) | (go_at_call 18; (with_reducible apply quiet_call_b); (with_reducible exact vright_c ⟨_, _, _⟩ _); with_reducible assumption) | (go_at_call 18; (with_reducible apply quiet_call); with_reducible exact vright_c ⟨_, _, _⟩ _) | (go_at_call 18; (with_reducible apply quiet_call_b); (with_reducible exact vright_c ⟨⟨_, _, _⟩, ⟨_, _, _⟩, ⟨_, _, _⟩⟩ _); with_reducible assumption) | (go_at_call 18; (with_reducible apply quiet_call); with_reducible exact vright_c ⟨⟨_, _, _⟩, ⟨_, _, _⟩, ⟨_, _, _⟩⟩ _))) | quiet_step ((first | (go_at_call 17; (with_reducible apply quiet_call); with_reducible exact none_c _) | (go_at_call 18; (with_reducible apply quiet_call_b); (with_reducible exact vright_c _ _); with_reducible assumption) | (go_at_call 18; (with_reducible apply quiet_call); with_reducible exact vright_c _ _) | (go_at_call 18; (with_reducible apply quiet_call_b); (with_reducible exact vright_c ⟨_, _, _⟩ _); with_reducible assumption) | (go_at_call 18; (with_reducible apply quiet_call); with_reducible exact vright_c ⟨_, _, _⟩ _) | (go_at_call 18; (with_reducible apply quiet_call_b); (with_reducible exact vright_c ⟨⟨_, _, _⟩, ⟨_, _, _⟩, ⟨_, _, _⟩⟩ _); with_reducible assumption) | (go_at_call 18; (with_reducible apply quiet_call); with_reducible exact vright_c ⟨⟨_, _, _⟩, ⟨_, _, _⟩, ⟨_, _, _⟩⟩ _)))))); (with_reducible refine wpQuiet_nil ?_); intro r)))
          go_roundw
          case rel => (first | exact ⟨k + 1, by omega, rfl, (by repeat (first | exact More.refl _ | refine More.alloc ?_ _ | refine More.more ?_ _ | refine More.drew ?_ | refine More.drewN ?_ _))⟩ | ((repeat apply Exists.intro); exact ⟨⟨k + 1, by omega, rfl, (by repeat (first | exact More.refl _ | refine More.alloc ?_ _ | refine More.more ?_ _ | refine More.drew ?_ | refine More.drewN ?_ _))⟩, rfl⟩))
          case measure => simp [intOf] <;> omega
      · obtain ⟨⟨f1, f2, f3⟩, hfr⟩ : ∃ d, ivSub ⟨65536, 65536, false⟩ (ivMul f.curve (ivMul f.conic ⟨Pz1, Pz2, Pz3⟩)) = d := ⟨_, rfl⟩
        obtain ⟨⟨s1', s2', s3'⟩, hsz⟩ : ∃ d, sagZ f (ivAdd (ivSqr ⟨Px1, Px2, Px3⟩) (ivSqr ⟨Py1, Py2, Py3⟩)) = d := ⟨_, rfl⟩
        obtain ⟨⟨m1', m2', m3'⟩, hsm⟩ : ∃ d, sagM f (ivAdd (ivSqr ⟨Px1, Px2, Px3⟩) (ivSqr ⟨Py1, Py2, Py3⟩)) = d := ⟨_, rfl⟩
        obtain ⟨⟨n1, n2, n3⟩, hme⟩ : ∃ d, ivMeet ⟨s1', s2', s3'⟩ ⟨Pz1, Pz2, Pz3⟩ = d := ⟨_, rfl⟩
        unfold hitR2 at hon
        dsimp only at hon
        rw [w1, hfr, hsz, hme] at hon
        dsimp only at hon
        obtain ⟨fs, fb, ⟨c1, c2, c3⟩, ⟨k1, k2, k3⟩, fa, fg, fp, fo, fr⟩ := f
        dsimp only at hon hfr
        have HON := Lib.hid hon
        have HSZ := Lib.hid hsz
        clear hon hsz hsm
        go_upto_region 11 with (first | (go_at_call 9; (with_reducible refine (hitof_c ⟨fs, fb, ⟨c1, c2, c3⟩, ⟨k1, k2, k3⟩, fa, fg, fp, fo, fr⟩ ⟨⟨⟨ox1, ox2, ox3⟩, ⟨oy1, oy2, oy3⟩, ⟨oz1, oz2, oz3⟩⟩, ⟨⟨dx1, dx2, dx3⟩, ⟨dy1, dy2, dy3⟩, ⟨dz1, dz2, dz3⟩⟩⟩ _).mono ?_); rintro e w' ⟨rfl, r5, rfl⟩; rw [hz]; dsimp only) | (first | (go_at_call 19; (with_reducible refine (sub_c _ _ _).mono ?_); rintro e w' ⟨rfl, r, rfl⟩) | (go_at_call 19; (with_reducible refine (sub_c _ ⟨_, _, _⟩ _).mono ?_); rintro e w' ⟨rfl, r, rfl⟩) | (go_at_call 19; (with_reducible refine (sub_c ⟨_, _, _⟩ _ _).mono ?_); rintro e w' ⟨rfl, r, rfl⟩) | (go_at_call 19; (with_reducible refine (sub_c ⟨_, _, _⟩ ⟨_, _, _⟩ _).mono ?_); rintro e w' ⟨rfl, r, rfl⟩) | (go_at_call 20; (with_reducible refine (whole_c _ _).mono ?_); rintro e w' ⟨rfl, r, rfl⟩) | (go_at_call 21; (with_reducible refine (mul_iv_c _ _ _).mono ?_); rintro e w' ⟨rfl, r, rfl⟩) | (go_at_call 21; (with_reducible refine (mul_iv_c _ ⟨_, _, _⟩ _).mono ?_); rintro e w' ⟨rfl, r, rfl⟩) | (go_at_call 21; (with_reducible refine (mul_iv_c ⟨_, _, _⟩ _ _).mono ?_); rintro e w' ⟨rfl, r, rfl⟩) | (go_at_call 21; (with_reducible refine (mul_iv_c ⟨_, _, _⟩ ⟨_, _, _⟩ _).mono ?_); rintro e w' ⟨rfl, r, rfl⟩) | ((with_reducible show Code.wp _ (Code.region 10 _ true) _ _ _); (with_reducible apply wp_more_heap_m (id := 10) 11 10 14); kernel_rfl; kernel_rfl; rfl; decide; rfl; (intro _ _; go_simp; rfl); intro x; (try simp only [List.append_eq, List.cons_append, List.nil_append]); (simp only [List.take_succ_cons, List.take_zero, List.drop_succ_cons, List.drop_zero, skipAt, Nat.reduceAdd, Nat.reduceEqDiff, reduceIte, Nat.zero_add]); (repeat (any_goals (first | go_big_quiet_step ((first | (go_at_call 19; (with_reducible apply quiet_up); with_reducible exact sub_c _ _ _) | (go_at_call 19; (with_reducible apply quiet_up); with_reducible exact sub_c _ ⟨_, _, _⟩ _) | (go_at_call 19; (with_reducible apply quiet_up); with_reducible exact sub_c ⟨_, _, _⟩ _ _) | (go_at_call 19; (with_reducible apply quiet_up); with_reducible exact sub_c ⟨_, _, _⟩ ⟨_, _, _⟩ _) | (go_at_call 20; (with_reducible apply quiet_up); with_reducible exact whole_c _ _) | (go_at_call 21; (with_reducible apply quiet_up); with_reducible exact mul_iv_c _ _ _) | (go_at_call 21; (with_reducible apply quiet_up); with_reducible exact mul_iv_c _ ⟨_, _, _⟩ _) | (go_at_call 21; (with_reducible apply quiet_up); with_reducible exact mul_iv_c ⟨_, _, _⟩ _ _) | (go_at_call 21; (with_reducible apply quiet_up); with_reducible exact mul_iv_c ⟨_, _, _⟩ ⟨_, _, _⟩ _))) | quiet_step ((first | (go_at_call 19; (with_reducible apply quiet_up); with_reducible exact sub_c _ _ _) | (go_at_call 19; (with_reducible apply quiet_up); with_reducible exact sub_c _ ⟨_, _, _⟩ _) | (go_at_call 19; (with_reducible apply quiet_up); with_reducible exact sub_c ⟨_, _, _⟩ _ _) | (go_at_call 19; (with_reducible apply quiet_up); with_reducible exact sub_c ⟨_, _, _⟩ ⟨_, _, _⟩ _) | (go_at_call 20; (with_reducible apply quiet_up); with_reducible exact whole_c _ _) | (go_at_call 21; (with_reducible apply quiet_up); with_reducible exact mul_iv_c _ _ _) | (go_at_call 21; (with_reducible apply quiet_up); with_reducible exact mul_iv_c _ ⟨_, _, _⟩ _) | (go_at_call 21; (with_reducible apply quiet_up); with_reducible exact mul_iv_c ⟨_, _, _⟩ _ _) | (go_at_call 21; (with_reducible apply quiet_up); with_reducible exact mul_iv_c ⟨_, _, _⟩ ⟨_, _, _⟩ _)))))); (with_reducible refine wpQuiet_nil ?_); intro r1 r2) | ((with_reducible show Code.wp _ (Code.region 10 _ true) _ _ _); (with_reducible apply wp_more_heap (id := 10) 11 10 14); kernel_rfl; kernel_rfl; rfl; decide; rfl; (intro _ _; go_simp; rfl); intro x; (try simp only [List.append_eq, List.cons_append, List.nil_append]); (simp only [List.take_succ_cons, List.take_zero, List.drop_succ_cons, List.drop_zero, skipAt, Nat.reduceAdd, Nat.reduceEqDiff, reduceIte, Nat.zero_add]); (repeat (any_goals (first | go_big_quiet_step ((first | (go_at_call 19; (with_reducible apply quiet_up); with_reducible exact sub_c _ _ _) | (go_at_call 19; (with_reducible apply quiet_up); with_reducible exact sub_c _ ⟨_, _, _⟩ _) | (go_at_call 19; (with_reducible apply quiet_up); with_reducible exact sub_c ⟨_, _, _⟩ _ _) | (go_at_call 19; (with_reducible apply quiet_up); with_reducible exact sub_c ⟨_, _, _⟩ ⟨_, _, _⟩ _) | (go_at_call 20; (with_reducible apply quiet_up); with_reducible exact whole_c _ _) | (go_at_call 21; (with_reducible apply quiet_up); with_reducible exact mul_iv_c _ _ _) | (go_at_call 21; (with_reducible apply quiet_up); with_reducible exact mul_iv_c _ ⟨_, _, _⟩ _) | (go_at_call 21; (with_reducible apply quiet_up); with_reducible exact mul_iv_c ⟨_, _, _⟩ _ _) | (go_at_call 21; (with_reducible apply quiet_up); with_reducible exact mul_iv_c ⟨_, _, _⟩ ⟨_, _, _⟩ _))) | quiet_step ((first | (go_at_call 19; (with_reducible apply quiet_up); with_reducible exact sub_c _ _ _) | (go_at_call 19; (with_reducible apply quiet_up); with_reducible exact sub_c _ ⟨_, _, _⟩ _) | (go_at_call 19; (with_reducible apply quiet_up); with_reducible exact sub_c ⟨_, _, _⟩ _ _) | (go_at_call 19; (with_reducible apply quiet_up); with_reducible exact sub_c ⟨_, _, _⟩ ⟨_, _, _⟩ _) | (go_at_call 20; (with_reducible apply quiet_up); with_reducible exact whole_c _ _) | (go_at_call 21; (with_reducible apply quiet_up); with_reducible exact mul_iv_c _ _ _) | (go_at_call 21; (with_reducible apply quiet_up); with_reducible exact mul_iv_c _ ⟨_, _, _⟩ _) | (go_at_call 21; (with_reducible apply quiet_up); with_reducible exact mul_iv_c ⟨_, _, _⟩ _ _) | (go_at_call 21; (with_reducible apply quiet_up); with_reducible exact mul_iv_c ⟨_, _, _⟩ ⟨_, _, _⟩ _)))))); (with_reducible refine wpQuiet_nil ?_); intro r1 r2)))
        (first | (with_reducible refine wp_more_apartl_m (id := 11) 14 92 [11] [(27, #[.int .i64 0, .int .i64 0, .bool false])] ?_ ?_ ?_ ?_ ?_ ?_ ?_ ?_ ?_ ?_) | (refine wp_more_apartl (id := 11) 14 92 [11] [(27, #[.int .i64 0, .int .i64 0, .bool false])] ?_ ?_ ?_ ?_ ?_ ?_ ?_ ?_ ?_ ?_))
        · intro p hp; simp only [List.mem_cons, List.not_mem_nil, or_false] at hp; subst hp <;> first | exact new_iv
        · kernel_rfl
        · kernel_rfl
        · kernel_rfl
        · kernel_rfl
        · kernel_rfl
        · kernel_rfl
        · rfl
        · (intro _ _ _ _ _ h; exact h)
        simp only [List.take_succ_cons, List.take_zero, List.drop_succ_cons, List.drop_zero]
        (repeat (first | (refine loose_alloc 15 27 #[.int .i64 0, .int .i64 0, .bool false] new_iv rfl rfl rfl rfl (by simp) ?_) | (refine loose_alloc 16 27 #[.int .i64 0, .int .i64 0, .bool false] new_iv rfl rfl rfl rfl (by simp) ?_) | (refine loose_step rfl (fun K9 hK9 => ?_); go_simp; first | (refine hK9 _ ?_; clear hK9 K9) | (apply Exists.intro; refine ⟨fun _ => ?_, hK9 _ ?_⟩; ((first | (go_at_call 22; with_reducible exact sag_c ⟨fs, fb, ⟨c1, c2, c3⟩, ⟨k1, k2, k3⟩, fa, fg, fp, fo, fr⟩ (ivAdd (ivSqr ⟨Px1, Px2, Px3⟩) (ivSqr ⟨Py1, Py2, Py3⟩)) _) | (go_at_call 22; with_reducible exact sag_c _ _ _) | (go_at_call 22; with_reducible exact sag_c _ ⟨_, _, _⟩ _) | (go_at_call 22; with_reducible exact sag_c ⟨_, _, ⟨_, _, _⟩, ⟨_, _, _⟩, ⟨_, _, _⟩, ⟨_, _, _⟩, ⟨_, _, _⟩, ⟨_, _, _⟩, ⟨_, _, _⟩⟩ ⟨_, _, _⟩ _) | (go_at_call 23; with_reducible exact add_c _ _ _) | (go_at_call 23; with_reducible exact add_c _ ⟨_, _, _⟩ _) | (go_at_call 23; with_reducible exact add_c ⟨_, _, _⟩ _ _) | (go_at_call 23; with_reducible exact add_c ⟨_, _, _⟩ ⟨_, _, _⟩ _) | (go_at_call 24; with_reducible exact sqr_c _ _) | (go_at_call 24; with_reducible exact sqr_c ⟨_, _, _⟩ _))); clear hK9 K9))))
        intro r
        simp only [allFits]
        rintro _ ⟨b2', rfl, hb2', hc2'⟩ _ ⟨b1', rfl, hb1', hc1'⟩ hfar
        have n12 := hfar 12 13 _ _ _ _ 15 16 rfl rfl rfl rfl rfl rfl (by decide)
        simp [Act.put] at n12
        refine two_end 27 3 (.tmp 15) (.tmp 65) (.tmp 16) (.tmp 66) b1' b2' _ _ (cellsI (sagZ ⟨fs, fb, ⟨c1, c2, c3⟩, ⟨k1, k2, k3⟩, fa, fg, fp, fo, fr⟩ (ivAdd (ivSqr ⟨Px1, Px2, Px3⟩) (ivSqr ⟨Py1, Py2, Py3⟩)))) (cellsI (sagM ⟨fs, fb, ⟨c1, c2, c3⟩, ⟨k1, k2, k3⟩, fa, fg, fp, fo, fr⟩ (ivAdd (ivSqr ⟨Px1, Px2, Px3⟩) (ivSqr ⟨Py1, Py2, Py3⟩)))) rfl rfl rfl rfl rfl rfl rfl rfl rfl rfl size_ivT rfl rfl (by decide) (one_iv _ _ _) (one_iv _ _ _) ((More.refl _).more r) hb1' hb2' hc1' rfl hc2' rfl n12 ?_
        clear hfar n12 hb1' hb2' hc1' hc2'
        intro V hMV h1V h2V
        refine wpList_nil ?_
        have hMX : More ((more ((more (w.alloc (.cells #[.int .i64 l2.a, .int .i64 l2.b, .int .i64 l2.c, .int .i64 l2.d, .int .i64 l2.e, .int .i64 l2.f] 37)) rs).alloc (.cells #[.slice (some ⟨b, off, none⟩) P.length vc, .int .i64 o1, .int .i64 o2, .bool o3] 29)) rb).alloc (.cells #[.int .i64 ox1, .int .i64 ox2, .bool ox3, .int .i64 oy1, .int .i64 oy2, .bool oy3, .int .i64 oz1, .int .i64 oz2, .bool oz3, .int .i64 dx1, .int .i64 dx2, .bool dx3, .int .i64 dy1, .int .i64 dy2, .bool dy3, .int .i64 dz1, .int .i64 dz2, .bool dz3] 34)) V := More.trans (by repeat (first | exact More.refl _ | refine More.alloc ?_ _ | refine More.more ?_ _ | refine More.drew ?_ | refine More.drewN ?_ _)) hMV
        have hF0 : OkSfAt V (w.heap.size + (1 + (rs.len + (1 + (rb.len + (1 + s.len)))))) ⟨fs, fb, ⟨c1, c2, c3⟩, ⟨k1, k2, k3⟩, fa, fg, fp, fo, fr⟩ := heap_at (more ((more ((more (w.alloc (.cells #[.int .i64 l2.a, .int .i64 l2.b, .int .i64 l2.c, .int .i64 l2.d, .int .i64 l2.e, .int .i64 l2.f] 37)) rs).alloc (.cells #[.slice (some ⟨b, off, none⟩) P.length vc, .int .i64 o1, .int .i64 o2, .bool o3] 29)) rb).alloc (.cells #[.int .i64 ox1, .int .i64 ox2, .bool ox3, .int .i64 oy1, .int .i64 oy2, .bool oy3, .int .i64 oz1, .int .i64 oz2, .bool oz3, .int .i64 dx1, .int .i64 dx2, .bool dx3, .int .i64 dy1, .int .i64 dy2, .bool dy3, .int .i64 dz1, .int .i64 dz2, .bool dz3] 34)) s) (More.trans (by repeat (first | exact More.refl _ | refine More.alloc ?_ _ | refine More.more ?_ _ | refine More.drew ?_ | refine More.drewN ?_ _)) hMV) (by simp [Nat.add_assoc])
        have hP0 : OkPlAt V (w.heap.size + (1 + (rs.len + (1 + (rb.len + (1 + (s.len + (1 + (r5.len + 1)))))))))  ⟨⟨Px1, Px2, Px3⟩, ⟨Py1, Py2, Py3⟩, ⟨Pz1, Pz2, Pz3⟩⟩ := heap_at ((more ((more ((more ((more (w.alloc (.cells #[.int .i64 l2.a, .int .i64 l2.b, .int .i64 l2.c, .int .i64 l2.d, .int .i64 l2.e, .int .i64 l2.f] 37)) rs).alloc (.cells #[.slice (some ⟨b, off, none⟩) P.length vc, .int .i64 o1, .int .i64 o2, .bool o3] 29)) rb).alloc (.cells #[.int .i64 ox1, .int .i64 ox2, .bool ox3, .int .i64 oy1, .int .i64 oy2, .bool oy3, .int .i64 oz1, .int .i64 oz2, .bool oz3, .int .i64 dx1, .int .i64 dx2, .bool dx3, .int .i64 dy1, .int .i64 dy2, .bool dy3, .int .i64 dz1, .int .i64 dz2, .bool dz3] 34)) s).alloc (.cells #[.bool fs, .bool fb, .int .i64 c1, .int .i64 c2, .bool c3, .int .i64 k1, .int .i64 k2, .bool k3, .int .i64 fa.lo, .int .i64 fa.hi, .bool fa.no, .int .i64 fg.lo, .int .i64 fg.hi, .bool fg.no, .int .i64 fp.lo, .int .i64 fp.hi, .bool fp.no, .int .i64 fo.lo, .int .i64 fo.hi, .bool fo.no, .int .i64 fr.lo, .int .i64 fr.hi, .bool fr.no] 43)) r5).alloc (.cells #[.int .i64 z1, .int .i64 z2, .bool z3] 27)) (More.trans (by repeat (first | exact More.refl _ | refine More.alloc ?_ _ | refine More.more ?_ _ | refine More.drew ?_ | refine More.drewN ?_ _)) hMV) (by simp [Nat.add_assoc])
        have hG0 : V.heap[w.heap.size + (1 + (rs.len + (1 + (rb.len + (1 + (s.len + (1 + (r5.len + (2 + r1.len)))))))))]? = some (.cells #[.int .i64 f1, .int .i64 f2, .bool f3] 27 (0, 0)) := heap_at (more (((more ((more ((more ((more (w.alloc (.cells #[.int .i64 l2.a, .int .i64 l2.b, .int .i64 l2.c, .int .i64 l2.d, .int .i64 l2.e, .int .i64 l2.f] 37)) rs).alloc (.cells #[.slice (some ⟨b, off, none⟩) P.length vc, .int .i64 o1, .int .i64 o2, .bool o3] 29)) rb).alloc (.cells #[.int .i64 ox1, .int .i64 ox2, .bool ox3, .int .i64 oy1, .int .i64 oy2, .bool oy3, .int .i64 oz1, .int .i64 oz2, .bool oz3, .int .i64 dx1, .int .i64 dx2, .bool dx3, .int .i64 dy1, .int .i64 dy2, .bool dy3, .int .i64 dz1, .int .i64 dz2, .bool dz3] 34)) s).alloc (.cells #[.bool fs, .bool fb, .int .i64 c1, .int .i64 c2, .bool c3, .int .i64 k1, .int .i64 k2, .bool k3, .int .i64 fa.lo, .int .i64 fa.hi, .bool fa.no, .int .i64 fg.lo, .int .i64 fg.hi, .bool fg.no, .int .i64 fp.lo, .int .i64 fp.hi, .bool fp.no, .int .i64 fo.lo, .int .i64 fo.hi, .bool fo.no, .int .i64 fr.lo, .int .i64 fr.hi, .bool fr.no] 43)) r5).alloc (.cells #[.int .i64 z1, .int .i64 z2, .bool z3] 27)).alloc (.cells #[.int .i64 Px1, .int .i64 Px2, .bool Px3, .int .i64 Py1, .int .i64 Py2, .bool Py3, .int .i64 Pz1, .int .i64 Pz2, .bool Pz3] 32)) r1) (More.trans (by repeat (first | exact More.refl _ | refine More.alloc ?_ _ | refine More.more ?_ _ | refine More.drew ?_ | refine More.drewN ?_ _)) hMV) (by simp [Nat.add_assoc])
        rw [HSZ.out] at h1V
        obtain ⟨e0, e1, -⟩ := sfat_cells hF0
        obtain ⟨d0, -, -, d6, d7, d8⟩ := plat_cells hP0
        obtain ⟨g0, g1', g2', g3'⟩ := iv_cells hG0
        obtain ⟨l0, l1', l2', l3'⟩ := iv_cells h1V
        dsimp only at e1 d6 d7 d8
        have HMX := Lib.hid hMX
        have hon := HON.out
        have hways : ivRight ⟨s1', s2', s3'⟩ = false ∨ (ivRight ⟨s1', s2', s3'⟩ = true ∧ fb = true ∧ ivRight ⟨n1, n2, n3⟩ = true) ∨ (ivRight ⟨s1', s2', s3'⟩ = true ∧ fb = false ∧ ivRight ⟨f1, f2, f3⟩ = false) ∨ (ivRight ⟨s1', s2', s3'⟩ = true ∧ fb = false ∧ ivRight ⟨f1, f2, f3⟩ = true ∧ decide (0 < f1) = false) ∨ (ivRight ⟨s1', s2', s3'⟩ = true ∧ fb = false ∧ ivRight ⟨f1, f2, f3⟩ = true ∧ decide (0 < f1) = true ∧ ivRight ⟨n1, n2, n3⟩ = true) := by
          cases h1 : ivRight ⟨s1', s2', s3'⟩
          · exact .inl rfl
          · cases h2 : fb
            · cases h3 : ivRight ⟨f1, f2, f3⟩
              · exact .inr (.inr (.inl ⟨rfl, rfl, rfl⟩))
              · by_cases h4 : 0 < f1
                · exact .inr (.inr (.inr (.inr ⟨rfl, rfl, rfl, decide_eq_true h4, hon h1 (.inr ⟨h3, h4⟩)⟩)))
                · exact .inr (.inr (.inr (.inl ⟨rfl, rfl, rfl, decide_eq_false h4⟩)))
            · exact .inr (.inl ⟨rfl, rfl, hon h1 (.inl h2)⟩)
        clear hMV hMX hF0 hP0 hG0 h1V h2V hon HON HSZ hfr
        rcases hways with j1 | ⟨j1, rfl, j2⟩ | ⟨j1, rfl, j2⟩ | ⟨j1, rfl, j2, j3⟩ | ⟨j1, rfl, j2, j3, j4⟩
        all_goals
          go_upto_region 12 with fail
          (try simp only [List.append_eq, List.cons_append, List.nil_append])
          go_wp2_with (first | (first | (go_at_call 13; (with_reducible refine (right_c _ _).mono ?_); rintro e w' ⟨rfl, r, rfl⟩) | (go_at_call 13; (with_reducible refine (right_c ⟨_, _, _⟩ _).mono ?_); rintro e w' ⟨rfl, r, rfl⟩) | (go_at_call 14; (with_reducible refine (meet_c _ _ _).mono ?_); rintro e w' ⟨rfl, r, rfl⟩) | (go_at_call 14; (with_reducible refine (meet_c _ ⟨_, _, _⟩ _).mono ?_); rintro e w' ⟨rfl, r, rfl⟩) | (go_at_call 14; (with_reducible refine (meet_c ⟨_, _, _⟩ _ _).mono ?_); rintro e w' ⟨rfl, r, rfl⟩) | (go_at_call 14; (with_reducible refine (meet_c ⟨_, _, _⟩ ⟨_, _, _⟩ _).mono ?_); rintro e w' ⟨rfl, r, rfl⟩)))
          go_roundw
          case rel => (first | exact ⟨k + 1, by omega, rfl, More.trans HMX.out (by repeat (first | exact More.refl _ | refine More.alloc ?_ _ | refine More.more ?_ _ | refine More.drew ?_ | refine More.drewN ?_ _))⟩ | ((repeat apply Exists.intro); exact ⟨⟨k + 1, by omega, rfl, More.trans HMX.out (by repeat (first | exact More.refl _ | refine More.alloc ?_ _ | refine More.more ?_ _ | refine More.drew ?_ | refine More.drewN ?_ _))⟩, rfl⟩))
          case measure => simp [intOf] <;> omega
    · obtain rfl : k = P.length := by omega
      go_wp2_with (first | (first | (go_at_call 11; (with_reducible refine (known15_c _).mono ?_); rintro e w' ⟨rfl, r, rfl⟩)))
      go_returns
      exact ⟨rfl, (by repeat (first | exact More.refl _ | refine More.alloc ?_ _ | refine More.more ?_ _ | refine More.drew ?_ | refine More.drewN ?_ _))⟩
end Go.Proofs.YtggohceeeggnmaaGreat

