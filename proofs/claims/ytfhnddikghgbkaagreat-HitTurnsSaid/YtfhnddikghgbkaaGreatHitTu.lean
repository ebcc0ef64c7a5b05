/-
  HitTurns: the walk.
-/
import Derived.Test.YtfhnddikghgbkaaGreatLaw14
import Derived.Test.YtfhnddikghgbkaaGreatSagOf
import Derived.Test.YtfhnddikghgbkaaGreatGp5
import Derived.Test.YtfhnddikghgbkaaGreatLaw15
namespace Go.Proofs.YtfhnddikghgbkaaGreat
set_option linter.unusedVariables false
open Go.ChangeShapes Go.WideShapes Go.ChangeAt Go.RowKit

set_option maxHeartbeats 16000000 in
set_option maxRecDepth 100000 in
theorem hitTurns_walk (w : World) (a0 : Int) (w0 : (Lit.int .i64 a0).wf = true) (s1 : Value) (l1 : List RawF) (i1 : Raws w s1 l1) (k1 : ∀ f ∈ l1, OkRaw f) (m1 : l1.length ≤ 9223372036854775807) (l2 : Six) (o2 : OkSix l2) (a3 : Int) (w3 : (Lit.int .i64 a3).wf = true) :
    Calls Tryz.prog 6 #[.int .i64 a0, s1, sixV l2, .int .i64 a3] w fun e w' => e = .returned (.bool true) ∧ More w w' := by
  obtain ⟨b01, b02⟩ := bounds_i64 w0
  obtain ⟨b31, b32⟩ := bounds_i64 w3
  obtain ⟨⟨⟨⟨ox1, ox2, ox3⟩, ⟨oy1, oy2, oy3⟩, ⟨oz1, oz2, oz3⟩⟩, ⟨⟨dx1, dx2, dx3⟩, ⟨dy1, dy2, dy3⟩, ⟨dz1, dz2, dz3⟩⟩⟩, hray⟩ : ∃ d, hRay l2 = d := ⟨_, rfl⟩
  obtain ⟨⟨⟨tx1, tx2, tx3⟩, ⟨ty1, ty2, ty3⟩, ⟨tz1, tz2, tz3⟩⟩, ht1⟩ : ∃ d, plTurn ⟨⟨ox1, ox2, ox3⟩, ⟨oy1, oy2, oy3⟩, ⟨oz1, oz2, oz3⟩⟩ a3 = d := ⟨_, rfl⟩
  obtain ⟨⟨⟨ex1, ex2, ex3⟩, ⟨ey1, ey2, ey3⟩, ⟨ez1, ez2, ez3⟩⟩, ht2⟩ : ∃ d, plTurn ⟨⟨dx1, dx2, dx3⟩, ⟨dy1, dy2, dy3⟩, ⟨dz1, dz2, dz3⟩⟩ a3 = d := ⟨_, rfl⟩
  obtain ⟨⟨⟨mx1, mx2, mx3⟩, ⟨my1, my2, my3⟩, ⟨mz1, mz2, mz3⟩⟩, hm1⟩ : ∃ d, plMirror ⟨⟨ox1, ox2, ox3⟩, ⟨oy1, oy2, oy3⟩, ⟨oz1, oz2, oz3⟩⟩ = d := ⟨_, rfl⟩
  obtain ⟨⟨⟨nx1, nx2, nx3⟩, ⟨ny1, ny2, ny3⟩, ⟨nz1, nz2, nz3⟩⟩, hm2⟩ : ∃ d, plMirror ⟨⟨dx1, dx2, dx3⟩, ⟨dy1, dy2, dy3⟩, ⟨dz1, dz2, dz3⟩⟩ = d := ⟨_, rfl⟩
  have hturn := fun s => hit_turn s ⟨⟨⟨ox1, ox2, ox3⟩, ⟨oy1, oy2, oy3⟩, ⟨oz1, oz2, oz3⟩⟩, ⟨⟨dx1, dx2, dx3⟩, ⟨dy1, dy2, dy3⟩, ⟨dz1, dz2, dz3⟩⟩⟩ a3
  dsimp only at hturn
  rw [ht1, ht2] at hturn
  have hmir := fun s => hit_mir s ⟨⟨⟨ox1, ox2, ox3⟩, ⟨oy1, oy2, oy3⟩, ⟨oz1, oz2, oz3⟩⟩, ⟨⟨dx1, dx2, dx3⟩, ⟨dy1, dy2, dy3⟩, ⟨dz1, dz2, dz3⟩⟩⟩
  unfold wyMir at hmir
  dsimp only at hmir
  rw [hm1, hm2] at hmir
  have HTU := Lib.hid hturn
  have HMI := Lib.hid hmir
  clear hturn hmir
  have hsys : ∀ u, More w u → Calls Tryz.prog 8 #[.int .i64 a0, s1, .slice none 0 0, .int .i64 3, .bool false] u fun e w' => ∃ v', e = .returned (syV (hsP a0 l1 [] 3).wide v') ∧ More u w' ∧ Sfs w' v' (hsP a0 l1 [] 3).rows := fun u hM => hsys_c a0 s1 (.slice none 0 0) l1 [] 3 u b01 b02 (i1.up hM) k1 m1 (.inl ⟨rfl, _, _, rfl⟩) (by simp) (by simp) (by decide)
  have hplace := hsP_place a0 l1 [] (most := 3) (by decide)
  have hmild := hsP_mild a0 l1 [] 3
  have hlen := hsP_len a0 l1 [] (most := 3) (by decide)
  obtain ⟨⟨P, ⟨o1, o2, o3⟩⟩, hY⟩ : ∃ Y, hsP a0 l1 [] 3 = Y := ⟨_, rfl⟩
  rw [hY] at hsys hplace hmild hlen
  dsimp only at hsys hplace hmild hlen
  have HPL := Lib.hid hplace
  have HMD := Lib.hid hmild
  have HSYS := Lib.hid hsys
  clear hsys hplace hmild hY i1 k1 m1
  have E := eql_same
  have N := neql_same
  have NP := neql_pl_same
  go_enter Tryz.func6, Tryz.ntmps6
  go_wp2_with fail
  go_at_call 8
  refine Calls.mono (HSYS.out _ (by repeat (first | exact More.refl _ | refine More.alloc ?_ _ | refine More.more ?_ _ | refine More.drew ?_ | refine More.drewN ?_ _))) ?_
  rintro e u ⟨v, rfl, ⟨rs, rfl⟩, hS⟩
  obtain ⟨va, vc, rfl, -⟩ := grow_form sfs_pos hS
  have HS := Lib.hid hS
  clear hS HSYS
  go_upto_region 4 with (first | (first | (go_at_call 9; (with_reducible refine (hray_c _ (by assumption) _).mono ?_); rintro e w' ⟨rfl, r, rfl⟩) | (go_at_call 9; (with_reducible refine (hray_c ⟨_, _, _, _, _, _⟩ (by assumption) _).mono ?_); rintro e w' ⟨rfl, r, rfl⟩) | (go_at_call 27; (with_reducible refine (vturn_c _ _ _).mono ?_); rintro e w' ⟨rfl, r, rfl⟩) | (go_at_call 27; (with_reducible refine (vturn_c ⟨_, _, _⟩ _ _).mono ?_); rintro e w' ⟨rfl, r, rfl⟩) | (go_at_call 27; (with_reducible refine (vturn_c ⟨⟨_, _, _⟩, ⟨_, _, _⟩, ⟨_, _, _⟩⟩ _ _).mono ?_); rintro e w' ⟨rfl, r, rfl⟩) | ((with_reducible show Code.wp _ (Code.region 3 _ true) _ _ _); (with_reducible apply wp_more_heap_m (id := 3) 10 9 11); kernel_rfl; kernel_rfl; rfl; decide; rfl; (intro _ _; go_simp; rfl); intro x; (try simp only [List.append_eq, List.cons_append, List.nil_append]); (simp only [List.take_succ_cons, List.take_zero, List.drop_succ_cons, List.drop_zero, skipAt, Nat.reduceAdd, Nat.reduceEqDiff, reduceIte, Nat.zero_add]); (repeat (any_goals (first | go_big_quiet_step ((first | (go_at_call 27; (with_reducible apply quiet_up); with_reducible exact vturn_c _ _ _) | (go_at_call 27; (with_reducible apply quiet_up); with_reducible exact vturn_c ⟨_, _, _⟩ _ _) | (go_at_call 27; (with_reducible apply quiet_up); with_reducible exact vturn_c ⟨⟨_, _, _⟩, ⟨_, _, _⟩, ⟨_, _, _⟩⟩ _ _))) | quiet_step ((first | (go_at_call 27; (with_reducible apply quiet_up); with_reducible exact vturn_c _ _ _) | (go_at_call 27; (with_reducible apply quiet_up); with_reducible exact vturn_c ⟨_, _, _⟩ _ _) | (go_at_call 27; (with_reducible apply quiet_up); with_reducible exact vturn_c ⟨⟨_, _, _⟩, ⟨_, _, _⟩, ⟨_, _, _⟩⟩ _ _)))))); (with_reducible refine wpQuiet_nil ?_); intro r1 r2) | ((with_reducible show Code.wp _ (Code.region 3 _ true) _ _ _); (with_reducible apply wp_more_heap (id := 3) 10 9 11); kernel_rfl; kernel_rfl; rfl; decide; rfl; (intro _ _; go_simp; rfl); intro x; (try simp only [List.append_eq, List.cons_append, List.nil_append]); (simp only [List.take_succ_cons, List.take_zero, List.drop_succ_cons, List.drop_zero, skipAt, Nat.reduceAdd, Nat.reduceEqDiff, reduceIte, Nat.zero_add]); (repeat (any_goals (first | go_big_quiet_step ((first | (go_at_call 27; (with_reducible apply quiet_up); with_reducible exact vturn_c _ _ _) | (go_at_call 27; (with_reducible apply quiet_up); with_reducible exact vturn_c ⟨_, _, _⟩ _ _) | (go_at_call 27; (with_reducible apply quiet_up); with_reducible exact vturn_c ⟨⟨_, _, _⟩, ⟨_, _, _⟩, ⟨_, _, _⟩⟩ _ _))) | quiet_step ((first | (go_at_call 27; (with_reducible apply quiet_up); with_reducible exact vturn_c _ _ _) | (go_at_call 27; (with_reducible apply quiet_up); with_reducible exact vturn_c ⟨_, _, _⟩ _ _) | (go_at_call 27; (with_reducible apply quiet_up); with_reducible exact vturn_c ⟨⟨_, _, _⟩, ⟨_, _, _⟩, ⟨_, _, _⟩⟩ _ _)))))); (with_reducible refine wpQuiet_nil ?_); intro r1 r2)))
  obtain ⟨ra, hra⟩ : ∃ x, x = r1 := ⟨_, rfl⟩
  subst hra
  go_wp2_with (first | (first | (go_at_call 28; (with_reducible refine (vmirror_c _ _).mono ?_); rintro e w' ⟨rfl, r, rfl⟩) | (go_at_call 28; (with_reducible refine (vmirror_c ⟨_, _, _⟩ _).mono ?_); rintro e w' ⟨rfl, r, rfl⟩) | (go_at_call 28; (with_reducible refine (vmirror_c ⟨⟨_, _, _⟩, ⟨_, _, _⟩, ⟨_, _, _⟩⟩ _).mono ?_); rintro e w' ⟨rfl, r, rfl⟩) | ((with_reducible show Code.wp _ (Code.region 4 _ true) _ _ _); (with_reducible apply wp_more_heap_m (id := 4) 8 7 12); kernel_rfl; kernel_rfl; rfl; decide; rfl; (intro _ _; go_simp; rfl); intro x; (try simp only [List.append_eq, List.cons_append, List.nil_append]); (simp only [List.take_succ_cons, List.take_zero, List.drop_succ_cons, List.drop_zero, skipAt, Nat.reduceAdd, Nat.reduceEqDiff, reduceIte, Nat.zero_add]); (repeat (any_goals (first | go_big_quiet_step ((first | (go_at_call 28; (with_reducible apply quiet_up); with_reducible exact vmirror_c _ _) | (go_at_call 28; (with_reducible apply quiet_up); with_reducible exact vmirror_c ⟨_, _, _⟩ _) | (go_at_call 28; (with_reducible apply quiet_up); with_reducible exact vmirror_c ⟨⟨_, _, _⟩, ⟨_, _, _⟩, ⟨_, _, _⟩⟩ _))) | quiet_step ((first | (go_at_call 28; (with_reducible apply quiet_up); with_reducible exact vmirror_c _ _) | (go_at_call 28; (with_reducible apply quiet_up); with_reducible exact vmirror_c ⟨_, _, _⟩ _) | (go_at_call 28; (with_reducible apply quiet_up); with_reducible exact vmirror_c ⟨⟨_, _, _⟩, ⟨_, _, _⟩, ⟨_, _, _⟩⟩ _)))))); (with_reducible refine wpQuiet_nil ?_); intro r1 r2) | ((with_reducible show Code.wp _ (Code.region 4 _ true) _ _ _); (with_reducible apply wp_more_heap (id := 4) 8 7 12); kernel_rfl; kernel_rfl; rfl; decide; rfl; (intro _ _; go_simp; rfl); intro x; (try simp only [List.append_eq, List.cons_append, List.nil_append]); (simp only [List.take_succ_cons, List.take_zero, List.drop_succ_cons, List.drop_zero, skipAt, Nat.reduceAdd, Nat.reduceEqDiff, reduceIte, Nat.zero_add]); (repeat (any_goals (first | go_big_quiet_step ((first | (go_at_call 28; (with_reducible apply quiet_up); with_reducible exact vmirror_c _ _) | (go_at_call 28; (with_reducible apply quiet_up); with_reducible exact vmirror_c ⟨_, _, _⟩ _) | (go_at_call 28; (with_reducible apply quiet_up); with_reducible exact vmirror_c ⟨⟨_, _, _⟩, ⟨_, _, _⟩, ⟨_, _, _⟩⟩ _))) | quiet_step ((first | (go_at_call 28; (with_reducible apply quiet_up); with_reducible exact vmirror_c _ _) | (go_at_call 28; (with_reducible apply quiet_up); with_reducible exact vmirror_c ⟨_, _, _⟩ _) | (go_at_call 28; (with_reducible apply quiet_up); with_reducible exact vmirror_c ⟨⟨_, _, _⟩, ⟨_, _, _⟩, ⟨_, _, _⟩⟩ _)))))); (with_reducible refine wpQuiet_nil ?_); intro r1 r2)))
  clear hray ht1 ht2 hm1 hm2
  go_loopw [48] (fun i wr => ∃ k : Nat, k ≤ P.length ∧ i = .int .i64 k ∧ More ((more ((more ((more ((more (w.alloc (.cells #[.int .i64 l2.a, .int .i64 l2.b, .int .i64 l2.c, .int .i64 l2.d, .int .i64 l2.e, .int .i64 l2.f] 37)) rs).alloc (.cells #[.slice va P.length vc, .int .i64 o1, .int .i64 o2, .bool o3] 29)) r).alloc (.cells #[.int .i64 ox1, .int .i64 ox2, .bool ox3, .int .i64 oy1, .int .i64 oy2, .bool oy3, .int .i64 oz1, .int .i64 oz2, .bool oz3, .int .i64 dx1, .int .i64 dx2, .bool dx3, .int .i64 dy1, .int .i64 dy2, .bool dy3, .int .i64 dz1, .int .i64 dz2, .bool dz3] 34)) ra).alloc (.cells #[.int .i64 tx1, .int .i64 tx2, .bool tx3, .int .i64 ty1, .int .i64 ty2, .bool ty3, .int .i64 tz1, .int .i64 tz2, .bool tz3, .int .i64 ex1, .int .i64 ex2, .bool ex3, .int .i64 ey1, .int .i64 ey2, .bool ey3, .int .i64 ez1, .int .i64 ez2, .bool ez3] 34)) r1).alloc (.cells #[.int .i64 mx1, .int .i64 mx2, .bool mx3, .int .i64 my1, .int .i64 my2, .bool my3, .int .i64 mz1, .int .i64 mz2, .bool mz3, .int .i64 nx1, .int .i64 nx2, .bool nx3, .int .i64 ny1, .int .i64 ny2, .bool ny3, .int .i64 nz1, .int .i64 nz2, .bool nz3] 34)) wr) (fun i _ => P.length - (intOf i).toNat)
  case atStart => exact ⟨0, by omega, rfl, (by repeat (first | exact More.refl _ | refine More.alloc ?_ _ | refine More.more ?_ _ | refine More.drew ?_ | refine More.drewN ?_ _))⟩
  case round =>
    obtain ⟨k, hk, rfl, s, rfl⟩ := hrel
    by_cases hkl : k < P.length
    · obtain ⟨f, hf⟩ : ∃ f, P[k]? = some f := ⟨P[k], List.getElem?_eq_getElem hkl⟩
      obtain ⟨b, off, rfl, hb, hL, -⟩ := sfs_at (w := ((more ((more ((more ((more (w.alloc (.cells #[.int .i64 l2.a, .int .i64 l2.b, .int .i64 l2.c, .int .i64 l2.d, .int .i64 l2.e, .int .i64 l2.f] 37)) rs).alloc (.cells #[.slice va P.length vc, .int .i64 o1, .int .i64 o2, .bool o3] 29)) r).alloc (.cells #[.int .i64 ox1, .int .i64 ox2, .bool ox3, .int .i64 oy1, .int .i64 oy2, .bool oy3, .int .i64 oz1, .int .i64 oz2, .bool oz3, .int .i64 dx1, .int .i64 dx2, .bool dx3, .int .i64 dy1, .int .i64 dy2, .bool dy3, .int .i64 dz1, .int .i64 dz2, .bool dz3] 34)) ra).alloc (.cells #[.int .i64 tx1, .int .i64 tx2, .bool tx3, .int .i64 ty1, .int .i64 ty2, .bool ty3, .int .i64 tz1, .int .i64 tz2, .bool tz3, .int .i64 ex1, .int .i64 ex2, .bool ex3, .int .i64 ey1, .int .i64 ey2, .bool ey3, .int .i64 ez1, .int .i64 ez2, .bool ez3] 34)) r1).alloc (.cells #[.int .i64 mx1, .int .i64 mx2, .bool mx3, .int .i64 my1, .int .i64 my2, .bool my3, .int .i64 mz1, .int .i64 mz2, .bool mz3, .int .i64 nx1, .int .i64 nx2, .bool nx3, .int .i64 ny1, .int .i64 ny2, .bool ny3, .int .i64 nz1, .int .i64 nz2, .bool nz3] 34))) (HS.out.up (by repeat (first | exact More.refl _ | refine More.alloc ?_ _ | refine More.more ?_ _ | refine More.drew ?_ | refine More.drewN ?_ _))) hf
      have hlt : ((k : Nat) : Int) < ((P.length : Nat) : Int) := by omega
      have hmem := List.mem_of_getElem? hf
      have hpl := HPL.out f hmem
      have hmd := HMD.out f hmem
      clear hf hmem
      clear hpl hmd
      have hcs := hitP_cases f ⟨⟨⟨ox1, ox2, ox3⟩, ⟨oy1, oy2, oy3⟩, ⟨oz1, oz2, oz3⟩⟩, ⟨⟨dx1, dx2, dx3⟩, ⟨dy1, dy2, dy3⟩, ⟨dz1, dz2, dz3⟩⟩⟩
      obtain ⟨⟨⟨z1, z2, z3⟩, ⟨⟨Px1, Px2, Px3⟩, ⟨Py1, Py2, Py3⟩, ⟨Pz1, Pz2, Pz3⟩⟩, z4⟩, hz⟩ : ∃ d, hitP f ⟨⟨⟨ox1, ox2, ox3⟩, ⟨oy1, oy2, oy3⟩, ⟨oz1, oz2, oz3⟩⟩, ⟨⟨dx1, dx2, dx3⟩, ⟨dy1, dy2, dy3⟩, ⟨dz1, dz2, dz3⟩⟩⟩ = d := ⟨_, rfl⟩
      have hturn := HTU.out f
      have hmir := HMI.out f
      rw [hz] at hturn hmir hcs
      dsimp only at hturn hmir hcs
      obtain ⟨⟨⟨Tx1, Tx2, Tx3⟩, ⟨Ty1, Ty2, Ty3⟩, ⟨Tz1, Tz2, Tz3⟩⟩, hk1⟩ : ∃ d, plTurn ⟨⟨Px1, Px2, Px3⟩, ⟨Py1, Py2, Py3⟩, ⟨Pz1, Pz2, Pz3⟩⟩ a3 = d := ⟨_, rfl⟩
      obtain ⟨⟨⟨Mx1, Mx2, Mx3⟩, ⟨My1, My2, My3⟩, ⟨Mz1, Mz2, Mz3⟩⟩, hk2⟩ : ∃ d, plMirror ⟨⟨Px1, Px2, Px3⟩, ⟨Py1, Py2, Py3⟩, ⟨Pz1, Pz2, Pz3⟩⟩ = d := ⟨_, rfl⟩
      rw [hk1] at hturn
      rw [hk2] at hmir
      have hi : z4 = 1 ∨ z4 = 0 ∨ z4 = 2 := by
        rcases hcs with h | ⟨h, -⟩
        · exact .inl h.1
        · exact .inr h
      clear hcs
      rcases hi with rfl | rfl | rfl
      all_goals
        go_wp2_with (first | (go_at_call 11; (with_reducible refine (hitof_c f ⟨⟨⟨ox1, ox2, ox3⟩, ⟨oy1, oy2, oy3⟩, ⟨oz1, oz2, oz3⟩⟩, ⟨⟨dx1, dx2, dx3⟩, ⟨dy1, dy2, dy3⟩, ⟨dz1, dz2, dz3⟩⟩⟩ _).mono ?_); rintro e w' ⟨rfl, r5, rfl⟩; rw [hz]; dsimp only) | (go_at_call 11; (with_reducible refine (hitof_c f ⟨⟨⟨tx1, tx2, tx3⟩, ⟨ty1, ty2, ty3⟩, ⟨tz1, tz2, tz3⟩⟩, ⟨⟨ex1, ex2, ex3⟩, ⟨ey1, ey2, ey3⟩, ⟨ez1, ez2, ez3⟩⟩⟩ _).mono ?_); rintro e w' ⟨rfl, r5, rfl⟩; rw [hturn]; dsimp only) | (go_at_call 11; (with_reducible refine (hitof_c f ⟨⟨⟨mx1, mx2, mx3⟩, ⟨my1, my2, my3⟩, ⟨mz1, mz2, mz3⟩⟩, ⟨⟨nx1, nx2, nx3⟩, ⟨ny1, ny2, ny3⟩, ⟨nz1, nz2, nz3⟩⟩⟩ _).mono ?_); rintro e w' ⟨rfl, r5, rfl⟩; rw [hmir]; dsimp only) | (first | (go_at_call 27; (with_reducible refine (vturn_c _ _ _).mono ?_); rintro e w' ⟨rfl, r, rfl⟩) | (go_at_call 27; (with_reducible refine (vturn_c ⟨_, _, _⟩ _ _).mono ?_); rintro e w' ⟨rfl, r, rfl⟩) | (go_at_call 27; (with_reducible refine (vturn_c ⟨⟨_, _, _⟩, ⟨_, _, _⟩, ⟨_, _, _⟩⟩ _ _).mono ?_); rintro e w' ⟨rfl, r, rfl⟩) | (go_at_call 28; (with_reducible refine (vmirror_c _ _).mono ?_); rintro e w' ⟨rfl, r, rfl⟩) | (go_at_call 28; (with_reducible refine (vmirror_c ⟨_, _, _⟩ _).mono ?_); rintro e w' ⟨rfl, r, rfl⟩) | (go_at_call 28; (with_reducible refine (vmirror_c ⟨⟨_, _, _⟩, ⟨_, _, _⟩, ⟨_, _, _⟩⟩ _).mono ?_); rintro e w' ⟨rfl, r, rfl⟩) | ((with_reducible show Code.wp _ (Code.region 11 _ true) _ _ _); (with_reducible refine wp_more_quick_m (id := 11) ?_ ?_ ?_); kernel_rfl; kernel_rfl; (try simp only [List.take_succ_cons, List.take_zero, List.drop_succ_cons, List.drop_zero]); (repeat (any_goals (first | go_big_quiet_step ((first | (go_at_call 27; (with_reducible apply quiet_call); with_reducible exact vturn_c _ _ _) | (go_at_call 27; (with_reducible apply quiet_call); with_reducible exact vturn_c ⟨_, _, _⟩ _ _) | (go_at_call 27; (with_reducible apply quiet_call); with_reducible exact vturn_c ⟨⟨_, _, _⟩, ⟨_, _, _⟩, ⟨_, _, _⟩⟩ _ _) | (go_at_call 28; (with_reducible apply quiet_call); with_reducible exact vmirror_c _ _) | (go_at_call 28; (with_reducible apply quiet_call); with_reducible exact vmirror_c ⟨_, _, _⟩ _) | (go_at_call 28; (with_reducible apply quiet_call); with_reducible exact vmirror_c ⟨⟨_, _, _⟩, ⟨_, _, _⟩, ⟨_, _, _⟩⟩ _))) | quiet_step ((first | (go_at_call 27; (with_reducible apply quiet_call); with_reducible exact vturn_c _ _ _) | (go_at_call 27; (with_reducible apply quiet_call); with_reducible exact vturn_c ⟨_, _, _⟩ _ _) | (go_at_call 27; (with_reducible apply quiet_call); with_reducible exact vturn_c ⟨⟨_, _, _⟩, ⟨_, _, _⟩, ⟨_, _, _⟩⟩ _ _) | (go_at_call 28; (with_reducible apply quiet_call); with_reducible exact vmirror_c _ _) | (go_at_call 28; (with_reducible apply quiet_call); with_reducible exact vmirror_c ⟨_, _, _⟩ _) | (go_at_call 28; (with_reducible apply quiet_call); with_reducible exact vmirror_c ⟨⟨_, _, _⟩, ⟨_, _, _⟩, ⟨_, _, _⟩⟩ _)))))); (with_reducible refine wpQuiet_nil ?_); intro r) | ((with_reducible show Code.wp _ (Code.region 11 _ true) _ _ _); (with_reducible refine wp_more_quick (id := 11) ?_ ?_ ?_); kernel_rfl; kernel_rfl; (try simp only [List.take_succ_cons, List.take_zero, List.drop_succ_cons, List.drop_zero]); (repeat (any_goals (first | go_big_quiet_step ((first | (go_at_call 27; (with_reducible apply quiet_call); with_reducible exact vturn_c _ _ _) | (go_at_call 27; (with_reducible apply quiet_call); with_reducible exact vturn_c ⟨_, _, _⟩ _ _) | (go_at_call 27; (with_reducible apply quiet_call); with_reducible exact vturn_c ⟨⟨_, _, _⟩, ⟨_, _, _⟩, ⟨_, _, _⟩⟩ _ _) | (go_at_call 28; (with_reducible apply quiet_call); with_reducible exact vmirror_c _ _) | (go_at_call 28; (with_reducible apply quiet_call); with_reducible exact vmirror_c ⟨_, _, _⟩ _) | (go_at_call 28; (with_reducible apply quiet_call); with_reducible exact vmirror_c ⟨⟨_, _, _⟩, ⟨_, _, _⟩, ⟨_, _, _⟩⟩ _))) | quiet_step ((first | (go_at_call 27; (with_reducible apply quiet_call); with_reducible exact vturn_c _ _ _) | (go_at_call 27; (with_reducible apply quiet_call); with_reducible exact vturn_c ⟨_, _, _⟩ _ _) | (go_at_call 27; (with_reducible apply quiet_call); with_reducible exact vturn_c ⟨⟨_, _, _⟩, ⟨_, _, _⟩, ⟨_, _, _⟩⟩ _ _) | (go_at_call 28; (with_reducible apply quiet_call); with_reducible exact vmirror_c _ _) | (go_at_call 28; (with_reducible apply quiet_call); with_reducible exact vmirror_c ⟨_, _, _⟩ _) | (go_at_call 28; (with_reducible apply quiet_call); with_reducible exact vmirror_c ⟨⟨_, _, _⟩, ⟨_, _, _⟩, ⟨_, _, _⟩⟩ _)))))); (with_reducible refine wpQuiet_nil ?_); intro r)))
        go_roundw
        case rel => (first | exact ⟨k + 1, by omega, rfl, (by repeat (first | exact More.refl _ | refine More.alloc ?_ _ | refine More.more ?_ _ | refine More.drew ?_ | refine More.drewN ?_ _))⟩ | ((repeat apply Exists.intro); exact ⟨⟨k + 1, by omega, rfl, (by repeat (first | exact More.refl _ | refine More.alloc ?_ _ | refine More.more ?_ _ | refine More.drew ?_ | refine More.drewN ?_ _))⟩, rfl⟩))
        case measure => simp [intOf] <;> omega
    · obtain rfl : k = P.length := by omega
      go_wp2_with (first | (first | (go_at_call 13; (with_reducible refine (known15_c _).mono ?_); rintro e w' ⟨rfl, r, rfl⟩)))
      go_returns
      exact ⟨rfl, (by repeat (first | exact More.refl _ | refine More.alloc ?_ _ | refine More.more ?_ _ | refine More.drew ?_ | refine More.drewN ?_ _))⟩
end Go.Proofs.YtfhnddikghgbkaaGreat

