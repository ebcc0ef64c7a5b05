/-
  HitMoves: the walk.
-/
import Derived.Test.YtfhnddikghgbkaaGreatLaw14
import Derived.Test.YtfhnddikghgbkaaGreatSagOf
import Derived.Test.YtfhnddikghgbkaaGreatGp5
import Derived.Test.YtfhnddikghgbkaaGreatLaw15
namespace Go.Proofs.YtfhnddikghgbkaaGreat
set_option linter.unusedVariables false
open Go.ChangeShapes Go.WideShapes Go.ChangeAt Go.RowKit

set_option maxHeartbeats 16000000 in
set_option maxRecDepth 100000 in
theorem hitMoves_walk (w : World) (a0 : Int) (w0 : (Lit.int .i64 a0).wf = true) (s1 : Value) (l1 : List RawF) (i1 : Raws w s1 l1) (k1 : ∀ f ∈ l1, OkRaw f) (m1 : l1.length ≤ 9223372036854775807) (l2 : Six) (o2 : OkSix l2) (a3 : Int) (w3 : (Lit.int .i64 a3).wf = true) :
    Calls Tryz.prog 7 #[.int .i64 a0, s1, sixV l2, .int .i64 a3] w fun e w' => e = .returned (.bool true) ∧ More w w' := by
  obtain ⟨b01, b02⟩ := bounds_i64 w0
  obtain ⟨b31, b32⟩ := bounds_i64 w3
  obtain ⟨mv, hb⟩ : ∃ mv, a3 % 13107200 - 6553600 = mv := ⟨_, rfl⟩
  have b0 : -6553600 ≤ mv := by omega
  have b1 : mv ≤ 6553600 := by omega
  have hoz : (hRay l2).o.z = ⟨0, 0, false⟩ := rfl
  obtain ⟨⟨⟨⟨ox1, ox2, ox3⟩, ⟨oy1, oy2, oy3⟩, oz⟩, ⟨⟨dx1, dx2, dx3⟩, ⟨dy1, dy2, dy3⟩, ⟨dz1, dz2, dz3⟩⟩⟩, hray⟩ : ∃ d, hRay l2 = d := ⟨_, rfl⟩
  rw [hray] at hoz
  dsimp only at hoz
  subst hoz
  obtain ⟨⟨q1, q2, q3⟩, hq⟩ : ∃ d, ivAdd ⟨0, 0, false⟩ (ivPoint mv) = d := ⟨_, rfl⟩
  have hsys : ∀ u, More w u → Calls Tryz.prog 8 #[.int .i64 a0, s1, .slice none 0 0, .int .i64 4, .bool false] u fun e w' => ∃ v', e = .returned (syV (hsP a0 l1 [] 4).wide v') ∧ More u w' ∧ Sfs w' v' (hsP a0 l1 [] 4).rows := fun u hM => hsys_c a0 s1 (.slice none 0 0) l1 [] 4 u b01 b02 (i1.up hM) k1 m1 (.inl ⟨rfl, _, _, rfl⟩) (by simp) (by simp) (by decide)
  have hplace := hsP_place a0 l1 [] (most := 4) (by decide)
  have hmild := hsP_mild a0 l1 [] 4
  have hlen := hsP_len a0 l1 [] (most := 4) (by decide)
  obtain ⟨⟨P, ⟨o1, o2, o3⟩⟩, hY⟩ : ∃ Y, hsP a0 l1 [] 4 = Y := ⟨_, rfl⟩
  rw [hY] at hsys hplace hmild hlen
  dsimp only at hsys hplace hmild hlen
  have HPL := Lib.hid hplace
  have HMD := Lib.hid hmild
  have HSYS := Lib.hid hsys
  clear hsys hplace hmild hY i1 k1 m1
  have E := eql_same
  have N := neql_same
  have NP := neql_pl_same
  go_enter Tryz.func7, Tryz.ntmps7
  go_wp2_with fail
  go_at_call 8
  refine Calls.mono (HSYS.out _ (by repeat (first | exact More.refl _ | refine More.alloc ?_ _ | refine More.more ?_ _ | refine More.drew ?_ | refine More.drewN ?_ _))) ?_
  rintro e u ⟨v, rfl, ⟨rs, rfl⟩, hS⟩
  obtain ⟨va, vc, rfl, -⟩ := grow_form sfs_pos hS
  have HS := Lib.hid hS
  clear hS HSYS
  go_upto_region 5 with (first | (first | (go_at_call 9; (with_reducible refine (hray_c _ (by assumption) _).mono ?_); rintro e w' ⟨rfl, r, rfl⟩) | (go_at_call 9; (with_reducible refine (hray_c ⟨_, _, _, _, _, _⟩ (by assumption) _).mono ?_); rintro e w' ⟨rfl, r, rfl⟩) | (go_at_call 29; (with_reducible refine (pick_c _ _ (by omega) (by omega) (by omega) (by omega) _).mono ?_); rintro e w' ⟨rfl, rfl⟩)))
  obtain ⟨rr, hrr⟩ : ∃ x, x = r := ⟨_, rfl⟩
  subst hrr
  go_wp2_with (first | (first | (go_at_call 25; (with_reducible refine (add_c _ _ _).mono ?_); rintro e w' ⟨rfl, r, rfl⟩) | (go_at_call 25; (with_reducible refine (add_c _ ⟨_, _, _⟩ _).mono ?_); rintro e w' ⟨rfl, r, rfl⟩) | (go_at_call 25; (with_reducible refine (add_c ⟨_, _, _⟩ _ _).mono ?_); rintro e w' ⟨rfl, r, rfl⟩) | (go_at_call 25; (with_reducible refine (add_c ⟨_, _, _⟩ ⟨_, _, _⟩ _).mono ?_); rintro e w' ⟨rfl, r, rfl⟩) | (go_at_call 30; (with_reducible refine (point_c _ _).mono ?_); rintro e w' ⟨rfl, r, rfl⟩) | ((with_reducible show Code.wp _ (Code.region 5 _ true) _ _ _); (with_reducible refine wp_more_tailq_m (id := 5) 8 ?_ ?_ ?_); kernel_rfl; kernel_rfl; (try simp only [List.take_succ_cons, List.take_zero, List.drop_succ_cons, List.drop_zero]); (repeat (any_goals (first | go_big_quiet_step ((first | (go_at_call 25; (with_reducible apply quiet_call); with_reducible exact add_c _ _ _) | (go_at_call 25; (with_reducible apply quiet_call); with_reducible exact add_c _ ⟨_, _, _⟩ _) | (go_at_call 25; (with_reducible apply quiet_call); with_reducible exact add_c ⟨_, _, _⟩ _ _) | (go_at_call 25; (with_reducible apply quiet_call); with_reducible exact add_c ⟨_, _, _⟩ ⟨_, _, _⟩ _) | (go_at_call 30; (with_reducible apply quiet_call); with_reducible exact point_c _ _))) | quiet_step ((first | (go_at_call 25; (with_reducible apply quiet_call); with_reducible exact add_c _ _ _) | (go_at_call 25; (with_reducible apply quiet_call); with_reducible exact add_c _ ⟨_, _, _⟩ _) | (go_at_call 25; (with_reducible apply quiet_call); with_reducible exact add_c ⟨_, _, _⟩ _ _) | (go_at_call 25; (with_reducible apply quiet_call); with_reducible exact add_c ⟨_, _, _⟩ ⟨_, _, _⟩ _) | (go_at_call 30; (with_reducible apply quiet_call); with_reducible exact point_c _ _)))))); (with_reducible refine wpQuiet_nil ?_); intro r) | ((with_reducible show Code.wp _ (Code.region 5 _ true) _ _ _); (with_reducible refine wp_more_tailq (id := 5) 8 ?_ ?_ ?_); kernel_rfl; kernel_rfl; (try simp only [List.take_succ_cons, List.take_zero, List.drop_succ_cons, List.drop_zero]); (repeat (any_goals (first | go_big_quiet_step ((first | (go_at_call 25; (with_reducible apply quiet_call); with_reducible exact add_c _ _ _) | (go_at_call 25; (with_reducible apply quiet_call); with_reducible exact add_c _ ⟨_, _, _⟩ _) | (go_at_call 25; (with_reducible apply quiet_call); with_reducible exact add_c ⟨_, _, _⟩ _ _) | (go_at_call 25; (with_reducible apply quiet_call); with_reducible exact add_c ⟨_, _, _⟩ ⟨_, _, _⟩ _) | (go_at_call 30; (with_reducible apply quiet_call); with_reducible exact point_c _ _))) | quiet_step ((first | (go_at_call 25; (with_reducible apply quiet_call); with_reducible exact add_c _ _ _) | (go_at_call 25; (with_reducible apply quiet_call); with_reducible exact add_c _ ⟨_, _, _⟩ _) | (go_at_call 25; (with_reducible apply quiet_call); with_reducible exact add_c ⟨_, _, _⟩ _ _) | (go_at_call 25; (with_reducible apply quiet_call); with_reducible exact add_c ⟨_, _, _⟩ ⟨_, _, _⟩ _) | (go_at_call 30; (with_reducible apply quiet_call); with_reducible exact point_c _ _)))))); (with_reducible refine wpQuiet_nil ?_); intro r)))
  clear hray
  simp only [hq]
  go_loopw [40] (fun i wr => ∃ k : Nat, k ≤ P.length ∧ i = .int .i64 k ∧ More ((((more ((more (w.alloc (.cells #[.int .i64 l2.a, .int .i64 l2.b, .int .i64 l2.c, .int .i64 l2.d, .int .i64 l2.e, .int .i64 l2.f] 37)) rs).alloc (.cells #[.slice va P.length vc, .int .i64 o1, .int .i64 o2, .bool o3] 29)) rr).alloc (.cells #[.int .i64 ox1, .int .i64 ox2, .bool ox3, .int .i64 oy1, .int .i64 oy2, .bool oy3, .int .i64 0, .int .i64 0, .bool false, .int .i64 dx1, .int .i64 dx2, .bool dx3, .int .i64 dy1, .int .i64 dy2, .bool dy3, .int .i64 dz1, .int .i64 dz2, .bool dz3] 34))).alloc (.cells #[.int .i64 ox1, .int .i64 ox2, .bool ox3, .int .i64 oy1, .int .i64 oy2, .bool oy3, .int .i64 q1, .int .i64 q2, .bool q3, .int .i64 dx1, .int .i64 dx2, .bool dx3, .int .i64 dy1, .int .i64 dy2, .bool dy3, .int .i64 dz1, .int .i64 dz2, .bool dz3] 34)) wr) (fun i _ => P.length - (intOf i).toNat)
  case atStart => exact ⟨0, by omega, rfl, (by repeat (first | exact More.refl _ | refine More.alloc ?_ _ | refine More.more ?_ _ | refine More.drew ?_ | refine More.drewN ?_ _))⟩
  case round =>
    obtain ⟨k, hk, rfl, s, rfl⟩ := hrel
    by_cases hkl : k < P.length
    · obtain ⟨f, hf⟩ : ∃ f, P[k]? = some f := ⟨P[k], List.getElem?_eq_getElem hkl⟩
      obtain ⟨b, off, rfl, hb, hL, -⟩ := sfs_at (w := ((((more ((more (w.alloc (.cells #[.int .i64 l2.a, .int .i64 l2.b, .int .i64 l2.c, .int .i64 l2.d, .int .i64 l2.e, .int .i64 l2.f] 37)) rs).alloc (.cells #[.slice va P.length vc, .int .i64 o1, .int .i64 o2, .bool o3] 29)) rr).alloc (.cells #[.int .i64 ox1, .int .i64 ox2, .bool ox3, .int .i64 oy1, .int .i64 oy2, .bool oy3, .int .i64 0, .int .i64 0, .bool false, .int .i64 dx1, .int .i64 dx2, .bool dx3, .int .i64 dy1, .int .i64 dy2, .bool dy3, .int .i64 dz1, .int .i64 dz2, .bool dz3] 34))).alloc (.cells #[.int .i64 ox1, .int .i64 ox2, .bool ox3, .int .i64 oy1, .int .i64 oy2, .bool oy3, .int .i64 q1, .int .i64 q2, .bool q3, .int .i64 dx1, .int .i64 dx2, .bool dx3, .int .i64 dy1, .int .i64 dy2, .bool dy3, .int .i64 dz1, .int .i64 dz2, .bool dz3] 34))) (HS.out.up (by repeat (first | exact More.refl _ | refine More.alloc ?_ _ | refine More.more ?_ _ | refine More.drew ?_ | refine More.drewN ?_ _))) hf
      have hlt : ((k : Nat) : Int) < ((P.length : Nat) : Int) := by omega
      have hmem := List.mem_of_getElem? hf
      have hpl := HPL.out f hmem
      have hmd := HMD.out f hmem
      clear hf hmem
      clear hmd
      have hcs := hitP_cases f ⟨⟨⟨ox1, ox2, ox3⟩, ⟨oy1, oy2, oy3⟩, ⟨0, 0, false⟩⟩, ⟨⟨dx1, dx2, dx3⟩, ⟨dy1, dy2, dy3⟩, ⟨dz1, dz2, dz3⟩⟩⟩
      have hmv := hit_move (s := f) (r := ⟨⟨⟨ox1, ox2, ox3⟩, ⟨oy1, oy2, oy3⟩, ⟨0, 0, false⟩⟩, ⟨⟨dx1, dx2, dx3⟩, ⟨dy1, dy2, dy3⟩, ⟨dz1, dz2, dz3⟩⟩⟩) (b := mv) (show ivRight ⟨0, 0, false⟩ = true by decide) (show (-1000000000 : Int) ≤ 0 by decide) (show (0 : Int) ≤ 1000000000 by decide) hpl ⟨b0, b1⟩
      dsimp only at hmv
      obtain ⟨⟨g1, g2, g3⟩, hg⟩ : ∃ d, ivAdd f.place (ivPoint mv) = d := ⟨_, rfl⟩
      rw [hg, hq] at hmv
      obtain ⟨⟨⟨z1, z2, z3⟩, ⟨⟨Px1, Px2, Px3⟩, ⟨Py1, Py2, Py3⟩, ⟨Pz1, Pz2, Pz3⟩⟩, z4⟩, hz⟩ : ∃ d, hitP f ⟨⟨⟨ox1, ox2, ox3⟩, ⟨oy1, oy2, oy3⟩, ⟨0, 0, false⟩⟩, ⟨⟨dx1, dx2, dx3⟩, ⟨dy1, dy2, dy3⟩, ⟨dz1, dz2, dz3⟩⟩⟩ = d := ⟨_, rfl⟩
      rw [hz] at hmv hcs
      dsimp only at hmv hcs
      have hi : (z4 = 1 ∧ plRight ⟨⟨Px1, Px2, Px3⟩, ⟨Py1, Py2, Py3⟩, ⟨Pz1, Pz2, Pz3⟩⟩ = true) ∨ (z4 = 0 ∧ plRight ⟨⟨Px1, Px2, Px3⟩, ⟨Py1, Py2, Py3⟩, ⟨Pz1, Pz2, Pz3⟩⟩ = false) ∨ (z4 = 2 ∧ plRight ⟨⟨Px1, Px2, Px3⟩, ⟨Py1, Py2, Py3⟩, ⟨Pz1, Pz2, Pz3⟩⟩ = false) := by
        rcases hcs with ⟨h, -, k⟩ | ⟨h | h, -, k⟩
        · exact .inl ⟨h, k⟩
        · exact .inr (.inl ⟨h, by rw [k]; rfl⟩)
        · exact .inr (.inr ⟨h, by rw [k]; rfl⟩)
      clear hcs hpl
      rcases hi with ⟨rfl, hpr⟩ | ⟨rfl, hpr⟩ | ⟨rfl, hpr⟩
      all_goals
        go_wp2_with (first | (go_at_call 11; (with_reducible refine (hitof_c f ⟨⟨⟨ox1, ox2, ox3⟩, ⟨oy1, oy2, oy3⟩, ⟨0, 0, false⟩⟩, ⟨⟨dx1, dx2, dx3⟩, ⟨dy1, dy2, dy3⟩, ⟨dz1, dz2, dz3⟩⟩⟩ _).mono ?_); rintro e w' ⟨rfl, r5, rfl⟩; rw [hz]; dsimp only) | (go_at_call 11; (with_reducible refine (hitof_c ⟨f.stop, f.bent, f.curve, f.conic, f.a4, f.a6, ⟨g1, g2, g3⟩, f.open2, f.ratio⟩ ⟨⟨⟨ox1, ox2, ox3⟩, ⟨oy1, oy2, oy3⟩, ⟨q1, q2, q3⟩⟩, ⟨⟨dx1, dx2, dx3⟩, ⟨dy1, dy2, dy3⟩, ⟨dz1, dz2, dz3⟩⟩⟩ _).mono ?_); rintro e w' ⟨rfl, r5, rfl⟩; rw [hmv]; dsimp only) | (first | (go_at_call 20; (with_reducible refine (vright_c _ _).mono ?_); rintro e w' ⟨rfl, r, rfl⟩) | (go_at_call 20; (with_reducible refine (vright_c ⟨_, _, _⟩ _).mono ?_); rintro e w' ⟨rfl, r, rfl⟩) | (go_at_call 20; (with_reducible refine (vright_c ⟨⟨_, _, _⟩, ⟨_, _, _⟩, ⟨_, _, _⟩⟩ _).mono ?_); rintro e w' ⟨rfl, r, rfl⟩) | (go_at_call 25; (with_reducible refine (add_c _ _ _).mono ?_); rintro e w' ⟨rfl, r, rfl⟩) | (go_at_call 25; (with_reducible refine (add_c _ ⟨_, _, _⟩ _).mono ?_); rintro e w' ⟨rfl, r, rfl⟩) | (go_at_call 25; (with_reducible refine (add_c ⟨_, _, _⟩ _ _).mono ?_); rintro e w' ⟨rfl, r, rfl⟩) | (go_at_call 25; (with_reducible refine (add_c ⟨_, _, _⟩ ⟨_, _, _⟩ _).mono ?_); rintro e w' ⟨rfl, r, rfl⟩) | (go_at_call 30; (with_reducible refine (point_c _ _).mono ?_); rintro e w' ⟨rfl, r, rfl⟩) | ((with_reducible show Code.wp _ (Code.region 10 _ true) _ _ _); (with_reducible refine wp_more_tailq_m (id := 10) 6 ?_ ?_ ?_); kernel_rfl; kernel_rfl; (try simp only [List.take_succ_cons, List.take_zero, List.drop_succ_cons, List.drop_zero]); (repeat (any_goals (first | go_big_quiet_step ((first | (go_at_call 25; (with_reducible apply quiet_call); with_reducible exact add_c _ _ _) | (go_at_call 25; (with_reducible apply quiet_call); with_reducible exact add_c _ ⟨_, _, _⟩ _) | (go_at_call 25; (with_reducible apply quiet_call); with_reducible exact add_c ⟨_, _, _⟩ _ _) | (go_at_call 25; (with_reducible apply quiet_call); with_reducible exact add_c ⟨_, _, _⟩ ⟨_, _, _⟩ _) | (go_at_call 30; (with_reducible apply quiet_call); with_reducible exact point_c _ _))) | quiet_step ((first | (go_at_call 25; (with_reducible apply quiet_call); with_reducible exact add_c _ _ _) | (go_at_call 25; (with_reducible apply quiet_call); with_reducible exact add_c _ ⟨_, _, _⟩ _) | (go_at_call 25; (with_reducible apply quiet_call); with_reducible exact add_c ⟨_, _, _⟩ _ _) | (go_at_call 25; (with_reducible apply quiet_call); with_reducible exact add_c ⟨_, _, _⟩ ⟨_, _, _⟩ _) | (go_at_call 30; (with_reducible apply quiet_call); with_reducible exact point_c _ _)))))); (with_reducible refine wpQuiet_nil ?_); intro r) | ((with_reducible show Code.wp _ (Code.region 10 _ true) _ _ _); (with_reducible refine wp_more_tailq (id := 10) 6 ?_ ?_ ?_); kernel_rfl; kernel_rfl; (try simp only [List.take_succ_cons, List.take_zero, List.drop_succ_cons, List.drop_zero]); (repeat (any_goals (first | go_big_quiet_step ((first | (go_at_call 25; (with_reducible apply quiet_call); with_reducible exact add_c _ _ _) | (go_at_call 25; (with_reducible apply quiet_call); with_reducible exact add_c _ ⟨_, _, _⟩ _) | (go_at_call 25; (with_reducible apply quiet_call); with_reducible exact add_c ⟨_, _, _⟩ _ _) | (go_at_call 25; (with_reducible apply quiet_call); with_reducible exact add_c ⟨_, _, _⟩ ⟨_, _, _⟩ _) | (go_at_call 30; (with_reducible apply quiet_call); with_reducible exact point_c _ _))) | quiet_step ((first | (go_at_call 25; (with_reducible apply quiet_call); with_reducible exact add_c _ _ _) | (go_at_call 25; (with_reducible apply quiet_call); with_reducible exact add_c _ ⟨_, _, _⟩ _) | (go_at_call 25; (with_reducible apply quiet_call); with_reducible exact add_c ⟨_, _, _⟩ _ _) | (go_at_call 25; (with_reducible apply quiet_call); with_reducible exact add_c ⟨_, _, _⟩ ⟨_, _, _⟩ _) | (go_at_call 30; (with_reducible apply quiet_call); with_reducible exact point_c _ _)))))); (with_reducible refine wpQuiet_nil ?_); intro r)))
        go_roundw
        case rel => (first | exact ⟨k + 1, by omega, rfl, (by repeat (first | exact More.refl _ | refine More.alloc ?_ _ | refine More.more ?_ _ | refine More.drew ?_ | refine More.drewN ?_ _))⟩ | ((repeat apply Exists.intro); exact ⟨⟨k + 1, by omega, rfl, (by repeat (first | exact More.refl _ | refine More.alloc ?_ _ | refine More.more ?_ _ | refine More.drew ?_ | refine More.drewN ?_ _))⟩, rfl⟩))
        case measure => simp [intOf] <;> omega
    · obtain rfl : k = P.length := by omega
      go_wp2_with (first | (first | (go_at_call 13; (with_reducible refine (known15_c _).mono ?_); rintro e w' ⟨rfl, r, rfl⟩)))
      go_returns
      exact ⟨rfl, (by repeat (first | exact More.refl _ | refine More.alloc ?_ _ | refine More.more ?_ _ | refine More.drew ?_ | refine More.drewN ?_ _))⟩
end Go.Proofs.YtfhnddikghgbkaaGreat

