/-
  HitLess: the walk.
-/
import Derived.Test.YtggohceeeggnmaaGreatLaw14
import Derived.Test.YtggohceeeggnmaaGreatSagOf
import Derived.Test.YtggohceeeggnmaaGreatGp5
import Derived.Test.YtggohceeeggnmaaGreatLaw15
import Derived.Test.YtggohceeeggnmaaGreatHitHand
import Derived.Test.YtggohceeeggnmaaGreatGv5
import Derived.Test.YtggohceeeggnmaaGreatGr5
import Derived.Test.YtggohceeeggnmaaGreatReg8
namespace Go.Proofs.YtggohceeeggnmaaGreat
set_option linter.unusedVariables false
open Go.ChangeShapes Go.WideShapes Go.ChangeAt Go.RowKit

set_option maxHeartbeats 16000000 in
set_option maxRecDepth 100000 in
theorem hitLess_walk (w : World) (a0 : Int) (w0 : (Lit.int .i64 a0).wf = true) (s1 : Value) (l1 : List RawF) (i1 : Raws w s1 l1) (k1 : ∀ f ∈ l1, OkRaw f) (m1 : l1.length ≤ 9223372036854775807) (l2 : Six) (o2 : OkSix l2) (a3 : Int) (w3 : (Lit.int .i64 a3).wf = true) (a4 : Int) (w4 : (Lit.int .i64 a4).wf = true) :
    Calls Tryz.prog 4 #[.int .i64 a0, s1, sixV l2, .int .i64 a3, .int .i64 a4] w fun e w' => e = .returned (.bool true) ∧ More w w' := by
  obtain ⟨b01, b02⟩ := bounds_i64 w0
  obtain ⟨b31, b32⟩ := bounds_i64 w3
  obtain ⟨b41, b42⟩ := bounds_i64 w4
  obtain ⟨hq1, hq2⟩ := hinray_part l2 a3 a4
  obtain ⟨⟨⟨⟨ox1, ox2, ox3⟩, ⟨oy1, oy2, oy3⟩, ⟨oz1, oz2, oz3⟩⟩, ⟨⟨dx1, dx2, dx3⟩, ⟨dy1, dy2, dy3⟩, ⟨dz1, dz2, dz3⟩⟩⟩, hray⟩ : ∃ d, hRay l2 = d := ⟨_, rfl⟩
  rw [hray] at hq1 hq2
  obtain ⟨⟨⟨⟨tx1, tx2, tx3⟩, ⟨ty1, ty2, ty3⟩, ⟨tz1, tz2, tz3⟩⟩, ⟨⟨ex1, ex2, ex3⟩, ⟨ey1, ey2, ey3⟩, ⟨ez1, ez2, ez3⟩⟩⟩, hin⟩ : ∃ d, hInRay ⟨⟨⟨ox1, ox2, ox3⟩, ⟨oy1, oy2, oy3⟩, ⟨oz1, oz2, oz3⟩⟩, ⟨⟨dx1, dx2, dx3⟩, ⟨dy1, dy2, dy3⟩, ⟨dz1, dz2, dz3⟩⟩⟩ a3 a4 = d := ⟨_, rfl⟩
  rw [hin] at hq1 hq2
  have hless := fun (s : Sf) (hs : ivRight s.place = true) (hm : Mild s) => hit_less_law (s := s) hq1 hq2 hs hm
  have HLE := Lib.hid hless
  clear hless hq1 hq2
  have hsys : ∀ u, More w u → Calls Tryz.prog 6 #[.int .i64 a0, s1, .slice none 0 0, .int .i64 3, .bool false] u fun e w' => ∃ v', e = .returned (syV (hsP a0 l1 [] 3).wide v') ∧ More u w' ∧ Sfs w' v' (hsP a0 l1 [] 3).rows := fun u hM => hsys_c a0 s1 (.slice none 0 0) l1 [] 3 u b01 b02 (i1.up hM) k1 m1 (.inl ⟨rfl, _, _, rfl⟩) (by simp) (by simp) (by decide)
  have hplace := hsP_place a0 l1 [] (most := 3) (by decide)
  have hmild := hsP_mild a0 l1 [] 3
  have hlen := hsP_len a0 l1 [] (most := 3) (by decide)
  obtain ⟨⟨P, ⟨o1, o2, o3⟩⟩, hY⟩ : ∃ Y, hsP a0 l1 [] 3 = Y := ⟨_, rfl⟩
  rw [hY] at hsys hplace hmild hlen
  dsimp only at hsys hplace hmild hlen
  have HPL := Lib.hid hplace
  have HMD := Lib.hid hmild
  have HSYS := Lib.hid hsys
  clear hsys hplace hmild hY i1 k1 m1
  have E := eql_same
  have N := neql_same
  have NP := neql_pl_same
  go_enter Tryz.func4, Tryz.ntmps4
  go_wp2_with fail
  go_at_call 6
  refine Calls.mono (HSYS.out _ (by repeat (first | exact More.refl _ | refine More.alloc ?_ _ | refine More.more ?_ _ | refine More.drew ?_ | refine More.drewN ?_ _))) ?_
  rintro e u ⟨v, rfl, ⟨rs, rfl⟩, hS⟩
  obtain ⟨va, vc, rfl, -⟩ := grow_form sfs_pos hS
  have HS := Lib.hid hS
  clear hS HSYS
  go_upto_region 3 with (first | (first | (go_at_call 7; (with_reducible refine (hray_c _ (by assumption) _).mono ?_); rintro e w' ⟨rfl, r, rfl⟩) | (go_at_call 7; (with_reducible refine (hray_c ⟨_, _, _, _, _, _⟩ (by assumption) _).mono ?_); rintro e w' ⟨rfl, r, rfl⟩)))
  obtain ⟨ra, hra⟩ : ∃ x, x = r := ⟨_, rfl⟩
  subst hra
  go_wp2_with (first | (go_at_call 12; (with_reducible refine (hinray_c ⟨⟨⟨ox1, ox2, ox3⟩, ⟨oy1, oy2, oy3⟩, ⟨oz1, oz2, oz3⟩⟩, ⟨⟨dx1, dx2, dx3⟩, ⟨dy1, dy2, dy3⟩, ⟨dz1, dz2, dz3⟩⟩⟩ a3 a4 b31 b32 b41 b42 _).mono ?_); rintro e w' ⟨rfl, r, rfl⟩; rw [hin]; dsimp only) | (first | (go_at_call 12; (with_reducible refine (hinray_c _ _ _ (by omega) (by omega) (by omega) (by omega) _).mono ?_); rintro e w' ⟨rfl, r, rfl⟩) | (go_at_call 12; (with_reducible refine (hinray_c ⟨_, _⟩ _ _ (by omega) (by omega) (by omega) (by omega) _).mono ?_); rintro e w' ⟨rfl, r, rfl⟩) | (go_at_call 12; (with_reducible refine (hinray_c ⟨⟨_, _, _⟩, ⟨_, _, _⟩⟩ _ _ (by omega) (by omega) (by omega) (by omega) _).mono ?_); rintro e w' ⟨rfl, r, rfl⟩)))
  clear hray hin
  go_loopw [34] (fun i wr => ∃ k : Nat, k ≤ P.length ∧ i = .int .i64 k ∧ More ((more ((more ((more (w.alloc (.cells #[.int .i64 l2.a, .int .i64 l2.b, .int .i64 l2.c, .int .i64 l2.d, .int .i64 l2.e, .int .i64 l2.f] 37)) rs).alloc (.cells #[.slice va P.length vc, .int .i64 o1, .int .i64 o2, .bool o3] 29)) ra).alloc (.cells #[.int .i64 ox1, .int .i64 ox2, .bool ox3, .int .i64 oy1, .int .i64 oy2, .bool oy3, .int .i64 oz1, .int .i64 oz2, .bool oz3, .int .i64 dx1, .int .i64 dx2, .bool dx3, .int .i64 dy1, .int .i64 dy2, .bool dy3, .int .i64 dz1, .int .i64 dz2, .bool dz3] 34)) r).alloc (.cells #[.int .i64 tx1, .int .i64 tx2, .bool tx3, .int .i64 ty1, .int .i64 ty2, .bool ty3, .int .i64 tz1, .int .i64 tz2, .bool tz3, .int .i64 ex1, .int .i64 ex2, .bool ex3, .int .i64 ey1, .int .i64 ey2, .bool ey3, .int .i64 ez1, .int .i64 ez2, .bool ez3] 34)) wr) (fun i _ => P.length - (intOf i).toNat)
  case atStart => exact ⟨0, by omega, rfl, (by repeat (first | exact More.refl _ | refine More.alloc ?_ _ | refine More.more ?_ _ | refine More.drew ?_ | refine More.drewN ?_ _))⟩
  case round =>
    obtain ⟨k, hk, rfl, s, rfl⟩ := hrel
    by_cases hkl : k < P.length
    · obtain ⟨f, hf⟩ : ∃ f, P[k]? = some f := ⟨P[k], List.getElem?_eq_getElem hkl⟩
      obtain ⟨b, off, rfl, hb, hL, -⟩ := sfs_at (w := ((more ((more ((more (w.alloc (.cells #[.int .i64 l2.a, .int .i64 l2.b, .int .i64 l2.c, .int .i64 l2.d, .int .i64 l2.e, .int .i64 l2.f] 37)) rs).alloc (.cells #[.slice va P.length vc, .int .i64 o1, .int .i64 o2, .bool o3] 29)) ra).alloc (.cells #[.int .i64 ox1, .int .i64 ox2, .bool ox3, .int .i64 oy1, .int .i64 oy2, .bool oy3, .int .i64 oz1, .int .i64 oz2, .bool oz3, .int .i64 dx1, .int .i64 dx2, .bool dx3, .int .i64 dy1, .int .i64 dy2, .bool dy3, .int .i64 dz1, .int .i64 dz2, .bool dz3] 34)) r).alloc (.cells #[.int .i64 tx1, .int .i64 tx2, .bool tx3, .int .i64 ty1, .int .i64 ty2, .bool ty3, .int .i64 tz1, .int .i64 tz2, .bool tz3, .int .i64 ex1, .int .i64 ex2, .bool ex3, .int .i64 ey1, .int .i64 ey2, .bool ey3, .int .i64 ez1, .int .i64 ez2, .bool ez3] 34))) (HS.out.up (by repeat (first | exact More.refl _ | refine More.alloc ?_ _ | refine More.more ?_ _ | refine More.drew ?_ | refine More.drewN ?_ _))) hf
      have hlt : ((k : Nat) : Int) < ((P.length : Nat) : Int) := by omega
      have hmem := List.mem_of_getElem? hf
      have hpl := HPL.out f hmem
      have hmd := HMD.out f hmem
      clear hf hmem
      have hle := HLE.out f hpl.1 hmd
      clear hpl hmd
      have hcs := hitP_cases f ⟨⟨⟨ox1, ox2, ox3⟩, ⟨oy1, oy2, oy3⟩, ⟨oz1, oz2, oz3⟩⟩, ⟨⟨dx1, dx2, dx3⟩, ⟨dy1, dy2, dy3⟩, ⟨dz1, dz2, dz3⟩⟩⟩
      have hcq := hitP_cases f ⟨⟨⟨tx1, tx2, tx3⟩, ⟨ty1, ty2, ty3⟩, ⟨tz1, tz2, tz3⟩⟩, ⟨⟨ex1, ex2, ex3⟩, ⟨ey1, ey2, ey3⟩, ⟨ez1, ez2, ez3⟩⟩⟩
      obtain ⟨⟨⟨z1, z2, z3⟩, ⟨⟨Px1, Px2, Px3⟩, ⟨Py1, Py2, Py3⟩, ⟨Pz1, Pz2, Pz3⟩⟩, z4⟩, hz⟩ : ∃ d, hitP f ⟨⟨⟨ox1, ox2, ox3⟩, ⟨oy1, oy2, oy3⟩, ⟨oz1, oz2, oz3⟩⟩, ⟨⟨dx1, dx2, dx3⟩, ⟨dy1, dy2, dy3⟩, ⟨dz1, dz2, dz3⟩⟩⟩ = d := ⟨_, rfl⟩
      obtain ⟨⟨⟨y1, y2, y3⟩, ⟨⟨Ox1, Ox2, Ox3⟩, ⟨Oy1, Oy2, Oy3⟩, ⟨Oz1, Oz2, Oz3⟩⟩, y4⟩, hy⟩ : ∃ d, hitP f ⟨⟨⟨tx1, tx2, tx3⟩, ⟨ty1, ty2, ty3⟩, ⟨tz1, tz2, tz3⟩⟩, ⟨⟨ex1, ex2, ex3⟩, ⟨ey1, ey2, ey3⟩, ⟨ez1, ez2, ez3⟩⟩⟩ = d := ⟨_, rfl⟩
      rw [hz, hy] at hle
      rw [hz] at hcs
      rw [hy] at hcq
      dsimp only at hle hcs hcq
      obtain ⟨g1, g2, g3, g4⟩ := hle
      obtain ⟨⟨m1', m2', m3'⟩, hmeet⟩ : ∃ d, ivMeet ⟨z1, z2, z3⟩ ⟨y1, y2, y3⟩ = d := ⟨_, rfl⟩
      rw [hmeet] at g3
      have hi : z4 = 1 ∨ z4 = 0 ∨ z4 = 2 := by
        rcases hcs with h | ⟨h, -⟩
        · exact .inl h.1
        · exact .inr h
      have hj : y4 = 1 ∨ y4 = 0 ∨ y4 = 2 := by
        rcases hcq with h | ⟨h, -⟩
        · exact .inl h.1
        · exact .inr h
      clear hcs hcq
      obtain ⟨fs, fb, fc, fk, fa, fg, fp, fo, fr⟩ := f
      dsimp only at g3 g4
      cases fb with
      | false =>
        clear g3
        have hways : (z4 = 1 ∧ y4 = 1 ∧ ivInside ⟨y1, y2, y3⟩ ⟨z1, z2, z3⟩ = true ∧ plInside ⟨⟨Ox1, Ox2, Ox3⟩, ⟨Oy1, Oy2, Oy3⟩, ⟨Oz1, Oz2, Oz3⟩⟩ ⟨⟨Px1, Px2, Px3⟩, ⟨Py1, Py2, Py3⟩, ⟨Pz1, Pz2, Pz3⟩⟩ = true) ∨ (z4 = 0 ∧ y4 = 1) ∨ (z4 = 0 ∧ y4 = 0) ∨ (z4 = 0 ∧ y4 = 2) ∨ (z4 = 2 ∧ y4 = 2) := by
          rcases hi with h | h | h
          · exact .inl ⟨h, g4 rfl h⟩
          · rcases hj with k | k | k
            · exact .inr (.inl ⟨h, k⟩)
            · exact .inr (.inr (.inl ⟨h, k⟩))
            · exact .inr (.inr (.inr (.inl ⟨h, k⟩)))
          · exact .inr (.inr (.inr (.inr ⟨h, g2 h⟩)))
        clear g1 g2 g4 hi hj hmeet
        rcases hways with ⟨rfl, rfl, g5, g6⟩ | ⟨rfl, rfl⟩ | ⟨rfl, rfl⟩ | ⟨rfl, rfl⟩ | ⟨rfl, rfl⟩
        all_goals
          go_wp2_with (first | (go_at_call 9; (with_reducible refine (hitof_c ⟨fs, false, fc, fk, fa, fg, fp, fo, fr⟩ ⟨⟨⟨ox1, ox2, ox3⟩, ⟨oy1, oy2, oy3⟩, ⟨oz1, oz2, oz3⟩⟩, ⟨⟨dx1, dx2, dx3⟩, ⟨dy1, dy2, dy3⟩, ⟨dz1, dz2, dz3⟩⟩⟩ _).mono ?_); rintro e w' ⟨rfl, r5, rfl⟩; rw [hz]; dsimp only) | (go_at_call 9; (with_reducible refine (hitof_c ⟨fs, false, fc, fk, fa, fg, fp, fo, fr⟩ ⟨⟨⟨tx1, tx2, tx3⟩, ⟨ty1, ty2, ty3⟩, ⟨tz1, tz2, tz3⟩⟩, ⟨⟨ex1, ex2, ex3⟩, ⟨ey1, ey2, ey3⟩, ⟨ez1, ez2, ez3⟩⟩⟩ _).mono ?_); rintro e w' ⟨rfl, r5, rfl⟩; rw [hy]; dsimp only) | (first | (go_at_call 13; (with_reducible refine (right_c _ _).mono ?_); rintro e w' ⟨rfl, r, rfl⟩) | (go_at_call 13; (with_reducible refine (right_c ⟨_, _, _⟩ _).mono ?_); rintro e w' ⟨rfl, r, rfl⟩) | (go_at_call 14; (with_reducible refine (meet_c _ _ _).mono ?_); rintro e w' ⟨rfl, r, rfl⟩) | (go_at_call 14; (with_reducible refine (meet_c _ ⟨_, _, _⟩ _).mono ?_); rintro e w' ⟨rfl, r, rfl⟩) | (go_at_call 14; (with_reducible refine (meet_c ⟨_, _, _⟩ _ _).mono ?_); rintro e w' ⟨rfl, r, rfl⟩) | (go_at_call 14; (with_reducible refine (meet_c ⟨_, _, _⟩ ⟨_, _, _⟩ _).mono ?_); rintro e w' ⟨rfl, r, rfl⟩) | (go_at_call 15; (with_reducible refine (inside_c _ _ _).mono ?_); rintro e w' ⟨rfl, r, rfl⟩) | (go_at_call 15; (with_reducible refine (inside_c _ ⟨_, _, _⟩ _).mono ?_); rintro e w' ⟨rfl, r, rfl⟩) | (go_at_call 15; (with_reducible refine (inside_c ⟨_, _, _⟩ _ _).mono ?_); rintro e w' ⟨rfl, r, rfl⟩) | (go_at_call 15; (with_reducible refine (inside_c ⟨_, _, _⟩ ⟨_, _, _⟩ _).mono ?_); rintro e w' ⟨rfl, r, rfl⟩) | (go_at_call 16; (with_reducible refine (vinside_c _ _ _).mono ?_); rintro e w' ⟨rfl, r, rfl⟩) | (go_at_call 16; (with_reducible refine (vinside_c _ ⟨_, _, _⟩ _).mono ?_); rintro e w' ⟨rfl, r, rfl⟩) | (go_at_call 16; (with_reducible refine (vinside_c ⟨_, _, _⟩ _ _).mono ?_); rintro e w' ⟨rfl, r, rfl⟩) | (go_at_call 16; (with_reducible refine (vinside_c ⟨_, _, _⟩ ⟨_, _, _⟩ _).mono ?_); rintro e w' ⟨rfl, r, rfl⟩) | (go_at_call 16; (with_reducible refine (vinside_c ⟨⟨_, _, _⟩, ⟨_, _, _⟩, ⟨_, _, _⟩⟩ ⟨_, _, _⟩ _).mono ?_); rintro e w' ⟨rfl, r, rfl⟩) | (go_at_call 16; (with_reducible refine (vinside_c ⟨_, _, _⟩ ⟨⟨_, _, _⟩, ⟨_, _, _⟩, ⟨_, _, _⟩⟩ _).mono ?_); rintro e w' ⟨rfl, r, rfl⟩) | (go_at_call 16; (with_reducible refine (vinside_c ⟨⟨_, _, _⟩, ⟨_, _, _⟩, ⟨_, _, _⟩⟩ ⟨⟨_, _, _⟩, ⟨_, _, _⟩, ⟨_, _, _⟩⟩ _).mono ?_); rintro e w' ⟨rfl, r, rfl⟩)))
          go_roundw
          case rel => (first | exact ⟨k + 1, by omega, rfl, (by repeat (first | exact More.refl _ | refine More.alloc ?_ _ | refine More.more ?_ _ | refine More.drew ?_ | refine More.drewN ?_ _))⟩ | ((repeat apply Exists.intro); exact ⟨⟨k + 1, by omega, rfl, (by repeat (first | exact More.refl _ | refine More.alloc ?_ _ | refine More.more ?_ _ | refine More.drew ?_ | refine More.drewN ?_ _))⟩, rfl⟩))
          case measure => simp [intOf] <;> omega
      | true =>
        clear g4
        have hways : (z4 = 1 ∧ y4 = 1 ∧ ivRight ⟨m1', m2', m3'⟩ = true) ∨ (z4 = 1 ∧ y4 = 0) ∨ (z4 = 0 ∧ y4 = 1) ∨ (z4 = 0 ∧ y4 = 0) ∨ (z4 = 0 ∧ y4 = 2) ∨ (z4 = 2 ∧ y4 = 2) := by
          rcases hi with h | h | h
          · rcases hj with k | k | k
            · exact .inl ⟨h, k, g3 rfl h k⟩
            · exact .inr (.inl ⟨h, k⟩)
            · exact (g1 h k).elim
          · rcases hj with k | k | k
            · exact .inr (.inr (.inl ⟨h, k⟩))
            · exact .inr (.inr (.inr (.inl ⟨h, k⟩)))
            · exact .inr (.inr (.inr (.inr (.inl ⟨h, k⟩))))
          · exact .inr (.inr (.inr (.inr (.inr ⟨h, g2 h⟩))))
        clear g1 g2 g3 hi hj
        rcases hways with ⟨rfl, rfl, g5⟩ | ⟨rfl, rfl⟩ | ⟨rfl, rfl⟩ | ⟨rfl, rfl⟩ | ⟨rfl, rfl⟩ | ⟨rfl, rfl⟩
        all_goals
          go_wp2_with (first | (go_at_call 9; (with_reducible refine (hitof_c ⟨fs, true, fc, fk, fa, fg, fp, fo, fr⟩ ⟨⟨⟨ox1, ox2, ox3⟩, ⟨oy1, oy2, oy3⟩, ⟨oz1, oz2, oz3⟩⟩, ⟨⟨dx1, dx2, dx3⟩, ⟨dy1, dy2, dy3⟩, ⟨dz1, dz2, dz3⟩⟩⟩ _).mono ?_); rintro e w' ⟨rfl, r5, rfl⟩; rw [hz]; dsimp only) | (go_at_call 9; (with_reducible refine (hitof_c ⟨fs, true, fc, fk, fa, fg, fp, fo, fr⟩ ⟨⟨⟨tx1, tx2, tx3⟩, ⟨ty1, ty2, ty3⟩, ⟨tz1, tz2, tz3⟩⟩, ⟨⟨ex1, ex2, ex3⟩, ⟨ey1, ey2, ey3⟩, ⟨ez1, ez2, ez3⟩⟩⟩ _).mono ?_); rintro e w' ⟨rfl, r5, rfl⟩; rw [hy]; dsimp only) | (first | (go_at_call 13; (with_reducible refine (right_c _ _).mono ?_); rintro e w' ⟨rfl, r, rfl⟩) | (go_at_call 13; (with_reducible refine (right_c ⟨_, _, _⟩ _).mono ?_); rintro e w' ⟨rfl, r, rfl⟩) | (go_at_call 14; (with_reducible refine (meet_c _ _ _).mono ?_); rintro e w' ⟨rfl, r, rfl⟩) | (go_at_call 14; (with_reducible refine (meet_c _ ⟨_, _, _⟩ _).mono ?_); rintro e w' ⟨rfl, r, rfl⟩) | (go_at_call 14; (with_reducible refine (meet_c ⟨_, _, _⟩ _ _).mono ?_); rintro e w' ⟨rfl, r, rfl⟩) | (go_at_call 14; (with_reducible refine (meet_c ⟨_, _, _⟩ ⟨_, _, _⟩ _).mono ?_); rintro e w' ⟨rfl, r, rfl⟩) | (go_at_call 15; (with_reducible refine (inside_c _ _ _).mono ?_); rintro e w' ⟨rfl, r, rfl⟩) | (go_at_call 15; (with_reducible refine (inside_c _ ⟨_, _, _⟩ _).mono ?_); rintro e w' ⟨rfl, r, rfl⟩) | (go_at_call 15; (with_reducible refine (inside_c ⟨_, _, _⟩ _ _).mono ?_); rintro e w' ⟨rfl, r, rfl⟩) | (go_at_call 15; (with_reducible refine (inside_c ⟨_, _, _⟩ ⟨_, _, _⟩ _).mono ?_); rintro e w' ⟨rfl, r, rfl⟩) | (go_at_call 16; (with_reducible refine (vinside_c _ _ _).mono ?_); rintro e w' ⟨rfl, r, rfl⟩) | (go_at_call 16; (with_reducible refine (vinside_c _ ⟨_, _, _⟩ _).mono ?_); rintro e w' ⟨rfl, r, rfl⟩) | (go_at_call 16; (with_reducible refine (vinside_c ⟨_, _, _⟩ _ _).mono ?_); rintro e w' ⟨rfl, r, rfl⟩) | (go_at_call 16; (with_reducible refine (vinside_c ⟨_, _, _⟩ ⟨_, _, _⟩ _).mono ?_); rintro e w' ⟨rfl, r, rfl⟩) | (go_at_call 16; (with_reducible refine (vinside_c ⟨⟨_, _, _⟩, ⟨_, _, _⟩, ⟨_, _, _⟩⟩ ⟨_, _, _⟩ _).mono ?_); rintro e w' ⟨rfl, r, rfl⟩) | (go_at_call 16; (with_reducible refine (vinside_c ⟨_, _, _⟩ ⟨⟨_, _, _⟩, ⟨_, _, _⟩, ⟨_, _, _⟩⟩ _).mono ?_); rintro e w' ⟨rfl, r, rfl⟩) | (go_at_call 16; (with_reducible refine (vinside_c ⟨⟨_, _, _⟩, ⟨_, _, _⟩, ⟨_, _, _⟩⟩ ⟨⟨_, _, _⟩, ⟨_, _, _⟩, ⟨_, _, _⟩⟩ _).mono ?_); rintro e w' ⟨rfl, r, rfl⟩)))
          go_roundw
          case rel => (first | exact ⟨k + 1, by omega, rfl, (by repeat (first | exact More.refl _ | refine More.alloc ?_ _ | refine More.more ?_ _ | refine More.drew ?_ | refine More.drewN ?_ _))⟩ | ((repeat apply Exists.intro); exact ⟨⟨k + 1, by omega, rfl, (by repeat (first | exact More.refl _ | refine More.alloc ?_ _ | refine More.more ?_ _ | refine More.drew ?_ | refine More.drewN ?_ _))⟩, rfl⟩))
          case measure => simp [intOf] <;> omega
    · obtain rfl : k = P.length := by omega
      go_wp2_with (first | (first | (go_at_call 11; (with_reducible refine (known15_c _).mono ?_); rintro e w' ⟨rfl, r, rfl⟩)))
      go_returns
      exact ⟨rfl, (by repeat (first | exact More.refl _ | refine More.alloc ?_ _ | refine More.more ?_ _ | refine More.drew ?_ | refine More.drewN ?_ _))⟩
end Go.Proofs.YtggohceeeggnmaaGreat

