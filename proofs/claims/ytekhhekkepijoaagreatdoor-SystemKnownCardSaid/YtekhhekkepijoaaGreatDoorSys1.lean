/-
  A face in numbers: its curve, its index, the face as if there were the same ahead of it and behind it.
-/
import Derived.Test.YtekhhekkepijoaaGreatDoorSurf
import Derived.Test.YtekhhekkepijoaaGreatDoorIvDiv
import Derived.Test.YtekhhekkepijoaaGreatDoorGr5
import Derived.Test.YtekhhekkepijoaaGreatDoorGh
import Derived.Test.YtekhhekkepijoaaGreatDoorLensLn
namespace Go.Proofs.YtekhhekkepijoaaGreatDoor
set_option linter.unusedVariables false
open Go.ChangeShapes Go.WideShapes Go.ChangeAt Go.RowKit

set_option maxHeartbeats 4000000 in
theorem scurve_c (d : Dec) (W : World) :
    Calls Tryz.prog 64 #[decV d] W fun e w' => e = .returned (ivV (curveP d)) ∧ More W w' := by
  obtain ⟨c, s⟩ := d
  have e : curveP ⟨c, s⟩ = if c = 0 then ivPoint 0 else ivDiv (ivPoint 65536) (decIv ⟨c, s⟩) := rfl
  rw [e]
  have HE := Lib.hid e
  clear e
  by_cases hc : c = 0
  · rw [if_pos hc]
    have hq : (c == 0) = true := by simpa using hc
    have HC := Lib.hid hc
    clear hc
    go_enter Tryz.func64, Tryz.ntmps64
    go_wp2_with (first | (go_at_call 12; (with_reducible refine (idiv_c _ _ _).mono ?_); rintro e w' ⟨rfl, r, rfl⟩) | (go_at_call 12; (with_reducible refine (idiv_c _ ⟨_, _, _⟩ _).mono ?_); rintro e w' ⟨rfl, r, rfl⟩) | (go_at_call 12; (with_reducible refine (idiv_c ⟨_, _, _⟩ _ _).mono ?_); rintro e w' ⟨rfl, r, rfl⟩) | (go_at_call 12; (with_reducible refine (idiv_c ⟨_, _, _⟩ ⟨_, _, _⟩ _).mono ?_); rintro e w' ⟨rfl, r, rfl⟩) | (go_at_call 23; (with_reducible refine (point_c _ _).mono ?_); rintro e w' ⟨rfl, r, rfl⟩) | (go_at_call 26; (with_reducible refine (decIv_c _ _).mono ?_); rintro e w' ⟨rfl, r, rfl⟩) | (go_at_call 26; (with_reducible refine (decIv_c ⟨_, _⟩ _).mono ?_); rintro e w' ⟨rfl, r, rfl⟩) | ((with_reducible show Code.wp _ (Code.region 3 _ true) _ _ _); (with_reducible refine wp_more_tailq_m (id := 3) 4 ?_ ?_ ?_); kernel_rfl; kernel_rfl; (try simp only [List.take_succ_cons, List.take_zero, List.drop_succ_cons, List.drop_zero]); (repeat (any_goals (first | go_big_quiet_step ((first | (go_at_call 12; (with_reducible apply quiet_call); with_reducible exact idiv_c _ _ _) | (go_at_call 12; (with_reducible apply quiet_call); with_reducible exact idiv_c _ ⟨_, _, _⟩ _) | (go_at_call 12; (with_reducible apply quiet_call); with_reducible exact idiv_c ⟨_, _, _⟩ _ _) | (go_at_call 12; (with_reducible apply quiet_call); with_reducible exact idiv_c ⟨_, _, _⟩ ⟨_, _, _⟩ _) | (go_at_call 23; (with_reducible apply quiet_call); with_reducible exact point_c _ _) | (go_at_call 26; (with_reducible apply quiet_call); with_reducible exact decIv_c _ _) | (go_at_call 26; (with_reducible apply quiet_call); with_reducible exact decIv_c ⟨_, _⟩ _))) | quiet_step ((first | (go_at_call 12; (with_reducible apply quiet_call); with_reducible exact idiv_c _ _ _) | (go_at_call 12; (with_reducible apply quiet_call); with_reducible exact idiv_c _ ⟨_, _, _⟩ _) | (go_at_call 12; (with_reducible apply quiet_call); with_reducible exact idiv_c ⟨_, _, _⟩ _ _) | (go_at_call 12; (with_reducible apply quiet_call); with_reducible exact idiv_c ⟨_, _, _⟩ ⟨_, _, _⟩ _) | (go_at_call 23; (with_reducible apply quiet_call); with_reducible exact point_c _ _) | (go_at_call 26; (with_reducible apply quiet_call); with_reducible exact decIv_c _ _) | (go_at_call 26; (with_reducible apply quiet_call); with_reducible exact decIv_c ⟨_, _⟩ _)))))); (with_reducible refine wpQuiet_nil ?_); intro r) | ((with_reducible show Code.wp _ (Code.region 3 _ true) _ _ _); (with_reducible refine wp_more_tailq (id := 3) 4 ?_ ?_ ?_); kernel_rfl; kernel_rfl; (try simp only [List.take_succ_cons, List.take_zero, List.drop_succ_cons, List.drop_zero]); (repeat (any_goals (first | go_big_quiet_step ((first | (go_at_call 12; (with_reducible apply quiet_call); with_reducible exact idiv_c _ _ _) | (go_at_call 12; (with_reducible apply quiet_call); with_reducible exact idiv_c _ ⟨_, _, _⟩ _) | (go_at_call 12; (with_reducible apply quiet_call); with_reducible exact idiv_c ⟨_, _, _⟩ _ _) | (go_at_call 12; (with_reducible apply quiet_call); with_reducible exact idiv_c ⟨_, _, _⟩ ⟨_, _, _⟩ _) | (go_at_call 23; (with_reducible apply quiet_call); with_reducible exact point_c _ _) | (go_at_call 26; (with_reducible apply quiet_call); with_reducible exact decIv_c _ _) | (go_at_call 26; (with_reducible apply quiet_call); with_reducible exact decIv_c ⟨_, _⟩ _))) | quiet_step ((first | (go_at_call 12; (with_reducible apply quiet_call); with_reducible exact idiv_c _ _ _) | (go_at_call 12; (with_reducible apply quiet_call); with_reducible exact idiv_c _ ⟨_, _, _⟩ _) | (go_at_call 12; (with_reducible apply quiet_call); with_reducible exact idiv_c ⟨_, _, _⟩ _ _) | (go_at_call 12; (with_reducible apply quiet_call); with_reducible exact idiv_c ⟨_, _, _⟩ ⟨_, _, _⟩ _) | (go_at_call 23; (with_reducible apply quiet_call); with_reducible exact point_c _ _) | (go_at_call 26; (with_reducible apply quiet_call); with_reducible exact decIv_c _ _) | (go_at_call 26; (with_reducible apply quiet_call); with_reducible exact decIv_c ⟨_, _⟩ _)))))); (with_reducible refine wpQuiet_nil ?_); intro r))
    go_returns
    exact ⟨rfl, (by repeat (first | exact More.refl _ | refine More.alloc ?_ _ | refine More.more ?_ _ | refine More.drew ?_ | refine More.drewN ?_ _))⟩
  · rw [if_neg hc]
    have hq : (c == 0) = false := by simpa using hc
    have HC := Lib.hid hc
    clear hc
    go_enter Tryz.func64, Tryz.ntmps64
    go_wp2_with (first | (go_at_call 12; (with_reducible refine (idiv_c _ _ _).mono ?_); rintro e w' ⟨rfl, r, rfl⟩) | (go_at_call 12; (with_reducible refine (idiv_c _ ⟨_, _, _⟩ _).mono ?_); rintro e w' ⟨rfl, r, rfl⟩) | (go_at_call 12; (with_reducible refine (idiv_c ⟨_, _, _⟩ _ _).mono ?_); rintro e w' ⟨rfl, r, rfl⟩) | (go_at_call 12; (with_reducible refine (idiv_c ⟨_, _, _⟩ ⟨_, _, _⟩ _).mono ?_); rintro e w' ⟨rfl, r, rfl⟩) | (go_at_call 23; (with_reducible refine (point_c _ _).mono ?_); rintro e w' ⟨rfl, r, rfl⟩) | (go_at_call 26; (with_reducible refine (decIv_c _ _).mono ?_); rintro e w' ⟨rfl, r, rfl⟩) | (go_at_call 26; (with_reducible refine (decIv_c ⟨_, _⟩ _).mono ?_); rintro e w' ⟨rfl, r, rfl⟩) | ((with_reducible show Code.wp _ (Code.region 3 _ true) _ _ _); (with_reducible refine wp_more_tailq_m (id := 3) 4 ?_ ?_ ?_); kernel_rfl; kernel_rfl; (try simp only [List.take_succ_cons, List.take_zero, List.drop_succ_cons, List.drop_zero]); (repeat (any_goals (first | go_big_quiet_step ((first | (go_at_call 12; (with_reducible apply quiet_call); with_reducible exact idiv_c _ _ _) | (go_at_call 12; (with_reducible apply quiet_call); with_reducible exact idiv_c _ ⟨_, _, _⟩ _) | (go_at_call 12; (with_reducible apply quiet_call); with_reducible exact idiv_c ⟨_, _, _⟩ _ _) | (go_at_call 12; (with_reducible apply quiet_call); with_reducible exact idiv_c ⟨_, _, _⟩ ⟨_, _, _⟩ _) | (go_at_call 23; (with_reducible apply quiet_call); with_reducible exact point_c _ _) | (go_at_call 26; (with_reducible apply quiet_call); with_reducible exact decIv_c _ _) | (go_at_call 26; (with_reducible apply quiet_call); with_reducible exact decIv_c ⟨_, _⟩ _))) | quiet_step ((first | (go_at_call 12; (with_reducible apply quiet_call); with_reducible exact idiv_c _ _ _) | (go_at_call 12; (with_reducible apply quiet_call); with_reducible exact idiv_c _ ⟨_, _, _⟩ _) | (go_at_call 12; (with_reducible apply quiet_call); with_reducible exact idiv_c ⟨_, _, _⟩ _ _) | (go_at_call 12; (with_reducible apply quiet_call); with_reducible exact idiv_c ⟨_, _, _⟩ ⟨_, _, _⟩ _) | (go_at_call 23; (with_reducible apply quiet_call); with_reducible exact point_c _ _) | (go_at_call 26; (with_reducible apply quiet_call); with_reducible exact decIv_c _ _) | (go_at_call 26; (with_reducible apply quiet_call); with_reducible exact decIv_c ⟨_, _⟩ _)))))); (with_reducible refine wpQuiet_nil ?_); intro r) | ((with_reducible show Code.wp _ (Code.region 3 _ true) _ _ _); (with_reducible refine wp_more_tailq (id := 3) 4 ?_ ?_ ?_); kernel_rfl; kernel_rfl; (try simp only [List.take_succ_cons, List.take_zero, List.drop_succ_cons, List.drop_zero]); (repeat (any_goals (first | go_big_quiet_step ((first | (go_at_call 12; (with_reducible apply quiet_call); with_reducible exact idiv_c _ _ _) | (go_at_call 12; (with_reducible apply quiet_call); with_reducible exact idiv_c _ ⟨_, _, _⟩ _) | (go_at_call 12; (with_reducible apply quiet_call); with_reducible exact idiv_c ⟨_, _, _⟩ _ _) | (go_at_call 12; (with_reducible apply quiet_call); with_reducible exact idiv_c ⟨_, _, _⟩ ⟨_, _, _⟩ _) | (go_at_call 23; (with_reducible apply quiet_call); with_reducible exact point_c _ _) | (go_at_call 26; (with_reducible apply quiet_call); with_reducible exact decIv_c _ _) | (go_at_call 26; (with_reducible apply quiet_call); with_reducible exact decIv_c ⟨_, _⟩ _))) | quiet_step ((first | (go_at_call 12; (with_reducible apply quiet_call); with_reducible exact idiv_c _ _ _) | (go_at_call 12; (with_reducible apply quiet_call); with_reducible exact idiv_c _ ⟨_, _, _⟩ _) | (go_at_call 12; (with_reducible apply quiet_call); with_reducible exact idiv_c ⟨_, _, _⟩ _ _) | (go_at_call 12; (with_reducible apply quiet_call); with_reducible exact idiv_c ⟨_, _, _⟩ ⟨_, _, _⟩ _) | (go_at_call 23; (with_reducible apply quiet_call); with_reducible exact point_c _ _) | (go_at_call 26; (with_reducible apply quiet_call); with_reducible exact decIv_c _ _) | (go_at_call 26; (with_reducible apply quiet_call); with_reducible exact decIv_c ⟨_, _⟩ _)))))); (with_reducible refine wpQuiet_nil ?_); intro r))
    go_returns
    exact ⟨rfl, (by repeat (first | exact More.refl _ | refine More.alloc ?_ _ | refine More.more ?_ _ | refine More.drew ?_ | refine More.drewN ?_ _))⟩

set_option maxHeartbeats 8000000 in
theorem sindex_c (t : List UInt8) (v : Value) (G : List Gl) (x : Iv) (W : World) (hg : Gls W v G) (hG : G.length ≤ 1000000) (ht : t.length ≤ 1000000) :
    Calls Tryz.prog 28 #[.string (bsOf t), v, ivV x] W fun e w' => e = .returned (ivV (faceIx G x t)) ∧ More W w' := by
  obtain ⟨x1, x2, x3⟩ := x
  obtain ⟨R, hR⟩ : ∃ R, faceIx G ⟨x1, x2, x3⟩ t = R := ⟨_, rfl⟩
  rw [hR]
  have HR := Lib.hid hR
  clear hR
  by_cases ha : t = airT
  · have hq : (t == [97, 105, 114]) = true := by rw [ha]; rfl
    have e : R = ivPoint 65536 := by rw [← HR.out]; unfold faceIx oneI; rw [if_pos ha]
    subst e
    clear ha
    go_enter Tryz.func28, Tryz.ntmps28
    go_wp2_with (first | (go_at_call 11; (with_reducible refine (index_c _ _ _).mono ?_); rintro e w' ⟨rfl, r, rfl⟩) | (go_at_call 11; (with_reducible refine (index_c _ ⟨_, _, _⟩ _).mono ?_); rintro e w' ⟨rfl, r, rfl⟩) | (go_at_call 11; (with_reducible refine (index_c ⟨_, _, _, _, _, _, _⟩ _ _).mono ?_); rintro e w' ⟨rfl, r, rfl⟩) | (go_at_call 11; (with_reducible refine (index_c ⟨_, _, _, _, _, _, _⟩ ⟨_, _, _⟩ _).mono ?_); rintro e w' ⟨rfl, r, rfl⟩) | (go_at_call 11; (with_reducible refine (index_c ⟨_, ⟨_, _⟩, ⟨_, _⟩, ⟨_, _⟩, ⟨_, _⟩, ⟨_, _⟩, ⟨_, _⟩⟩ ⟨_, _, _⟩ _).mono ?_); rintro e w' ⟨rfl, r, rfl⟩) | (go_at_call 11; (with_reducible refine (indexX_c _ _ _).mono ?_); rintro e w' ⟨rfl, r, rfl⟩) | (go_at_call 11; (with_reducible refine (indexX_c _ ⟨_, _, _⟩ _).mono ?_); rintro e w' ⟨rfl, r, rfl⟩) | (go_at_call 11; (with_reducible refine (indexY_c _ _ _).mono ?_); rintro e w' ⟨rfl, r, rfl⟩) | (go_at_call 11; (with_reducible refine (indexY_c _ ⟨_, _, _⟩ _).mono ?_); rintro e w' ⟨rfl, r, rfl⟩) | (go_at_call 11; (with_reducible refine (indexN_c () _ _).mono ?_); rintro e w' ⟨rfl, r, rfl⟩) | (go_at_call 11; (with_reducible refine (indexN_c () ⟨_, _, _⟩ _).mono ?_); rintro e w' ⟨rfl, r, rfl⟩) | (go_at_call 11; (with_reducible refine (indexA_c () _ _).mono ?_); rintro e w' ⟨rfl, r, rfl⟩) | (go_at_call 11; (with_reducible refine (indexA_c () ⟨_, _, _⟩ _).mono ?_); rintro e w' ⟨rfl, r, rfl⟩) | (go_at_call 23; (with_reducible refine (point_c _ _).mono ?_); rintro e w' ⟨rfl, r, rfl⟩))
    go_returns
    exact ⟨rfl, (by repeat (first | exact More.refl _ | refine More.alloc ?_ _ | refine More.more ?_ _ | refine More.drew ?_ | refine More.drewN ?_ _))⟩
  · have hq : (t == [97, 105, 114]) = false := by
      have : t ≠ [97, 105, 114] := ha
      simpa using this
    have e : R = ixG (findG t G) ⟨x1, x2, x3⟩ := by rw [← HR.out]; unfold faceIx; rw [if_neg ha]
    subst e
    clear ha
    obtain ⟨g, hgf⟩ : ∃ g, findG t G = g := ⟨_, rfl⟩
    have HF := Lib.hid hgf
    have HG := Lib.hid hg
    clear hg
    rw [hgf]
    clear hgf
    go_enter Tryz.func28, Tryz.ntmps28
    go_wp2_with fail
    go_at_call 65
    refine Calls.mono (find_c _ G t _ (HG.out.up (by repeat (first | exact More.refl _ | refine More.alloc ?_ _ | refine More.more ?_ _ | refine More.drew ?_ | refine More.drewN ?_ _))) hG ht) ?_
    rintro e w' ⟨rfl, r, rfl⟩
    rw [HF.out]
    go_wp2_with (first | (go_at_call 11; (with_reducible refine (index_c _ _ _).mono ?_); rintro e w' ⟨rfl, r, rfl⟩) | (go_at_call 11; (with_reducible refine (index_c _ ⟨_, _, _⟩ _).mono ?_); rintro e w' ⟨rfl, r, rfl⟩) | (go_at_call 11; (with_reducible refine (index_c ⟨_, _, _, _, _, _, _⟩ _ _).mono ?_); rintro e w' ⟨rfl, r, rfl⟩) | (go_at_call 11; (with_reducible refine (index_c ⟨_, _, _, _, _, _, _⟩ ⟨_, _, _⟩ _).mono ?_); rintro e w' ⟨rfl, r, rfl⟩) | (go_at_call 11; (with_reducible refine (index_c ⟨_, ⟨_, _⟩, ⟨_, _⟩, ⟨_, _⟩, ⟨_, _⟩, ⟨_, _⟩, ⟨_, _⟩⟩ ⟨_, _, _⟩ _).mono ?_); rintro e w' ⟨rfl, r, rfl⟩) | (go_at_call 11; (with_reducible refine (indexX_c _ _ _).mono ?_); rintro e w' ⟨rfl, r, rfl⟩) | (go_at_call 11; (with_reducible refine (indexX_c _ ⟨_, _, _⟩ _).mono ?_); rintro e w' ⟨rfl, r, rfl⟩) | (go_at_call 11; (with_reducible refine (indexY_c _ _ _).mono ?_); rintro e w' ⟨rfl, r, rfl⟩) | (go_at_call 11; (with_reducible refine (indexY_c _ ⟨_, _, _⟩ _).mono ?_); rintro e w' ⟨rfl, r, rfl⟩) | (go_at_call 11; (with_reducible refine (indexN_c () _ _).mono ?_); rintro e w' ⟨rfl, r, rfl⟩) | (go_at_call 11; (with_reducible refine (indexN_c () ⟨_, _, _⟩ _).mono ?_); rintro e w' ⟨rfl, r, rfl⟩) | (go_at_call 11; (with_reducible refine (indexA_c () _ _).mono ?_); rintro e w' ⟨rfl, r, rfl⟩) | (go_at_call 11; (with_reducible refine (indexA_c () ⟨_, _, _⟩ _).mono ?_); rintro e w' ⟨rfl, r, rfl⟩))
    go_returns
    exact ⟨rfl, (by repeat (first | exact More.refl _ | refine More.alloc ?_ _ | refine More.more ?_ _ | refine More.drew ?_ | refine More.drewN ?_ _))⟩

set_option maxHeartbeats 16000000 in
set_option maxRecDepth 100000 in
theorem surface_c (f : Fc) (p : Iv) (W : World) : Calls Tryz.prog 27 #[fcV f, ivV p] W fun e w' => e = .returned (sfV (sfBase f p)) ∧ More W w' := by
  obtain ⟨fs, ⟨fr1, fr2⟩, ⟨fa1, fa2⟩, ⟨ft1, ft2⟩, ⟨fk1, fk2⟩, ⟨fp1, fp2⟩, ⟨fq1, fq2⟩, fg⟩ := f
  obtain ⟨p1, p2, p3⟩ := p
  have hone : ivPoint 65536 = ⟨65536, 65536, false⟩ := by kernel_rfl
  obtain ⟨⟨v1, v2, v3⟩, hv⟩ : ∃ d, curveP ⟨fr1, fr2⟩ = d := ⟨_, rfl⟩
  obtain ⟨⟨d1, d2, d3⟩, hd⟩ : ∃ d, decIv ⟨fk1, fk2⟩ = d := ⟨_, rfl⟩
  obtain ⟨⟨k1, k2, k3⟩, hk⟩ : ∃ d, ivAdd ⟨65536, 65536, false⟩ ⟨d1, d2, d3⟩ = d := ⟨_, rfl⟩
  obtain ⟨⟨a1, a2, a3⟩, ha⟩ : ∃ d, decIv ⟨fp1, fp2⟩ = d := ⟨_, rfl⟩
  obtain ⟨⟨b1, b2, b3⟩, hb⟩ : ∃ d, decIv ⟨fq1, fq2⟩ = d := ⟨_, rfl⟩
  obtain ⟨⟨e1, e2, e3⟩, he⟩ : ∃ d, decIv ⟨fa1, fa2⟩ = d := ⟨_, rfl⟩
  obtain ⟨⟨q1, q2, q3⟩, hq⟩ : ∃ d, ivSqr ⟨e1, e2, e3⟩ = d := ⟨_, rfl⟩
  have hs : sfBase ⟨fs, ⟨fr1, fr2⟩, ⟨fa1, fa2⟩, ⟨ft1, ft2⟩, ⟨fk1, fk2⟩, ⟨fp1, fp2⟩, ⟨fq1, fq2⟩, fg⟩ ⟨p1, p2, p3⟩ = ⟨fs, !isZ ⟨fp1, fp2⟩ || !isZ ⟨fq1, fq2⟩, ⟨v1, v2, v3⟩, ⟨k1, k2, k3⟩, ⟨a1, a2, a3⟩, ⟨b1, b2, b3⟩, ⟨p1, p2, p3⟩, ⟨q1, q2, q3⟩, ⟨65536, 65536, false⟩⟩ := by
    unfold sfBase bentP oneI
    dsimp only
    rw [hone, hv, hd, hk, ha, hb, he, hq]
  rw [hs]
  clear hs
  have n1 := neql_dec0 fp1 fp2
  have n2 := neql_dec0 fq1 fq2
  cases h1 : isZ ⟨fp1, fp2⟩ <;> cases h2 : isZ ⟨fq1, fq2⟩
  all_goals
    rw [h1] at n1
    rw [h2] at n2
    clear h1 h2
    simp only [Bool.not_true, Bool.not_false] at n1 n2
    go_enter Tryz.func27, Tryz.ntmps27
    go_wp2_with (first | (go_at_call 23; (with_reducible refine (point_c _ _).mono ?_); rintro e w' ⟨rfl, r, rfl⟩) | (go_at_call 26; (with_reducible refine (decIv_c _ _).mono ?_); rintro e w' ⟨rfl, r, rfl⟩) | (go_at_call 26; (with_reducible refine (decIv_c ⟨_, _⟩ _).mono ?_); rintro e w' ⟨rfl, r, rfl⟩) | (go_at_call 29; (with_reducible refine (add_c _ _ _).mono ?_); rintro e w' ⟨rfl, r, rfl⟩) | (go_at_call 29; (with_reducible refine (add_c _ ⟨_, _, _⟩ _).mono ?_); rintro e w' ⟨rfl, r, rfl⟩) | (go_at_call 29; (with_reducible refine (add_c ⟨_, _, _⟩ _ _).mono ?_); rintro e w' ⟨rfl, r, rfl⟩) | (go_at_call 29; (with_reducible refine (add_c ⟨_, _, _⟩ ⟨_, _, _⟩ _).mono ?_); rintro e w' ⟨rfl, r, rfl⟩) | (go_at_call 31; (with_reducible refine (sqr_c _ _).mono ?_); rintro e w' ⟨rfl, r, rfl⟩) | (go_at_call 31; (with_reducible refine (sqr_c ⟨_, _, _⟩ _).mono ?_); rintro e w' ⟨rfl, r, rfl⟩) | (go_at_call 64; (with_reducible refine (scurve_c _ _).mono ?_); rintro e w' ⟨rfl, r, rfl⟩) | (go_at_call 64; (with_reducible refine (scurve_c ⟨_, _⟩ _).mono ?_); rintro e w' ⟨rfl, r, rfl⟩) | ((with_reducible show Code.wp _ (Code.region 1 _ true) _ _ _); (with_reducible refine wp_more_tailq_m (id := 1) 33 ?_ ?_ ?_); kernel_rfl; kernel_rfl; (try simp only [List.take_succ_cons, List.take_zero, List.drop_succ_cons, List.drop_zero]); (repeat (any_goals (first | go_big_quiet_step ((first | (go_at_call 23; (with_reducible apply quiet_call); with_reducible exact point_c _ _) | (go_at_call 26; (with_reducible apply quiet_call); with_reducible exact decIv_c _ _) | (go_at_call 26; (with_reducible apply quiet_call); with_reducible exact decIv_c ⟨_, _⟩ _) | (go_at_call 29; (with_reducible apply quiet_call); with_reducible exact add_c _ _ _) | (go_at_call 29; (with_reducible apply quiet_call); with_reducible exact add_c _ ⟨_, _, _⟩ _) | (go_at_call 29; (with_reducible apply quiet_call); with_reducible exact add_c ⟨_, _, _⟩ _ _) | (go_at_call 29; (with_reducible apply quiet_call); with_reducible exact add_c ⟨_, _, _⟩ ⟨_, _, _⟩ _) | (go_at_call 31; (with_reducible apply quiet_call); with_reducible exact sqr_c _ _) | (go_at_call 31; (with_reducible apply quiet_call); with_reducible exact sqr_c ⟨_, _, _⟩ _) | (go_at_call 64; (with_reducible apply quiet_call); with_reducible exact scurve_c _ _) | (go_at_call 64; (with_reducible apply quiet_call); with_reducible exact scurve_c ⟨_, _⟩ _))) | quiet_step ((first | (go_at_call 23; (with_reducible apply quiet_call); with_reducible exact point_c _ _) | (go_at_call 26; (with_reducible apply quiet_call); with_reducible exact decIv_c _ _) | (go_at_call 26; (with_reducible apply quiet_call); with_reducible exact decIv_c ⟨_, _⟩ _) | (go_at_call 29; (with_reducible apply quiet_call); with_reducible exact add_c _ _ _) | (go_at_call 29; (with_reducible apply quiet_call); with_reducible exact add_c _ ⟨_, _, _⟩ _) | (go_at_call 29; (with_reducible apply quiet_call); with_reducible exact add_c ⟨_, _, _⟩ _ _) | (go_at_call 29; (with_reducible apply quiet_call); with_reducible exact add_c ⟨_, _, _⟩ ⟨_, _, _⟩ _) | (go_at_call 31; (with_reducible apply quiet_call); with_reducible exact sqr_c _ _) | (go_at_call 31; (with_reducible apply quiet_call); with_reducible exact sqr_c ⟨_, _, _⟩ _) | (go_at_call 64; (with_reducible apply quiet_call); with_reducible exact scurve_c _ _) | (go_at_call 64; (with_reducible apply quiet_call); with_reducible exact scurve_c ⟨_, _⟩ _)))))); (with_reducible refine wpQuiet_nil ?_); intro r) | ((with_reducible show Code.wp _ (Code.region 1 _ true) _ _ _); (with_reducible refine wp_more_tailq (id := 1) 33 ?_ ?_ ?_); kernel_rfl; kernel_rfl; (try simp only [List.take_succ_cons, List.take_zero, List.drop_succ_cons, List.drop_zero]); (repeat (any_goals (first | go_big_quiet_step ((first | (go_at_call 23; (with_reducible apply quiet_call); with_reducible exact point_c _ _) | (go_at_call 26; (with_reducible apply quiet_call); with_reducible exact decIv_c _ _) | (go_at_call 26; (with_reducible apply quiet_call); with_reducible exact decIv_c ⟨_, _⟩ _) | (go_at_call 29; (with_reducible apply quiet_call); with_reducible exact add_c _ _ _) | (go_at_call 29; (with_reducible apply quiet_call); with_reducible exact add_c _ ⟨_, _, _⟩ _) | (go_at_call 29; (with_reducible apply quiet_call); with_reducible exact add_c ⟨_, _, _⟩ _ _) | (go_at_call 29; (with_reducible apply quiet_call); with_reducible exact add_c ⟨_, _, _⟩ ⟨_, _, _⟩ _) | (go_at_call 31; (with_reducible apply quiet_call); with_reducible exact sqr_c _ _) | (go_at_call 31; (with_reducible apply quiet_call); with_reducible exact sqr_c ⟨_, _, _⟩ _) | (go_at_call 64; (with_reducible apply quiet_call); with_reducible exact scurve_c _ _) | (go_at_call 64; (with_reducible apply quiet_call); with_reducible exact scurve_c ⟨_, _⟩ _))) | quiet_step ((first | (go_at_call 23; (with_reducible apply quiet_call); with_reducible exact point_c _ _) | (go_at_call 26; (with_reducible apply quiet_call); with_reducible exact decIv_c _ _) | (go_at_call 26; (with_reducible apply quiet_call); with_reducible exact decIv_c ⟨_, _⟩ _) | (go_at_call 29; (with_reducible apply quiet_call); with_reducible exact add_c _ _ _) | (go_at_call 29; (with_reducible apply quiet_call); with_reducible exact add_c _ ⟨_, _, _⟩ _) | (go_at_call 29; (with_reducible apply quiet_call); with_reducible exact add_c ⟨_, _, _⟩ _ _) | (go_at_call 29; (with_reducible apply quiet_call); with_reducible exact add_c ⟨_, _, _⟩ ⟨_, _, _⟩ _) | (go_at_call 31; (with_reducible apply quiet_call); with_reducible exact sqr_c _ _) | (go_at_call 31; (with_reducible apply quiet_call); with_reducible exact sqr_c ⟨_, _, _⟩ _) | (go_at_call 64; (with_reducible apply quiet_call); with_reducible exact scurve_c _ _) | (go_at_call 64; (with_reducible apply quiet_call); with_reducible exact scurve_c ⟨_, _⟩ _)))))); (with_reducible refine wpQuiet_nil ?_); intro r))
  all_goals
    exact bodyPost_ret (results_one Tryz.results27 rfl (load_sf_obj (obj_at2 _ _ _ _ _))) rfl ⟨rfl, (by repeat (first | exact More.refl _ | refine More.alloc ?_ _ | refine More.more ?_ _ | refine More.drew ?_ | refine More.drewN ?_ _))⟩
end Go.Proofs.YtekhhekkepijoaaGreatDoor

