/-
  A system of raw faces: the lens of them, built.
-/
import Derived.Test.YtggohceeeggnmaaGreatSysRf4
import Derived.Test.YtggohceeeggnmaaGreatLensHd
import Derived.Test.YtggohceeeggnmaaGreatGj
import Derived.Test.YtggohceeeggnmaaGreatGc
import Derived.Test.YtggohceeeggnmaaGreatGy5
import Derived.Test.YtggohceeeggnmaaGreatGb
import Derived.Deep.RegionLaw
import Derived.Deep.Cut
namespace Go.Proofs.YtggohceeeggnmaaGreat
set_option linter.unusedVariables false
open Go.ChangeShapes Go.WideShapes Go.ChangeAt Go.RowKit

/-- The system that meniscushand.System tells. -/
def hsP (back : Int) (l : List RawF) (raw : List Int) (most : Nat) : Sy := (bq true (handLn back l (glassesG raw) most) (glassesG raw) (lineP (back % 3))).1
theorem hsP_len (back : Int) (l : List RawF) (raw : List Int) {most : Nat} (hm : most ≤ 12) : (hsP back l raw most).rows.length ≤ 12 := by
  unfold hsP bq
  rw [if_pos rfl]
  split
  · show (stP _ _ _ _).rows.length ≤ 12
    rw [stP_len]
    exact (handFaces_len (glassesG raw) l hm).1
  · exact Nat.zero_le _
theorem short_name {x : Ln} (hok : OkLn x) : ∀ f ∈ x.faces, f.glass.length ≤ 1000000 := by
  intro f hf
  have h := hok.faces f hf
  cases hs : f.stop with
  | true => rw [(h.bare hs).2.2.2.2]; simp
  | false =>
    obtain ⟨c, w, e, -, -, hl⟩ := h.glass hs
    rw [e, List.length_cons]
    omega
/-- What the reference builds of a lens that may be, its glasses known or not. -/
theorem buildR_c (x : Ln) (lv g : Value) (G : List Gl) (w : Iv) (W : World) (hok : OkLn x) (h1 : 1 ≤ x.faces.length) (hx : Fcs W lv x.faces) (hg : Gls W g G) (hG : G.length ≤ 1000) :
    Calls Tryz.prog 28 #[lnV x lv, g, ivV w] W fun e w' => ∃ v', e = .returned (.tuple #[syV (bq (x.faces.all (knownF (G.map Gl.name))) x G w).1.wide v', .int .i64 (bq (x.faces.all (knownF (G.map Gl.name))) x G w).2]) ∧ More W w' ∧ Sfs w' v' (bq (x.faces.all (knownF (G.map Gl.name))) x G w).1.rows ∧ NewV W v' :=
  build8_c x lv g G w _ W hx hg hG hok.most h1 (short_name hok) fun W1 hM => rlens8_c x lv g G W1 hok (hx.up hM) (hg.up hM) (by omega)

set_option maxHeartbeats 16000000 in
set_option maxRecDepth 100000 in
theorem hsys_c (back : Int) (s0 s1 : Value) (l : List RawF) (raw : List Int) (most : Nat) (W : World) (b0 : -9223372036854775808 ≤ back) (b1 : back ≤ 9223372036854775807) (i0 : Raws W s0 l) (k0 : ∀ f ∈ l, OkRaw f) (m0 : l.length ≤ 9223372036854775807)
    (i1 : Ints W s1 raw) (k1 : ∀ n ∈ raw, -9223372036854775808 ≤ n ∧ n ≤ 9223372036854775807) (m1 : raw.length ≤ 9223372036854775807) (hm : most ≤ 12) :
    Calls Tryz.prog 6 #[.int .i64 back, s0, s1, .int .i64 most, .bool false] W fun e w' => ∃ v', e = .returned (syV (hsP back l raw most).wide v') ∧ More W w' ∧ Sfs w' v' (hsP back l raw most).rows := by
  have hglen := glassesG_len raw
  have hok : OkLn (handLn back l (glassesG raw) most) := handLn_ok back l (glassesG_ok raw) hm
  have hfl : 1 ≤ (handLn back l (glassesG raw) most).faces.length := (handFaces_len (glassesG raw) l hm).2
  have hkn := hand_known back l raw most
  have hgl : ∀ u, More W u → Calls Tryz.prog 25 #[s1] u fun e w' => ∃ v', e = .returned v' ∧ More u w' ∧ Gls w' v' (glassesG raw) := fun u hM => glasses_c s1 raw u (i1.up hM) k1 m1
  have hlens : ∀ (u : World) (v : Value), More W u → Gls u v (glassesG raw) → Calls Tryz.prog 26 #[.int .i64 back, s0, v, .int .i64 most] u fun e w' => ∃ lv, e = .returned (lnV (handLn back l (glassesG raw) most) lv) ∧ More u w' ∧ Fcs w' lv (handLn back l (glassesG raw) most).faces :=
    fun u v hM hg => lens_c back s0 v l (glassesG raw) most u b0 b1 (i0.up hM) k0 m0 hg (by omega) hm
  have hbuild : ∀ (u : World) (lv g : Value) (w : Iv), Fcs u lv (handLn back l (glassesG raw) most).faces → Gls u g (glassesG raw) → Calls Tryz.prog 28 #[lnV (handLn back l (glassesG raw) most) lv, g, ivV w] u fun e w' => ∃ v', e = .returned (.tuple #[syV (bq true (handLn back l (glassesG raw) most) (glassesG raw) w).1.wide v', .int .i64 (bq true (handLn back l (glassesG raw) most) (glassesG raw) w).2]) ∧ More u w' ∧ Sfs w' v' (bq true (handLn back l (glassesG raw) most) (glassesG raw) w).1.rows ∧ NewV u v' := by
    intro u lv g w hF hg
    have h := buildR_c _ lv g (glassesG raw) w u hok hfl hF hg (by omega)
    rw [hkn] at h
    exact h
  have HG0 := Lib.hid hgl
  have HLENS := Lib.hid hlens
  have HBUILD := Lib.hid (hbuild)
  clear hgl hlens hbuild i0 i1 k0 k1 m0 m1 hok hkn hfl
  unfold hsP
  obtain ⟨x, hx⟩ : ∃ x, handLn back l (glassesG raw) most = x := ⟨_, rfl⟩
  rw [hx] at HLENS HBUILD ⊢
  clear hx
  obtain ⟨⟨n1, n2, n3⟩, hn⟩ : ∃ d, lineP (back % 3) = d := ⟨_, rfl⟩
  have HB := Lib.hid (fun u lv g => HBUILD.out u lv g ⟨n1, n2, n3⟩)
  clear HBUILD
  rw [hn]
  obtain ⟨⟨⟨P, ⟨o1, o2, o3⟩⟩, E⟩, hq⟩ : ∃ q, bq true x (glassesG raw) ⟨n1, n2, n3⟩ = q := ⟨_, rfl⟩
  rw [hq] at HB ⊢
  clear hq
  obtain ⟨nm, ⟨bc, bs⟩, fcs⟩ := x
  dsimp only at HLENS HB ⊢
  go_enter Tryz.func6, Tryz.ntmps6
  go_wp2_with fail
  go_at_call 25
  refine Calls.mono (HG0.out _ (by repeat (first | exact More.refl _ | refine More.alloc ?_ _ | refine More.more ?_ _ | refine More.drew ?_ | refine More.drewN ?_ _))) ?_
  rintro e u1 ⟨v1, rfl, ⟨r1, rfl⟩, hg1⟩
  obtain ⟨ga, ca, rfl, -⟩ := grow_form gls_pos hg1
  have HG := Lib.hid hg1
  clear hg1
  go_wp2_with fail
  go_at_call 26
  refine Calls.mono (HLENS.out _ _ (by repeat (first | exact More.refl _ | refine More.alloc ?_ _ | refine More.more ?_ _ | refine More.drew ?_ | refine More.drewN ?_ _)) (HG.out.up (by repeat (first | exact More.refl _ | refine More.alloc ?_ _ | refine More.more ?_ _ | refine More.drew ?_ | refine More.drewN ?_ _)))) ?_
  rintro e u2 ⟨lv, rfl, ⟨r2, rfl⟩, hF2⟩
  obtain ⟨la, lc, rfl, -⟩ := grow_form fcs_pos hF2
  have HF := Lib.hid hF2
  clear hF2
  go_upto_region 5 with fail
  go_region_law (first | (go_simp; go_at_call 30; (refine Calls.mono (pick_c back 3 b0 b1 (by omega) (by omega) _) ?_); rintro en w' ⟨rfl, rfl⟩) | (go_simp; go_at_call 29; (refine Calls.mono (rline_c (back % 3) _) ?_); rintro en w' ⟨rfl, r3, rfl⟩; rw [hn]) | (go_simp; go_at_call 28; (refine Calls.mono (HB.out _ _ _ (HF.out.up (by (try simp only [more_more]); first | exact (by repeat (first | exact More.refl _ | refine plus_more ?_ | refine More.alloc ?_ _ | refine More.more ?_ _ | refine More.drew ?_ | refine More.drewN ?_ _)) | exact (by repeat (first | exact More.refl _ | refine More.alloc ?_ _ | refine More.more ?_ _ | refine More.drew ?_ | refine More.drewN ?_ _)))) (HG.out.up (by (try simp only [more_more]); first | exact (by repeat (first | exact More.refl _ | refine plus_more ?_ | refine More.alloc ?_ _ | refine More.more ?_ _ | refine More.drew ?_ | refine More.drewN ?_ _)) | exact (by repeat (first | exact More.refl _ | refine More.alloc ?_ _ | refine More.more ?_ _ | refine More.drew ?_ | refine More.drewN ?_ _))))) ?_); rintro e w' ⟨v4, rfl, ⟨r4, rfl⟩, hS4, hN4⟩; obtain ⟨wa, wc4, rfl, -⟩ := grow_form sfs_pos hS4))
  all_goals
    go_wp2_with fail
    go_returns
    refine ⟨_, rfl, (by repeat (first | exact More.refl _ | refine More.alloc ?_ _ | refine More.more ?_ _ | refine More.drew ?_ | refine More.drewN ?_ _)), ?_⟩
    first
    | exact sfs_swap (by simp) hS4 hN4
    | (rw [← more_more]; exact sfs_swap (by simp) hS4 hN4)
    | (refine GRow.alloc ?_; exact sfs_swap (by simp) hS4 hN4)
    | (refine GRow.alloc ?_; rw [← more_more]; exact sfs_swap (by simp) hS4 hN4)
    | (rw [more_more] at hS4; first | exact sfs_swap (by simp) hS4 (hN4.less (by simp)) | (refine GRow.alloc ?_; exact sfs_swap (by simp) hS4 (hN4.less (by simp))))
    | trace_state
end Go.Proofs.YtggohceeeggnmaaGreat

