/-
  system.Build is what chapter 13 says: face by face.
-/
import Derived.Test.YtekhhekkepijoaaGreatDoorSys1
import Derived.Test.YtekhhekkepijoaaGreatDoorSys3
import Derived.Test.YtekhhekkepijoaaGreatDoorGr5
import Derived.Test.YtekhhekkepijoaaGreatDoorGk
import Derived.Deep.RegionLaw
import Derived.Deep.Cut
import Derived.Deep.CutRange
namespace Go.Proofs.YtekhhekkepijoaaGreatDoor
set_option linter.unusedVariables false
open Go.ChangeShapes Go.WideShapes Go.ChangeAt Go.RowKit

set_option maxHeartbeats 16000000 in
set_option maxRecDepth 100000 in
theorem build_c (x : Ln) (lv g : Value) (G : List Gl) (w : Iv) (V : Bool) (W : World) (hx : Fcs W lv x.faces) (hg : Gls W g G) (hG : G.length ≤ 1000) (h12 : x.faces.length ≤ 12) (h1 : 1 ≤ x.faces.length) (hnm : ∀ f ∈ x.faces, f.glass.length ≤ 1000000)
    (hr : ∀ W1, More W W1 → Calls Tryz.prog 25 #[lnV x lv, g] W1 fun e w' => e = .returned (.bool V) ∧ More W1 w') :
    Calls Tryz.prog 8 #[lnV x lv, g, ivV w] W fun e w' => ∃ v', e = .returned (.tuple #[syV (bq V x G w).1.wide v', .int .i64 (bq V x G w).2]) ∧ More W w' ∧ Sfs w' v' (bq V x G w).1.rows ∧ NewV W v' := by
  obtain ⟨j0, hi, hz0, hz1, hz2⟩ := info_parts info_ss
  obtain ⟨la, lc, rfl, hc⟩ := grow_form fcs_pos hx
  obtain ⟨lb, lo, rfl, hlb, hd⟩ := hc (by omega)
  have hL : ∀ k f, x.faces[k]? = some f → ∀ r, (loadWhole 56 ⟨lb, lo + k * 14, none⟩).run Tryz.prog (more W r) = .ok (fcV f) (more W r) := by
    intro k f hf
    obtain ⟨b, o, e, hb, h, -⟩ := fcs_at hx hf
    cases e
    exact h
  obtain ⟨f0, hf0⟩ : ∃ f, x.faces[0]? = some f := ⟨x.faces[0], List.getElem?_eq_getElem (by omega)⟩
  have d3 := hd 0 f0 hf0 3 _ rfl
  have d4 := hd 0 f0 hf0 4 _ rfl
  rw [Nat.zero_mul, Nat.zero_add] at d3 d4
  obtain ⟨⟨o1, o2, o3⟩, hO⟩ : ∃ d, decIv f0.aperture = d := ⟨_, rfl⟩
  obtain ⟨⟨p1, p2, p3⟩, hP⟩ : ∃ d, decIv x.back = d := ⟨_, rfl⟩
  have hone : ivPoint 65536 = ⟨65536, 65536, false⟩ := by kernel_rfl
  have hopen : openP x = ⟨o1, o2, o3⟩ := by
    unfold openP
    rw [List.headD_eq_head?_getD, List.head?_eq_getElem?, hf0]
    exact hO
  obtain ⟨⟨ap1, ap2⟩, hap⟩ : ∃ d, f0.aperture = d := ⟨_, rfl⟩
  rw [hap] at hO d3 d4
  dsimp only at d3 d4
  obtain ⟨nm, ⟨bc, bs⟩, fcs⟩ := x
  obtain ⟨w1, w2, w3⟩ := w
  dsimp only at hx h12 h1 hnm hr hP hL d3 d4 hf0
  have HX := Lib.hid hx
  have HG := Lib.hid hg
  have HL := Lib.hid hL
  have HR := Lib.hid hr
  have HNM := Lib.hid hnm
  have HOP := Lib.hid hopen
  clear hx hg hL hr hnm hc hd hopen hap hf0
  go_enter Tryz.func8, Tryz.ntmps8
  go_wp2_with fail
  go_at_call 25
  refine Calls.mono (HR.out _ (by repeat (first | exact More.refl _ | refine More.alloc ?_ _ | refine More.more ?_ _ | refine More.drew ?_ | refine More.drewN ?_ _))) ?_
  rintro e w' ⟨rfl, r1, rfl⟩
  cases V with
  | false =>
    go_wp2_with fail
    go_returns
    exact ⟨.slice none 0 0, rfl, (by repeat (first | exact More.refl _ | refine More.alloc ?_ _ | refine More.more ?_ _ | refine More.drew ?_ | refine More.drewN ?_ _)), .inl ⟨rfl, rfl⟩, newV_none _⟩
  | true =>
    go_wp2_with (first | (first | (go_at_call 23; (with_reducible refine (point_c _ _).mono ?_); rintro e w' ⟨rfl, r, rfl⟩) | (go_at_call 26; (with_reducible refine (decIv_c _ _).mono ?_); rintro e w' ⟨rfl, r, rfl⟩) | (go_at_call 26; (with_reducible refine (decIv_c ⟨_, _⟩ _).mono ?_); rintro e w' ⟨rfl, r, rfl⟩)))
    rename_i rA rB K1 a1
    obtain ⟨R1, hR1⟩ : ∃ R, r1.plus rA = R := ⟨_, rfl⟩
    obtain ⟨R2, hR2⟩ : ∃ R, rB.plus r = R := ⟨_, rfl⟩
    rw [hR1, hR2]
    clear hR1 hR2
    have HP := Lib.hid hP
    have HOO := Lib.hid hO
    clear hO hP d3 d4
    go_loopw [34] (fun i wr => ∃ (k : Nat) (ao : Option Addr) (c : Nat) (pl ah : Iv), k ≤ fcs.length ∧ i = .int .i64 k ∧ (stP G ⟨w1, w2, w3⟩ ⟨bc, bs⟩ (fcs.take k)).place = pl ∧ (stP G ⟨w1, w2, w3⟩ ⟨bc, bs⟩ (fcs.take k)).ahead = ah ∧ ∃ s, wr = more (((more ((more (((W.alloc (.cells #[.string (bsOf nm), .int .i64 bc, .int .i64 bs, .slice (some ⟨lb, lo, none⟩) fcs.length lc] 28)).alloc (.cells #[.int .i64 w1, .int .i64 w2, .bool w3] 36)).alloc (.cells #[.slice none 0 0, .int .i64 0, .int .i64 0, .bool false] 38)) R1).alloc (.cells #[.slice ao k c, .int .i64 o1, .int .i64 o2, .bool o3] 38)) R2).alloc (.cells #[.int .i64 pl.lo, .int .i64 pl.hi, .bool pl.no] 36)).alloc (.cells #[.int .i64 ah.lo, .int .i64 ah.hi, .bool ah.no] 36)) s ∧ OwnS (W.heap.size + (3 + (R1.len + (1 + (R2.len + 2))))) s 48 23 (.slice ao k c) k (flatC cellsS (stP G ⟨w1, w2, w3⟩ ⟨bc, bs⟩ (fcs.take k)).rows)) (fun i _ => fcs.length - (intOf i).toNat)
    case atStart => exact ⟨0, none, 0, ⟨p1, p2, p3⟩, ⟨65536, 65536, false⟩, by omega, rfl, HP.out, hone, ⟨#[], _⟩, (more_self _).symm, OwnS.nil _ _ _ _⟩
    case round =>
      obtain ⟨k, ao, c, ⟨pl1, pl2, pl3⟩, ⟨ah1, ah2, ah3⟩, hk, rfl, hp, ha, s, rfl, hS⟩ := hrel
      dsimp only
      have HS := Lib.hid hS
      have HPL := Lib.hid hp
      have HAH := Lib.hid ha
      clear hS hp ha
      by_cases hkl : k < fcs.length
      · obtain ⟨f, hf⟩ : ∃ f, fcs[k]? = some f := ⟨fcs[k], List.getElem?_eq_getElem hkl⟩
        have hstep := stP_take G ⟨w1, w2, w3⟩ ⟨bc, bs⟩ hf
        have hlen := HNM.out f (List.mem_of_getElem? hf)
        have hload : ∀ s', (loadWhole 56 ⟨lb, lo + k * 14, none⟩).run Tryz.prog (more (((more ((more (((W.alloc (.cells #[.string (bsOf nm), .int .i64 bc, .int .i64 bs, .slice (some ⟨lb, lo, none⟩) fcs.length lc] 28)).alloc (.cells #[.int .i64 w1, .int .i64 w2, .bool w3] 36)).alloc (.cells #[.slice none 0 0, .int .i64 0, .int .i64 0, .bool false] 38)) R1).alloc (.cells #[.slice ao k c, .int .i64 o1, .int .i64 o2, .bool o3] 38)) R2).alloc (.cells #[.int .i64 pl1, .int .i64 pl2, .bool pl3] 36)).alloc (.cells #[.int .i64 ah1, .int .i64 ah2, .bool ah3] 36)) s') = .ok (fcV f) (more (((more ((more (((W.alloc (.cells #[.string (bsOf nm), .int .i64 bc, .int .i64 bs, .slice (some ⟨lb, lo, none⟩) fcs.length lc] 28)).alloc (.cells #[.int .i64 w1, .int .i64 w2, .bool w3] 36)).alloc (.cells #[.slice none 0 0, .int .i64 0, .int .i64 0, .bool false] 38)) R1).alloc (.cells #[.slice ao k c, .int .i64 o1, .int .i64 o2, .bool o3] 38)) R2).alloc (.cells #[.int .i64 pl1, .int .i64 pl2, .bool pl3] 36)).alloc (.cells #[.int .i64 ah1, .int .i64 ah2, .bool ah3] 36)) s') := by
          intro s'
          have hM : More W (more (((more ((more (((W.alloc (.cells #[.string (bsOf nm), .int .i64 bc, .int .i64 bs, .slice (some ⟨lb, lo, none⟩) fcs.length lc] 28)).alloc (.cells #[.int .i64 w1, .int .i64 w2, .bool w3] 36)).alloc (.cells #[.slice none 0 0, .int .i64 0, .int .i64 0, .bool false] 38)) R1).alloc (.cells #[.slice ao k c, .int .i64 o1, .int .i64 o2, .bool o3] 38)) R2).alloc (.cells #[.int .i64 pl1, .int .i64 pl2, .bool pl3] 36)).alloc (.cells #[.int .i64 ah1, .int .i64 ah2, .bool ah3] 36)) s') := (by repeat (first | exact More.refl _ | refine More.alloc ?_ _ | refine More.more ?_ _ | refine More.drew ?_ | refine More.drewN ?_ _))
          obtain ⟨r, hr⟩ := hM
          rw [hr]
          exact HL.out k f hf r
        have x3 : k + 1 ≤ maxLen := by simp only [maxLen]; omega
        have x4 : (k + 1) * 176 ≤ 140737488355328 := by omega
        have hlt : ((k : Nat) : Int) < ((fcs.length : Nat) : Int) := by omega
        have HF := Lib.hid hf
        have HSTEP := Lib.hid hstep
        clear hf hstep
        obtain ⟨fs, ⟨fr1, fr2⟩, ⟨fa1, fa2⟩, ⟨ft1, ft2⟩, ⟨fk1, fk2⟩, ⟨fp1, fp2⟩, ⟨fq1, fq2⟩, fg⟩ := f
        dsimp only at hlen
        have hbase : ∃ (zb : Bool) (zc zk za zq zo : Iv), sfBase ⟨fs, ⟨fr1, fr2⟩, ⟨fa1, fa2⟩, ⟨ft1, ft2⟩, ⟨fk1, fk2⟩, ⟨fp1, fp2⟩, ⟨fq1, fq2⟩, fg⟩ ⟨pl1, pl2, pl3⟩ = ⟨fs, zb, zc, zk, za, zq, ⟨pl1, pl2, pl3⟩, zo, ⟨65536, 65536, false⟩⟩ := by
          unfold sfBase oneI
          rw [hone]
          exact ⟨_, _, _, _, _, _, rfl⟩
        obtain ⟨zb, ⟨zc1, zc2, zc3⟩, ⟨zk1, zk2, zk3⟩, ⟨za1, za2, za3⟩, ⟨zq1, zq2, zq3⟩, ⟨zo1, zo2, zo3⟩, hz⟩ := hbase
        have HZ := Lib.hid hz
        clear hz
        obtain ⟨⟨th1, th2, th3⟩, hth⟩ : ∃ d, decIv ⟨ft1, ft2⟩ = d := ⟨_, rfl⟩
        obtain ⟨⟨nx1, nx2, nx3⟩, hnx⟩ : ∃ d, ivAdd ⟨pl1, pl2, pl3⟩ ⟨th1, th2, th3⟩ = d := ⟨_, rfl⟩
        cases fs with
        | true =>
          have hst : (stP G ⟨w1, w2, w3⟩ ⟨bc, bs⟩ (fcs.take (k + 1))) = ⟨⟨nx1, nx2, nx3⟩, ⟨ah1, ah2, ah3⟩, (stP G ⟨w1, w2, w3⟩ ⟨bc, bs⟩ (fcs.take k)).rows ++ [⟨true, zb, ⟨zc1, zc2, zc3⟩, ⟨zk1, zk2, zk3⟩, ⟨za1, za2, za3⟩, ⟨zq1, zq2, zq3⟩, ⟨pl1, pl2, pl3⟩, ⟨zo1, zo2, zo3⟩, ⟨65536, 65536, false⟩⟩]⟩ := by
            rw [HSTEP.out]
            unfold stepP sfP ratioP oneI
            rw [HPL.out, HAH.out, HZ.out]
            dsimp only
            rw [hth, hnx, if_pos rfl, if_pos rfl, hone]
          have HST := Lib.hid hst
          clear hst
          have HO := Lib.hid (show OwnW (((more ((more (((W.alloc (.cells #[.string (bsOf nm), .int .i64 bc, .int .i64 bs, .slice (some ⟨lb, lo, none⟩) fcs.length lc] 28)).alloc (.cells #[.int .i64 w1, .int .i64 w2, .bool w3] 36)).alloc (.cells #[.slice none 0 0, .int .i64 0, .int .i64 0, .bool false] 38)) R1).alloc (.cells #[.slice ao k c, .int .i64 o1, .int .i64 o2, .bool o3] 38)) R2).alloc (.cells #[.int .i64 pl1, .int .i64 pl2, .bool pl3] 36)).alloc (.cells #[.int .i64 ah1, .int .i64 ah2, .bool ah3] 36)) (more (((more ((more (((W.alloc (.cells #[.string (bsOf nm), .int .i64 bc, .int .i64 bs, .slice (some ⟨lb, lo, none⟩) fcs.length lc] 28)).alloc (.cells #[.int .i64 w1, .int .i64 w2, .bool w3] 36)).alloc (.cells #[.slice none 0 0, .int .i64 0, .int .i64 0, .bool false] 38)) R1).alloc (.cells #[.slice ao k c, .int .i64 o1, .int .i64 o2, .bool o3] 38)) R2).alloc (.cells #[.int .i64 pl1, .int .i64 pl2, .bool pl3] 36)).alloc (.cells #[.int .i64 ah1, .int .i64 ah2, .bool ah3] 36)) s) (W.heap.size + (3 + (R1.len + (1 + (R2.len + 2))))) 48 23 (.slice ao k c) k (flatC cellsS (stP G ⟨w1, w2, w3⟩ ⟨bc, bs⟩ (fcs.take k)).rows) from ⟨s, rfl, HS.out⟩)
          go_upto_region 14 with (first | (go_at_call 27; (refine Calls.mono (surface_c ⟨true, ⟨fr1, fr2⟩, ⟨fa1, fa2⟩, ⟨ft1, ft2⟩, ⟨fk1, fk2⟩, ⟨fp1, fp2⟩, ⟨fq1, fq2⟩, fg⟩ ⟨pl1, pl2, pl3⟩ _) ?_); rintro e w' ⟨rfl, r7, rfl⟩; rw [HZ.out]) | (at_builtin; refine wpList_append_keep (W2 := ((((more ((more (((W.alloc (.cells #[.string (bsOf nm), .int .i64 bc, .int .i64 bs, .slice (some ⟨lb, lo, none⟩) fcs.length lc] 28)).alloc (.cells #[.int .i64 w1, .int .i64 w2, .bool w3] 36)).alloc (.cells #[.slice none 0 0, .int .i64 0, .int .i64 0, .bool false] 38)) R1).alloc (.cells #[.slice ao k c, .int .i64 o1, .int .i64 o2, .bool o3] 38)) R2).alloc (.cells #[.int .i64 pl1, .int .i64 pl2, .bool pl3] 36)).alloc (.cells #[.int .i64 ah1, .int .i64 ah2, .bool ah3] 36)))) (more ((((more ((more (((W.alloc (.cells #[.string (bsOf nm), .int .i64 bc, .int .i64 bs, .slice (some ⟨lb, lo, none⟩) fcs.length lc] 28)).alloc (.cells #[.int .i64 w1, .int .i64 w2, .bool w3] 36)).alloc (.cells #[.slice none 0 0, .int .i64 0, .int .i64 0, .bool false] 38)) R1).alloc (.cells #[.slice ao k c, .int .i64 o1, .int .i64 o2, .bool o3] 38)) R2).alloc (.cells #[.int .i64 pl1, .int .i64 pl2, .bool pl3] 36)).alloc (.cells #[.int .i64 ah1, .int .i64 ah2, .bool ah3] 36))) s) (W.heap.size + (3 + (R1.len + (1 + (R2.len + (2 + s.len)))))) (.cells #[.bool true, .int .i64 fr1, .int .i64 fr2, .int .i64 fa1, .int .i64 fa2, .int .i64 ft1, .int .i64 ft2, .int .i64 fk1, .int .i64 fk2, .int .i64 fp1, .int .i64 fp2, .int .i64 fq1, .int .i64 fq2, .string (bsOf fg)] 56) rfl (.tmp 55) (.tmp 57) 34 rfl 48 j0 _ 23 176 und_ss hi hz0 hz1 hz2 rfl (by decide) (.slice ao k c) k (flatC cellsS (stP G ⟨w1, w2, w3⟩ ⟨bc, bs⟩ (fcs.take k)).rows) (W.heap.size + (3 + (R1.len + (1 + (R2.len + 2))))) (by simp [Nat.add_assoc]) (by rfl) HO.out (by repeat (first | exact More.refl _ | refine More.alloc ?_ _ | refine More.more ?_ _ | refine More.drew ?_ | refine More.drewN ?_ _)) (by simp [Nat.add_assoc]) (by rw [show (W.heap.size + (3 + (R1.len + (1 + (R2.len + (2 + s.len)))))) = (more ((((more ((more (((W.alloc (.cells #[.string (bsOf nm), .int .i64 bc, .int .i64 bs, .slice (some ⟨lb, lo, none⟩) fcs.length lc] 28)).alloc (.cells #[.int .i64 w1, .int .i64 w2, .bool w3] 36)).alloc (.cells #[.slice none 0 0, .int .i64 0, .int .i64 0, .bool false] 38)) R1).alloc (.cells #[.slice ao k c, .int .i64 o1, .int .i64 o2, .bool o3] 38)) R2).alloc (.cells #[.int .i64 pl1, .int .i64 pl2, .bool pl3] 36)).alloc (.cells #[.int .i64 ah1, .int .i64 ah2, .bool ah3] 36))) s).heap.size from by simp [Nat.add_assoc]]; exact obj_under (by repeat (first | exact More.refl _ | refine More.alloc ?_ _ | refine More.more ?_ _ | refine More.drew ?_ | refine More.drewN ?_ _))) (cellsS ⟨true, zb, ⟨zc1, zc2, zc3⟩, ⟨zk1, zk2, zk3⟩, ⟨za1, za2, za3⟩, ⟨zq1, zq2, zq3⟩, ⟨pl1, pl2, pl3⟩, ⟨zo1, zo2, zo3⟩, ⟨65536, 65536, false⟩⟩) 1 _ rfl (by simp [Nat.add_assoc]) rfl (cellsS_one _) x3 x4 ?_; rintro v2 w2 ⟨s2, rfl, hS2⟩ hkp; obtain ⟨ao2, c2, rfl⟩ := ownSS_form hS2 ((((more ((more (((W.alloc (.cells #[.string (bsOf nm), .int .i64 bc, .int .i64 bs, .slice (some ⟨lb, lo, none⟩) fcs.length lc] 28)).alloc (.cells #[.int .i64 w1, .int .i64 w2, .bool w3] 36)).alloc (.cells #[.slice none 0 0, .int .i64 0, .int .i64 0, .bool false] 38)) R1).alloc (.cells #[.slice ao k c, .int .i64 o1, .int .i64 o2, .bool o3] 38)) R2).alloc (.cells #[.int .i64 pl1, .int .i64 pl2, .bool pl3] 36)).alloc (.cells #[.int .i64 ah1, .int .i64 ah2, .bool ah3] 36))) (by simp [Nat.add_assoc]); have HS2 := Lib.hid hS2; obtain ⟨q5, q5'⟩ := cell_swap (B := (((more ((more (((W.alloc (.cells #[.string (bsOf nm), .int .i64 bc, .int .i64 bs, .slice (some ⟨lb, lo, none⟩) fcs.length lc] 28)).alloc (.cells #[.int .i64 w1, .int .i64 w2, .bool w3] 36)).alloc (.cells #[.slice none 0 0, .int .i64 0, .int .i64 0, .bool false] 38)) R1).alloc (.cells #[.slice ao2 (k + 1) c2, .int .i64 o1, .int .i64 o2, .bool o3] 38)) R2).alloc (.cells #[.int .i64 pl1, .int .i64 pl2, .bool pl3] 36)).alloc (.cells #[.int .i64 ah1, .int .i64 ah2, .bool ah3] 36))) (j := 5) (u := .int .i64 ft1) (by simp) (by simp; omega) hkp rfl; obtain ⟨q6, q6'⟩ := cell_swap (B := (((more ((more (((W.alloc (.cells #[.string (bsOf nm), .int .i64 bc, .int .i64 bs, .slice (some ⟨lb, lo, none⟩) fcs.length lc] 28)).alloc (.cells #[.int .i64 w1, .int .i64 w2, .bool w3] 36)).alloc (.cells #[.slice none 0 0, .int .i64 0, .int .i64 0, .bool false] 38)) R1).alloc (.cells #[.slice ao2 (k + 1) c2, .int .i64 o1, .int .i64 o2, .bool o3] 38)) R2).alloc (.cells #[.int .i64 pl1, .int .i64 pl2, .bool pl3] 36)).alloc (.cells #[.int .i64 ah1, .int .i64 ah2, .bool ah3] 36))) (j := 6) (u := .int .i64 ft2) (by simp) (by simp; omega) hkp rfl; clear hS2 hkp) | fail)
          go_region_law (first | (go_simp; go_at_call 26; (refine Calls.mono (decIv_c ⟨ft1, ft2⟩ _) ?_); rintro en w' ⟨rfl, r, rfl⟩; rw [hth]) | (go_simp; go_at_call 29; (refine Calls.mono (add_c ⟨pl1, pl2, pl3⟩ ⟨th1, th2, th3⟩ _) ?_); rintro en w' ⟨rfl, r, rfl⟩; rw [hnx]))
          all_goals
            go_wp2_with fail
            go_roundw
            case rel => exact ⟨k + 1, ao2, c2, ⟨nx1, nx2, nx3⟩, ⟨ah1, ah2, ah3⟩, by omega, rfl, by rw [HST.out], by rw [HST.out], _, rfl, by rw [HST.out, flatC_snoc]; repeat (first | exact HS2.out | with_reducible apply OwnS.draw | with_reducible apply OwnS.plus)⟩
            case measure => simp [intOf] <;> omega
        | false =>
          obtain ⟨⟨ix1, ix2, ix3⟩, hix⟩ : ∃ d, faceIx G ⟨w1, w2, w3⟩ fg = d := ⟨_, rfl⟩
          obtain ⟨⟨dv1, dv2, dv3⟩, hdv⟩ : ∃ d, ivDiv ⟨ah1, ah2, ah3⟩ ⟨ix1, ix2, ix3⟩ = d := ⟨_, rfl⟩
          have hst : (stP G ⟨w1, w2, w3⟩ ⟨bc, bs⟩ (fcs.take (k + 1))) = ⟨⟨nx1, nx2, nx3⟩, ⟨ix1, ix2, ix3⟩, (stP G ⟨w1, w2, w3⟩ ⟨bc, bs⟩ (fcs.take k)).rows ++ [⟨false, zb, ⟨zc1, zc2, zc3⟩, ⟨zk1, zk2, zk3⟩, ⟨za1, za2, za3⟩, ⟨zq1, zq2, zq3⟩, ⟨pl1, pl2, pl3⟩, ⟨zo1, zo2, zo3⟩, ⟨dv1, dv2, dv3⟩⟩]⟩ := by
            rw [HSTEP.out]
            unfold stepP sfP ratioP oneI
            rw [HPL.out, HAH.out, HZ.out]
            dsimp only
            rw [hth, hnx, if_neg (by simp), if_neg (by simp), hix, hdv]
          have HST := Lib.hid hst
          clear hst
          have HO := Lib.hid (show OwnW (((more ((more (((W.alloc (.cells #[.string (bsOf nm), .int .i64 bc, .int .i64 bs, .slice (some ⟨lb, lo, none⟩) fcs.length lc] 28)).alloc (.cells #[.int .i64 w1, .int .i64 w2, .bool w3] 36)).alloc (.cells #[.slice none 0 0, .int .i64 0, .int .i64 0, .bool false] 38)) R1).alloc (.cells #[.slice ao k c, .int .i64 o1, .int .i64 o2, .bool o3] 38)) R2).alloc (.cells #[.int .i64 pl1, .int .i64 pl2, .bool pl3] 36)).alloc (.cells #[.int .i64 ix1, .int .i64 ix2, .bool ix3] 36)) (more (((more ((more (((W.alloc (.cells #[.string (bsOf nm), .int .i64 bc, .int .i64 bs, .slice (some ⟨lb, lo, none⟩) fcs.length lc] 28)).alloc (.cells #[.int .i64 w1, .int .i64 w2, .bool w3] 36)).alloc (.cells #[.slice none 0 0, .int .i64 0, .int .i64 0, .bool false] 38)) R1).alloc (.cells #[.slice ao k c, .int .i64 o1, .int .i64 o2, .bool o3] 38)) R2).alloc (.cells #[.int .i64 pl1, .int .i64 pl2, .bool pl3] 36)).alloc (.cells #[.int .i64 ix1, .int .i64 ix2, .bool ix3] 36)) s) (W.heap.size + (3 + (R1.len + (1 + (R2.len + 2))))) 48 23 (.slice ao k c) k (flatC cellsS (stP G ⟨w1, w2, w3⟩ ⟨bc, bs⟩ (fcs.take k)).rows) from ⟨s, rfl, HS.out⟩)
          go_upto_region 14 with (first | (go_at_call 27; (refine Calls.mono (surface_c ⟨false, ⟨fr1, fr2⟩, ⟨fa1, fa2⟩, ⟨ft1, ft2⟩, ⟨fk1, fk2⟩, ⟨fp1, fp2⟩, ⟨fq1, fq2⟩, fg⟩ ⟨pl1, pl2, pl3⟩ _) ?_); rintro e w' ⟨rfl, r7, rfl⟩; rw [HZ.out]) | (go_at_call 28; (refine Calls.mono (sindex_c fg g G ⟨w1, w2, w3⟩ _ (HG.out.up (by repeat (first | exact More.refl _ | refine More.alloc ?_ _ | refine More.more ?_ _ | refine More.drew ?_ | refine More.drewN ?_ _))) (by omega) hlen) ?_); rintro e w' ⟨rfl, r8, rfl⟩) | (at_builtin; refine wpList_append_keep (W2 := ((((more ((more (((W.alloc (.cells #[.string (bsOf nm), .int .i64 bc, .int .i64 bs, .slice (some ⟨lb, lo, none⟩) fcs.length lc] 28)).alloc (.cells #[.int .i64 w1, .int .i64 w2, .bool w3] 36)).alloc (.cells #[.slice none 0 0, .int .i64 0, .int .i64 0, .bool false] 38)) R1).alloc (.cells #[.slice ao k c, .int .i64 o1, .int .i64 o2, .bool o3] 38)) R2).alloc (.cells #[.int .i64 pl1, .int .i64 pl2, .bool pl3] 36)).alloc (.cells #[.int .i64 ix1, .int .i64 ix2, .bool ix3] 36)))) (more ((((more ((more (((W.alloc (.cells #[.string (bsOf nm), .int .i64 bc, .int .i64 bs, .slice (some ⟨lb, lo, none⟩) fcs.length lc] 28)).alloc (.cells #[.int .i64 w1, .int .i64 w2, .bool w3] 36)).alloc (.cells #[.slice none 0 0, .int .i64 0, .int .i64 0, .bool false] 38)) R1).alloc (.cells #[.slice ao k c, .int .i64 o1, .int .i64 o2, .bool o3] 38)) R2).alloc (.cells #[.int .i64 pl1, .int .i64 pl2, .bool pl3] 36)).alloc (.cells #[.int .i64 ix1, .int .i64 ix2, .bool ix3] 36))) s) (W.heap.size + (3 + (R1.len + (1 + (R2.len + (2 + s.len)))))) (.cells #[.bool false, .int .i64 fr1, .int .i64 fr2, .int .i64 fa1, .int .i64 fa2, .int .i64 ft1, .int .i64 ft2, .int .i64 fk1, .int .i64 fk2, .int .i64 fp1, .int .i64 fp2, .int .i64 fq1, .int .i64 fq2, .string (bsOf fg)] 56) rfl (.tmp 55) (.tmp 57) 34 rfl 48 j0 _ 23 176 und_ss hi hz0 hz1 hz2 rfl (by decide) (.slice ao k c) k (flatC cellsS (stP G ⟨w1, w2, w3⟩ ⟨bc, bs⟩ (fcs.take k)).rows) (W.heap.size + (3 + (R1.len + (1 + (R2.len + 2))))) (by simp [Nat.add_assoc]) (by rfl) HO.out (by repeat (first | exact More.refl _ | refine More.alloc ?_ _ | refine More.more ?_ _ | refine More.drew ?_ | refine More.drewN ?_ _)) (by simp [Nat.add_assoc]) (by rw [show (W.heap.size + (3 + (R1.len + (1 + (R2.len + (2 + s.len)))))) = (more ((((more ((more (((W.alloc (.cells #[.string (bsOf nm), .int .i64 bc, .int .i64 bs, .slice (some ⟨lb, lo, none⟩) fcs.length lc] 28)).alloc (.cells #[.int .i64 w1, .int .i64 w2, .bool w3] 36)).alloc (.cells #[.slice none 0 0, .int .i64 0, .int .i64 0, .bool false] 38)) R1).alloc (.cells #[.slice ao k c, .int .i64 o1, .int .i64 o2, .bool o3] 38)) R2).alloc (.cells #[.int .i64 pl1, .int .i64 pl2, .bool pl3] 36)).alloc (.cells #[.int .i64 ix1, .int .i64 ix2, .bool ix3] 36))) s).heap.size from by simp [Nat.add_assoc]]; exact obj_under (by repeat (first | exact More.refl _ | refine More.alloc ?_ _ | refine More.more ?_ _ | refine More.drew ?_ | refine More.drewN ?_ _))) (cellsS ⟨false, zb, ⟨zc1, zc2, zc3⟩, ⟨zk1, zk2, zk3⟩, ⟨za1, za2, za3⟩, ⟨zq1, zq2, zq3⟩, ⟨pl1, pl2, pl3⟩, ⟨zo1, zo2, zo3⟩, ⟨dv1, dv2, dv3⟩⟩) 1 _ rfl (by simp [Nat.add_assoc]) rfl (cellsS_one _) x3 x4 ?_; rintro v2 w2 ⟨s2, rfl, hS2⟩ hkp; obtain ⟨ao2, c2, rfl⟩ := ownSS_form hS2 ((((more ((more (((W.alloc (.cells #[.string (bsOf nm), .int .i64 bc, .int .i64 bs, .slice (some ⟨lb, lo, none⟩) fcs.length lc] 28)).alloc (.cells #[.int .i64 w1, .int .i64 w2, .bool w3] 36)).alloc (.cells #[.slice none 0 0, .int .i64 0, .int .i64 0, .bool false] 38)) R1).alloc (.cells #[.slice ao k c, .int .i64 o1, .int .i64 o2, .bool o3] 38)) R2).alloc (.cells #[.int .i64 pl1, .int .i64 pl2, .bool pl3] 36)).alloc (.cells #[.int .i64 ix1, .int .i64 ix2, .bool ix3] 36))) (by simp [Nat.add_assoc]); have HS2 := Lib.hid hS2; obtain ⟨q5, q5'⟩ := cell_swap (B := (((more ((more (((W.alloc (.cells #[.string (bsOf nm), .int .i64 bc, .int .i64 bs, .slice (some ⟨lb, lo, none⟩) fcs.length lc] 28)).alloc (.cells #[.int .i64 w1, .int .i64 w2, .bool w3] 36)).alloc (.cells #[.slice none 0 0, .int .i64 0, .int .i64 0, .bool false] 38)) R1).alloc (.cells #[.slice ao2 (k + 1) c2, .int .i64 o1, .int .i64 o2, .bool o3] 38)) R2).alloc (.cells #[.int .i64 pl1, .int .i64 pl2, .bool pl3] 36)).alloc (.cells #[.int .i64 ix1, .int .i64 ix2, .bool ix3] 36))) (j := 5) (u := .int .i64 ft1) (by simp) (by simp; omega) hkp rfl; obtain ⟨q6, q6'⟩ := cell_swap (B := (((more ((more (((W.alloc (.cells #[.string (bsOf nm), .int .i64 bc, .int .i64 bs, .slice (some ⟨lb, lo, none⟩) fcs.length lc] 28)).alloc (.cells #[.int .i64 w1, .int .i64 w2, .bool w3] 36)).alloc (.cells #[.slice none 0 0, .int .i64 0, .int .i64 0, .bool false] 38)) R1).alloc (.cells #[.slice ao2 (k + 1) c2, .int .i64 o1, .int .i64 o2, .bool o3] 38)) R2).alloc (.cells #[.int .i64 pl1, .int .i64 pl2, .bool pl3] 36)).alloc (.cells #[.int .i64 ix1, .int .i64 ix2, .bool ix3] 36))) (j := 6) (u := .int .i64 ft2) (by simp) (by simp; omega) hkp rfl; clear hS2 hkp) | (first | (go_at_call 12; (with_reducible refine (idiv_c _ _ _).mono ?_); rintro e w' ⟨rfl, r, rfl⟩) | (go_at_call 12; (with_reducible refine (idiv_c _ ⟨_, _, _⟩ _).mono ?_); rintro e w' ⟨rfl, r, rfl⟩) | (go_at_call 12; (with_reducible refine (idiv_c ⟨_, _, _⟩ _ _).mono ?_); rintro e w' ⟨rfl, r, rfl⟩) | (go_at_call 12; (with_reducible refine (idiv_c ⟨_, _, _⟩ ⟨_, _, _⟩ _).mono ?_); rintro e w' ⟨rfl, r, rfl⟩)))
          go_region_law (first | (go_simp; go_at_call 26; (refine Calls.mono (decIv_c ⟨ft1, ft2⟩ _) ?_); rintro en w' ⟨rfl, r, rfl⟩; rw [hth]) | (go_simp; go_at_call 29; (refine Calls.mono (add_c ⟨pl1, pl2, pl3⟩ ⟨th1, th2, th3⟩ _) ?_); rintro en w' ⟨rfl, r, rfl⟩; rw [hnx]))
          all_goals
            go_wp2_with fail
            go_roundw
            case rel => exact ⟨k + 1, ao2, c2, ⟨nx1, nx2, nx3⟩, ⟨ix1, ix2, ix3⟩, by omega, rfl, by rw [HST.out], by rw [HST.out], _, rfl, by rw [HST.out, flatC_snoc]; repeat (first | exact HS2.out | with_reducible apply OwnS.draw | with_reducible apply OwnS.plus)⟩
            case measure => simp [intOf] <;> omega
      · obtain rfl : k = fcs.length := by omega
        rw [List.take_length] at HS HPL HAH
        have hlen : (stP G ⟨w1, w2, w3⟩ ⟨bc, bs⟩ fcs).rows.length = fcs.length := stP_len _ _ _ _
        obtain ⟨L, hLr⟩ : ∃ L, (stP G ⟨w1, w2, w3⟩ ⟨bc, bs⟩ fcs).rows = L := ⟨_, rfl⟩
        rw [hLr] at HS hlen
        have hcan : ∀ s ∈ L, CanS s := by rw [← hLr]; exact can_rows _ _ _ _
        have hcano : Can ⟨o1, o2, o3⟩ := by rw [← HOO.out]; exact can_dec _
        have hrow : ∀ (w' : World) (s' : Rest), w'.heap.size = (W.heap.size + (3 + (R1.len + (1 + (R2.len + 2))))) → Sfs (more w' (s.plus s')) (.slice ao fcs.length c) L := fun w' s' h => GRow.of_owns cellsS_len (by decide) (HS.out.plus _ h)
        have hrow0 : ∀ (w' : World), w'.heap.size = (W.heap.size + (3 + (R1.len + (1 + (R2.len + 2))))) → Sfs (more w' s) (.slice ao fcs.length c) L := fun w' h => GRow.of_owns cellsS_len (by decide) (HS.out _ h)
        have hbq : bq true ⟨nm, ⟨bc, bs⟩, fcs⟩ G ⟨w1, w2, w3⟩ = if rowsRight L ⟨o1, o2, o3⟩ = true then (⟨L, ⟨o1, o2, o3⟩⟩, 0) else (noSy, 6) := by
          unfold bq allSy
          rw [if_pos rfl, HOP.out]
          dsimp only
          rw [hLr]
        have HROW := Lib.hid hrow
        have HROW0 := Lib.hid hrow0
        have HCAN := Lib.hid hcan
        have HCANO := Lib.hid hcano
        clear hrow hrow0 hcan hcano hLr
        have HBQ := Lib.hid hbq
        clear hbq
        cases hv : rowsRight L ⟨o1, o2, o3⟩ with
        | true =>
          have HV := Lib.hid hv
          clear hv
          go_wp2_with (first | (go_at_call 30; (refine Calls.mono (lacks_c _ L ⟨o1, o2, o3⟩ _ (HROW0.out _ (by simp [Nat.add_assoc])) (by omega) HCAN.out HCANO.out) ?_); rintro e w' ⟨rfl, r9, rfl⟩; rw [HV.out]))
          go_returns
          have hb := HBQ.out
          rw [if_pos HV.out] at hb
          rw [hb]
          exact ⟨_, rfl, (by repeat (first | exact More.refl _ | refine More.alloc ?_ _ | refine More.more ?_ _ | refine More.drew ?_ | refine More.drewN ?_ _)), HROW.out _ _ (by simp [Nat.add_assoc]), ownSS_new HS.out (((more ((more (((W.alloc (.cells #[.string (bsOf nm), .int .i64 bc, .int .i64 bs, .slice (some ⟨lb, lo, none⟩) fcs.length lc] 28)).alloc (.cells #[.int .i64 w1, .int .i64 w2, .bool w3] 36)).alloc (.cells #[.slice none 0 0, .int .i64 0, .int .i64 0, .bool false] 38)) R1).alloc (.cells #[.slice ao fcs.length c, .int .i64 o1, .int .i64 o2, .bool o3] 38)) R2).alloc (.cells #[.int .i64 p1, .int .i64 p2, .bool p3] 36)).alloc (.cells #[.int .i64 p1, .int .i64 p2, .bool p3] 36)) W (by simp [Nat.add_assoc]) (by omega)⟩
        | false =>
          have HV := Lib.hid hv
          clear hv
          go_wp2_with (first | (go_at_call 30; (refine Calls.mono (lacks_c _ L ⟨o1, o2, o3⟩ _ (HROW0.out _ (by simp [Nat.add_assoc])) (by omega) HCAN.out HCANO.out) ?_); rintro e w' ⟨rfl, r9, rfl⟩; rw [HV.out]))
          go_returns
          have hb := HBQ.out
          rw [if_neg (by rw [HV.out]; simp)] at hb
          rw [hb]
          exact ⟨_, rfl, (by repeat (first | exact More.refl _ | refine More.alloc ?_ _ | refine More.more ?_ _ | refine More.drew ?_ | refine More.drewN ?_ _)), .inl ⟨rfl, rfl⟩, newV_none _⟩
end Go.Proofs.YtekhhekkepijoaaGreatDoor

