/-
  The lens that is handed in: of raw faces.
-/
import Derived.Test.YtekhhekkepijoaaGreatDoorGl
import Derived.Test.YtekhhekkepijoaaGreatDoorGlassHd
import Derived.Test.YtekhhekkepijoaaGreatDoorGc
import Derived.Test.YtekhhekkepijoaaGreatDoorGlass
import Derived.Test.YtekhhekkepijoaaGreatDoorGa
import Derived.Test.YtekhhekkepijoaaGreatDoorLensLn
import Derived.Deep.RegionLaw
import Derived.Deep.Cut
import Derived.Deep.CutRange
import Derived.Deep.CutBlock
namespace Go.Proofs.YtekhhekkepijoaaGreatDoor
set_option linter.unusedVariables false
open Go.ChangeShapes Go.WideShapes Go.ChangeAt Go.RowKit

theorem ownS_form {base n m : Nat} {s : Rest} {e : TypeId} {v : Value} {xs : List Value} (h : OwnS base s e m v n xs) (w : World) (hw : w.heap.size = base) : ∃ ao c, v = .slice ao n c := by
  obtain ⟨-, h⟩ := h w hw
  rcases h with ⟨rfl, rfl⟩ | ⟨g, cap, cur, rfl, -⟩
  · exact ⟨_, _, rfl⟩
  · exact ⟨_, _, rfl⟩
theorem rows_next {base m : Nat} {s : Rest} {e : TypeId} {v : Value} {G : List Gl} {l : List RawF} {k : Nat} {f : RawF} {F : Fc} (hf : l[k]? = some f) (hF : handF G k f = F) (h : OwnS base s e m v (k + 1) (flatC cellsF (handFs G l k) ++ cellsF F)) : OwnS base s e m v (k + 1) (flatC cellsF (handFs G l (k + 1))) := by
  rw [handFs_succ, flatC_snoc]
  have e : l.getD k R0 = f := by rw [List.getD_eq_getElem?_getD, hf]; rfl
  rw [e, hF]
  exact h

theorem hdec40 (W : World) : Calls Tryz.prog 18 #[.int .i64 40, .int .i64 0] W fun e w' => e = .returned (.agg #[.int .i64 40, .int .i64 0]) ∧ More W w' := hdec_c 40 0 (by decide) (by decide) (by decide) (by decide) W
theorem hdec8 (W : World) : Calls Tryz.prog 18 #[.int .i64 8, .int .i64 0] W fun e w' => e = .returned (.agg #[.int .i64 8, .int .i64 0]) ∧ More W w' := hdec_c 8 0 (by decide) (by decide) (by decide) (by decide) W
theorem hdec3 (W : World) : Calls Tryz.prog 18 #[.int .i64 3, .int .i64 0] W fun e w' => e = .returned (.agg #[.int .i64 3, .int .i64 0]) ∧ More W w' := hdec_c 3 0 (by decide) (by decide) (by decide) (by decide) W

set_option maxHeartbeats 16000000 in
set_option maxRecDepth 100000 in
theorem lens_c (back : Int) (s0 g : Value) (l : List RawF) (G : List Gl) (most : Nat) (W : World) (b0 : -9223372036854775808 ≤ back) (b1 : back ≤ 9223372036854775807) (i0 : Raws W s0 l) (k0 : ∀ f ∈ l, OkRaw f) (m0 : l.length ≤ 9223372036854775807) (hg : Gls W g G) (hG : G.length ≤ 1000) (hm : most ≤ 12) :
    Calls Tryz.prog 16 #[.int .i64 back, s0, g, .int .i64 most] W fun e w' => ∃ v', e = .returned (.agg #[.string (bsOf (handLn back l G most).name), .int .i64 (handLn back l G most).back.c, .int .i64 (handLn back l G most).back.s, v']) ∧ More W w' ∧ Fcs w' v' (handFaces G l most) := by
  obtain ⟨a0, c0, rfl, h0⟩ := raws_form i0
  obtain ⟨ga, gc, rfl, g0⟩ := grow_form gls_pos hg
  obtain ⟨j0, hi, hz0, hz1, hz2⟩ := info_parts info_fs
  obtain ⟨q0, q1⟩ := mod_bd back (show (0 : Int) < 100 by omega)
  obtain ⟨q2, q3⟩ := mod_bd back (show (0 : Int) < 600 by omega)
  have v1 : (Lib.decDigits (back % 100).toNat).length ≤ 2 := dig_len 1 _ (by omega)
  have v3 : ¬ 9223372036854775807 < 1 + (Lib.decDigits (back % 100).toNat).length := by omega
  go_enter Tryz.func16, Tryz.ntmps16
  go_wp2_with (first | (go_at_call 18; (with_reducible refine (hdec_c _ _ (by omega) (by omega) (by omega) (by omega) _).mono ?_); rintro e w' ⟨rfl, r, rfl⟩) | (go_at_call 19; (with_reducible refine (digits8_c _ (by omega) (by omega) _).mono ?_); rintro e w' ⟨rfl, r, rfl⟩) | (go_at_call 20; (with_reducible refine (pick_c _ _ (by omega) (by omega) (by omega) (by omega) _).mono ?_); rintro e w' ⟨rfl, rfl⟩) | ((with_reducible show Code.wp _ (Code.region 6 _ true) _ _ _); (with_reducible apply wp_more_heap_m (id := 6) 11 10 12); kernel_rfl; kernel_rfl; rfl; decide; rfl; (intro _ _; go_simp; rfl); intro x; (try simp only [List.append_eq, List.cons_append, List.nil_append]); (simp only [List.take_succ_cons, List.take_zero, List.drop_succ_cons, List.drop_zero, skipAt, Nat.reduceAdd, Nat.reduceEqDiff, reduceIte, Nat.zero_add]); (repeat (any_goals (first | go_big_quiet_step ((first | (go_at_call 18; (with_reducible apply quiet_up); with_reducible exact hdec_c _ _ (by omega) (by omega) (by omega) (by omega) _) | (go_at_call 20; (with_reducible apply quiet_up_same); with_reducible exact pick_c _ _ (by omega) (by omega) (by omega) (by omega) _))) | quiet_step ((first | (go_at_call 18; (with_reducible apply quiet_up); with_reducible exact hdec_c _ _ (by omega) (by omega) (by omega) (by omega) _) | (go_at_call 20; (with_reducible apply quiet_up_same); with_reducible exact pick_c _ _ (by omega) (by omega) (by omega) (by omega) _)))))); (with_reducible refine wpQuiet_nil ?_); intro r1 r2) | ((with_reducible show Code.wp _ (Code.region 6 _ true) _ _ _); (with_reducible apply wp_more_heap (id := 6) 11 10 12); kernel_rfl; kernel_rfl; rfl; decide; rfl; (intro _ _; go_simp; rfl); intro x; (try simp only [List.append_eq, List.cons_append, List.nil_append]); (simp only [List.take_succ_cons, List.take_zero, List.drop_succ_cons, List.drop_zero, skipAt, Nat.reduceAdd, Nat.reduceEqDiff, reduceIte, Nat.zero_add]); (repeat (any_goals (first | go_big_quiet_step ((first | (go_at_call 18; (with_reducible apply quiet_up); with_reducible exact hdec_c _ _ (by omega) (by omega) (by omega) (by omega) _) | (go_at_call 20; (with_reducible apply quiet_up_same); with_reducible exact pick_c _ _ (by omega) (by omega) (by omega) (by omega) _))) | quiet_step ((first | (go_at_call 18; (with_reducible apply quiet_up); with_reducible exact hdec_c _ _ (by omega) (by omega) (by omega) (by omega) _) | (go_at_call 20; (with_reducible apply quiet_up_same); with_reducible exact pick_c _ _ (by omega) (by omega) (by omega) (by omega) _)))))); (with_reducible refine wpQuiet_nil ?_); intro r1 r2) | ((with_reducible show Code.wp _ (Code.region 28 _ true) _ _ _); (with_reducible refine wp_more_tailq_m (id := 28) 9 ?_ ?_ ?_); kernel_rfl; kernel_rfl; (try simp only [List.take_succ_cons, List.take_zero, List.drop_succ_cons, List.drop_zero]); (repeat (any_goals (first | go_big_quiet_step ((first | (go_at_call 18; (with_reducible apply quiet_call); with_reducible exact hdec_c _ _ (by omega) (by omega) (by omega) (by omega) _))) | quiet_step ((first | (go_at_call 18; (with_reducible apply quiet_call); with_reducible exact hdec_c _ _ (by omega) (by omega) (by omega) (by omega) _)))))); (with_reducible refine wpQuiet_nil ?_); intro r) | ((with_reducible show Code.wp _ (Code.region 28 _ true) _ _ _); (with_reducible refine wp_more_tailq (id := 28) 9 ?_ ?_ ?_); kernel_rfl; kernel_rfl; (try simp only [List.take_succ_cons, List.take_zero, List.drop_succ_cons, List.drop_zero]); (repeat (any_goals (first | go_big_quiet_step ((first | (go_at_call 18; (with_reducible apply quiet_call); with_reducible exact hdec_c _ _ (by omega) (by omega) (by omega) (by omega) _))) | quiet_step ((first | (go_at_call 18; (with_reducible apply quiet_call); with_reducible exact hdec_c _ _ (by omega) (by omega) (by omega) (by omega) _)))))); (with_reducible refine wpQuiet_nil ?_); intro r))
  rename_i rA K1 a1
  obtain ⟨R, hR⟩ : ∃ R, rA.plus r = R := ⟨_, rfl⟩
  obtain ⟨nm, hnm⟩ : ∃ nm, 120 :: Lib.decDigits (back % 100).toNat = nm := ⟨_, rfl⟩
  obtain ⟨D, hD⟩ : ∃ D, decH (200 + back % 600) 1 = D := ⟨_, rfl⟩
  rw [hR, hnm, hD]
  have HR := Lib.hid hR
  have HN := Lib.hid hnm
  have HD := Lib.hid hD
  clear hR hnm hD v1 v3
  go_loopw [10] (fun x wr => ∃ (k : Nat) (ao : Option Addr) (c : Nat), k ≤ l.length ∧ k ≤ most ∧ x = .int .i64 k ∧ OwnW ((more (W.alloc (.cells #[.string ⟨#[]⟩, .int .i64 0, .int .i64 0, .slice none 0 0] 28)) R).alloc (.cells #[.string (bsOf nm), .int .i64 D.c, .int .i64 D.s, .slice ao k c] 28)) wr (W.heap.size + (1 + R.len) + 1) 56 14 (.slice ao k c) k (flatC cellsF (handFs G l k))) (fun x _ => most - (intOf x).toNat)
  case atStart => exact ⟨0, none, 0, by omega, by omega, rfl, ⟨⟨#[], _⟩, (more_self _).symm, OwnS.nil _ _ _ _⟩⟩
  case round =>
    obtain ⟨k, ao, c, hk1, hk2, rfl, s, rfl, hS⟩ := hrel
    have HS := Lib.hid hS
    have HO := Lib.hid (show OwnW ((more (W.alloc (.cells #[.string ⟨#[]⟩, .int .i64 0, .int .i64 0, .slice none 0 0] 28)) R).alloc (.cells #[.string (bsOf nm), .int .i64 D.c, .int .i64 D.s, .slice ao k c] 28)) (more ((more (W.alloc (.cells #[.string ⟨#[]⟩, .int .i64 0, .int .i64 0, .slice none 0 0] 28)) R).alloc (.cells #[.string (bsOf nm), .int .i64 D.c, .int .i64 D.s, .slice ao k c] 28)) s) (W.heap.size + (1 + R.len) + 1) 56 14 (.slice ao k c) k (flatC cellsF (handFs G l k)) from ⟨s, rfl, hS⟩)
    have x3 : (k + 1 ≤ maxLen) ∧ (k + 1) * 120 ≤ 140737488355328 := by simp only [maxLen]; omega
    obtain ⟨x3, x4⟩ := x3
    have HI := Lib.hid i0
    have HG := Lib.hid hg
    have HQ := Lib.hid g0
    have HC := Lib.hid h0
    clear hS i0 hg g0 h0
    by_cases hk : k < l.length ∧ k < most
    · obtain ⟨hk3, hk4⟩ := hk
      obtain ⟨b, o, rfl, hb, hc⟩ := HC.out (by omega)
      obtain ⟨f, hf⟩ : ∃ f, l[k]? = some f := ⟨l[k], List.getElem?_eq_getElem hk3⟩
      have f0 := hc k f hf 0 _ rfl
      have f1 := hc k f hf 1 _ rfl
      have f2 := hc k f hf 2 _ rfl
      have f3 := hc k f hf 3 _ rfl
      have f4 := hc k f hf 4 _ rfl
      have f5 := hc k f hf 5 _ rfl
      simp only [Nat.add_zero] at f0
      obtain ⟨u0, u1, u2, u3, u4, u5⟩ := k0 f (List.mem_of_getElem? hf)
      have HF := Lib.hid hf
      have HK := Lib.hid hc
      clear hf hc
      obtain ⟨t1, t2⟩ := mod_bd f.a (show (0 : Int) < 70 by omega)
      obtain ⟨t3, t4⟩ := mod_bd f.t (show (0 : Int) < 80 by omega)
      obtain ⟨t5, t6⟩ := mod_bd f.kind (show (0 : Int) < 6 by omega)
      have x1 : ((k : Nat) : Int) < ((l.length : Nat) : Int) := by omega
      have x2 : ((k : Nat) : Int) < ((most : Nat) : Int) := by omega
      obtain ⟨⟨ap1, ap2⟩, hap⟩ : ∃ d, decH (30 + f.a % 70) 1 = d := ⟨_, rfl⟩
      obtain ⟨⟨th1, th2⟩, hth⟩ : ∃ d, decH (f.t % 80) 1 = d := ⟨_, rfl⟩
      go_upto_region 7 with (first | (first | (go_at_call 18; (with_reducible refine (hdec_c _ _ (by omega) (by omega) (by omega) (by omega) _).mono ?_); rintro e w' ⟨rfl, r, rfl⟩) | (go_at_call 20; (with_reducible refine (pick_c _ _ (by omega) (by omega) (by omega) (by omega) _).mono ?_); rintro e w' ⟨rfl, rfl⟩) | ((with_reducible show Code.wp _ (Code.region 6 _ true) _ _ _); (with_reducible apply wp_more_heap_m (id := 6) 11 10 12); kernel_rfl; kernel_rfl; rfl; decide; rfl; (intro _ _; go_simp; rfl); intro x; (try simp only [List.append_eq, List.cons_append, List.nil_append]); (simp only [List.take_succ_cons, List.take_zero, List.drop_succ_cons, List.drop_zero, skipAt, Nat.reduceAdd, Nat.reduceEqDiff, reduceIte, Nat.zero_add]); (repeat (any_goals (first | go_big_quiet_step ((first | (go_at_call 18; (with_reducible apply quiet_up); with_reducible exact hdec_c _ _ (by omega) (by omega) (by omega) (by omega) _) | (go_at_call 20; (with_reducible apply quiet_up_same); with_reducible exact pick_c _ _ (by omega) (by omega) (by omega) (by omega) _))) | quiet_step ((first | (go_at_call 18; (with_reducible apply quiet_up); with_reducible exact hdec_c _ _ (by omega) (by omega) (by omega) (by omega) _) | (go_at_call 20; (with_reducible apply quiet_up_same); with_reducible exact pick_c _ _ (by omega) (by omega) (by omega) (by omega) _)))))); (with_reducible refine wpQuiet_nil ?_); intro r1 r2) | ((with_reducible show Code.wp _ (Code.region 6 _ true) _ _ _); (with_reducible apply wp_more_heap (id := 6) 11 10 12); kernel_rfl; kernel_rfl; rfl; decide; rfl; (intro _ _; go_simp; rfl); intro x; (try simp only [List.append_eq, List.cons_append, List.nil_append]); (simp only [List.take_succ_cons, List.take_zero, List.drop_succ_cons, List.drop_zero, skipAt, Nat.reduceAdd, Nat.reduceEqDiff, reduceIte, Nat.zero_add]); (repeat (any_goals (first | go_big_quiet_step ((first | (go_at_call 18; (with_reducible apply quiet_up); with_reducible exact hdec_c _ _ (by omega) (by omega) (by omega) (by omega) _) | (go_at_call 20; (with_reducible apply quiet_up_same); with_reducible exact pick_c _ _ (by omega) (by omega) (by omega) (by omega) _))) | quiet_step ((first | (go_at_call 18; (with_reducible apply quiet_up); with_reducible exact hdec_c _ _ (by omega) (by omega) (by omega) (by omega) _) | (go_at_call 20; (with_reducible apply quiet_up_same); with_reducible exact pick_c _ _ (by omega) (by omega) (by omega) (by omega) _)))))); (with_reducible refine wpQuiet_nil ?_); intro r1 r2)))
      have HAP := Lib.hid hap
      have HTH := Lib.hid hth
      clear hap hth
      by_cases hst : f.kind % 6 = 5 ∧ 0 < k
      · obtain ⟨hs1, hs2⟩ := hst
        have hq1 : (f.kind % 6 == 5) = true := by simpa using hs1
        have hq2 : (0 : Int) < ((k : Nat) : Int) := by omega
        have HE := Lib.hid hs1
        clear hs1
        go_wp2_with (first | (at_builtin; refine wpList_append_w (W2 := (((more (W.alloc (.cells #[.string ⟨#[]⟩, .int .i64 0, .int .i64 0, .slice none 0 0] 28)) R).alloc (.cells #[.string (bsOf nm), .int .i64 D.c, .int .i64 D.s, .slice ao k c] 28)))) rfl (.tmp 60) (.tmp 62) 26 rfl 56 j0 _ 14 120 und_fs hi hz0 hz1 hz2 rfl (by decide) _ k (flatC cellsF (handFs G l k)) (W.heap.size + (1 + R.len) + 1) (by simp [Nat.add_assoc]) rfl (by repeat (first | exact HO.out | with_reducible apply OwnW.alloc | with_reducible apply OwnW.more | with_reducible apply OwnW.drew)) (cellsF ⟨true, D0, ⟨ap1, ap2⟩, ⟨th1, th2⟩, D0, D0, D0, []⟩) 1 _ rfl (by simp [Nat.add_assoc]) rfl (cellsF_one _) x3 x4 ?_; rintro v2 w2 ⟨s2, rfl, hS2⟩; obtain ⟨ao2, c2, rfl⟩ := ownS_form hS2 (((more (W.alloc (.cells #[.string ⟨#[]⟩, .int .i64 0, .int .i64 0, .slice none 0 0] 28)) R).alloc (.cells #[.string (bsOf nm), .int .i64 D.c, .int .i64 D.s, .slice ao k c] 28))) (by simp [Nat.add_assoc]); have HS2 := Lib.hid hS2; clear hS2) | (first | (go_at_call 18; (with_reducible refine (hdec_c _ _ (by omega) (by omega) (by omega) (by omega) _).mono ?_); rintro e w' ⟨rfl, r, rfl⟩) | (go_at_call 20; (with_reducible refine (pick_c _ _ (by omega) (by omega) (by omega) (by omega) _).mono ?_); rintro e w' ⟨rfl, rfl⟩)))
        go_roundw
        case rel => exact ⟨k + 1, ao2, c2, by omega, by omega, rfl, s2, rfl, rows_next HF.out (by unfold handF; rw [if_pos ⟨HE.out, hs2⟩, HAP.out, HTH.out]) HS2.out⟩
        case measure => simp [intOf] <;> omega
      · have hcase : ((f.kind % 6 == 5) = false) ∨ ((f.kind % 6 == 5) = true ∧ ¬ (0 : Int) < ((k : Nat) : Int)) := by
          by_cases h5 : f.kind % 6 = 5
          · exact .inr ⟨by simpa using h5, fun h => hst ⟨h5, by omega⟩⟩
          · exact .inl (by simpa using h5)
        have HT := Lib.hid hst
        clear hst
        go_cut [57] from 36 to 145 (fun y wx => y = .bool false ∧ More ((more ((more ((more (W.alloc (.cells #[.string ⟨#[]⟩, .int .i64 0, .int .i64 0, .slice none 0 0] 28)) R).alloc (.cells #[.string (bsOf nm), .int .i64 D.c, .int .i64 D.s, .slice ao k c] 28)) s).alloc (.cells #[.int .i64 f.kind, .int .i64 f.r, .int .i64 f.a, .int .i64 f.t, .int .i64 f.g, .int .i64 f.k] 83)) r1).alloc (.cells #[.bool false, .int .i64 0, .int .i64 0, .int .i64 ap1, .int .i64 ap2, .int .i64 th1, .int .i64 th2, .int .i64 0, .int .i64 0, .int .i64 0, .int .i64 0, .int .i64 0, .int .i64 0, .string ⟨#[]⟩] 56)) wx)
        case first =>
          rcases hcase with hq1 | ⟨hq1, hq2⟩
          · go_wp2_with (first | (first | (go_at_call 18; (with_reducible refine (hdec_c _ _ (by omega) (by omega) (by omega) (by omega) _).mono ?_); rintro e w' ⟨rfl, r, rfl⟩) | (go_at_call 20; (with_reducible refine (pick_c _ _ (by omega) (by omega) (by omega) (by omega) _).mono ?_); rintro e w' ⟨rfl, rfl⟩)))
            go_meet
            exact ⟨rfl, (by repeat (first | exact More.refl _ | refine More.alloc ?_ _ | refine More.more ?_ _ | refine More.drew ?_ | refine More.drewN ?_ _))⟩
          · go_wp2_with (first | (first | (go_at_call 18; (with_reducible refine (hdec_c _ _ (by omega) (by omega) (by omega) (by omega) _).mono ?_); rintro e w' ⟨rfl, r, rfl⟩) | (go_at_call 20; (with_reducible refine (pick_c _ _ (by omega) (by omega) (by omega) (by omega) _).mono ?_); rintro e w' ⟨rfl, rfl⟩)))
            go_meet
            exact ⟨congrArg Value.bool (decide_eq_false (by omega)), (by repeat (first | exact More.refl _ | refine More.alloc ?_ _ | refine More.more ?_ _ | refine More.drew ?_ | refine More.drewN ?_ _))⟩
        case rest =>
          obtain ⟨rfl, s7, rfl⟩ := hcut
          clear hcase
          obtain ⟨t7, t8⟩ := mod_bd f.g (show (0 : Int) < ((G.length : Nat) : Int) + 2 by omega)
          obtain ⟨gi, hgi⟩ : ∃ gi : Nat, f.g % (((G.length : Nat) : Int) + 2) = (gi : Int) := ⟨(f.g % (((G.length : Nat) : Int) + 2)).toNat, (Int.toNat_of_nonneg t7).symm⟩
          rw [hgi] at t7 t8
          obtain ⟨gn, hgn⟩ : ∃ t, handGlass G f.g = t := ⟨_, rfl⟩
          have HGI := Lib.hid hgi
          have HGN := Lib.hid hgn
          clear hgn
          go_upto_if 75 with (first | (first | (go_at_call 18; (with_reducible refine (hdec_c _ _ (by omega) (by omega) (by omega) (by omega) _).mono ?_); rintro e w' ⟨rfl, r, rfl⟩) | (go_at_call 20; (with_reducible refine (pick_c _ _ (by omega) (by omega) (by omega) (by omega) _).mono ?_); rintro e w' ⟨rfl, rfl⟩)))
          clear hgi
          go_cut [13] from 36 to 145 (fun y wx => y = .int .i64 gi ∧ More ((more ((more ((more (W.alloc (.cells #[.string ⟨#[]⟩, .int .i64 0, .int .i64 0, .slice none 0 0] 28)) R).alloc (.cells #[.string (bsOf nm), .int .i64 D.c, .int .i64 D.s, .slice ao k c] 28)) s).alloc (.cells #[.int .i64 f.kind, .int .i64 f.r, .int .i64 f.a, .int .i64 f.t, .int .i64 f.g, .int .i64 f.k] 83)) r1).alloc (.cells #[.bool false, .int .i64 0, .int .i64 0, .int .i64 ap1, .int .i64 ap2, .int .i64 th1, .int .i64 th2, .int .i64 0, .int .i64 0, .int .i64 0, .int .i64 0, .int .i64 0, .int .i64 0, .string (bsOf gn)] 56)) wx)
          case first =>
            by_cases hgl : gi < G.length
            · obtain ⟨gb, go, rfl, hgb, hgc⟩ := HQ.out (by omega)
              obtain ⟨gg, hgg⟩ : ∃ gg, G[gi]? = some gg := ⟨G[gi], List.getElem?_eq_getElem hgl⟩
              have n0 := hgc gi gg hgg 0 _ rfl
              have hnm : gg.name = gn := by
                rw [← HGN.out]
                unfold handGlass
                rw [HGI.out, if_pos (by omega), Int.toNat_natCast, List.getD_eq_getElem?_getD, List.getElem?_map, hgg]
                rfl
              simp only [Nat.add_zero] at n0
              rw [hnm] at n0
              have x9 : ((gi : Nat) : Int) < ((G.length : Nat) : Int) := by omega
              clear hgg hgc hnm
              go_wp2_with (first | (first | (go_at_call 18; (with_reducible refine (hdec_c _ _ (by omega) (by omega) (by omega) (by omega) _).mono ?_); rintro e w' ⟨rfl, r, rfl⟩) | (go_at_call 20; (with_reducible refine (pick_c _ _ (by omega) (by omega) (by omega) (by omega) _).mono ?_); rintro e w' ⟨rfl, rfl⟩)))
              go_meet
              exact ⟨rfl, (by repeat (first | exact More.refl _ | refine More.alloc ?_ _ | refine More.more ?_ _ | refine More.drew ?_ | refine More.drewN ?_ _))⟩
            · have hnm : gn = [97, 105, 114] := by
                rw [← HGN.out]
                unfold handGlass
                rw [HGI.out, if_neg (by omega)]
                rfl
              subst hnm
              have x9 : ¬ ((gi : Nat) : Int) < ((G.length : Nat) : Int) := by omega
              go_wp2_with (first | (first | (go_at_call 18; (with_reducible refine (hdec_c _ _ (by omega) (by omega) (by omega) (by omega) _).mono ?_); rintro e w' ⟨rfl, r, rfl⟩) | (go_at_call 20; (with_reducible refine (pick_c _ _ (by omega) (by omega) (by omega) (by omega) _).mono ?_); rintro e w' ⟨rfl, rfl⟩)))
              go_meet
              exact ⟨rfl, (by repeat (first | exact More.refl _ | refine More.alloc ?_ _ | refine More.more ?_ _ | refine More.drew ?_ | refine More.drewN ?_ _))⟩
          case rest =>
            obtain ⟨rfl, s8, rfl⟩ := hcut
            obtain ⟨t9, t10⟩ := mod_bd f.r (show (0 : Int) < 7 by omega)
            obtain ⟨t11, t12⟩ := mod_bd f.r (show (0 : Int) < 900 by omega)
            obtain ⟨y1, y2⟩ := tdiv_bd f.r 7 u1.1 u1.2 (by omega)
            obtain ⟨⟨ra1, ra2⟩, hra⟩ : ∃ d, handRadius f.r = d := ⟨_, rfl⟩
            have HRA := Lib.hid hra
            clear hra
            go_upto_if 85 with (first | (first | (go_at_call 18; (with_reducible refine (hdec_c _ _ (by omega) (by omega) (by omega) (by omega) _).mono ?_); rintro e w' ⟨rfl, r, rfl⟩) | (go_at_call 20; (with_reducible refine (pick_c _ _ (by omega) (by omega) (by omega) (by omega) _).mono ?_); rintro e w' ⟨rfl, rfl⟩)))
            go_cut [13] from 36 to 145 (fun y wx => y = .int .i64 gi ∧ More ((more ((more ((more (W.alloc (.cells #[.string ⟨#[]⟩, .int .i64 0, .int .i64 0, .slice none 0 0] 28)) R).alloc (.cells #[.string (bsOf nm), .int .i64 D.c, .int .i64 D.s, .slice ao k c] 28)) s).alloc (.cells #[.int .i64 f.kind, .int .i64 f.r, .int .i64 f.a, .int .i64 f.t, .int .i64 f.g, .int .i64 f.k] 83)) r1).alloc (.cells #[.bool false, .int .i64 ra1, .int .i64 ra2, .int .i64 ap1, .int .i64 ap2, .int .i64 th1, .int .i64 th2, .int .i64 0, .int .i64 0, .int .i64 0, .int .i64 0, .int .i64 0, .int .i64 0, .string (bsOf gn)] 56)) wx)
            case first =>
              by_cases h7 : 0 < f.r % 7
              · by_cases h2 : f.r.tdiv 7 % 2 = 0
                · have hq : (f.r.tdiv 7 % 2 == 0) = true := by simpa using h2
                  have hd : decH (-150 - f.r % 900) 1 = ⟨ra1, ra2⟩ := by
                    rw [← HRA.out]
                    unfold handRadius
                    rw [if_pos h7, if_pos h2]
                  have H2 := Lib.hid h2
                  clear h2
                  go_wp2_with (first | (first | (go_at_call 18; (with_reducible refine (hdec_c _ _ (by omega) (by omega) (by omega) (by omega) _).mono ?_); rintro e w' ⟨rfl, r, rfl⟩) | (go_at_call 20; (with_reducible refine (pick_c _ _ (by omega) (by omega) (by omega) (by omega) _).mono ?_); rintro e w' ⟨rfl, rfl⟩)))
                  go_meet
                  exact ⟨rfl, (by repeat (first | exact More.refl _ | refine More.alloc ?_ _ | refine More.more ?_ _ | refine More.drew ?_ | refine More.drewN ?_ _))⟩
                · have hq : (f.r.tdiv 7 % 2 == 0) = false := by simpa using h2
                  have hd : decH (150 + f.r % 900) 1 = ⟨ra1, ra2⟩ := by
                    rw [← HRA.out]
                    unfold handRadius
                    rw [if_pos h7, if_neg h2]
                  have H2 := Lib.hid h2
                  clear h2
                  go_wp2_with (first | (first | (go_at_call 18; (with_reducible refine (hdec_c _ _ (by omega) (by omega) (by omega) (by omega) _).mono ?_); rintro e w' ⟨rfl, r, rfl⟩) | (go_at_call 20; (with_reducible refine (pick_c _ _ (by omega) (by omega) (by omega) (by omega) _).mono ?_); rintro e w' ⟨rfl, rfl⟩)))
                  go_meet
                  exact ⟨rfl, (by repeat (first | exact More.refl _ | refine More.alloc ?_ _ | refine More.more ?_ _ | refine More.drew ?_ | refine More.drewN ?_ _))⟩
              · obtain ⟨rfl, rfl⟩ : 0 = ra1 ∧ 0 = ra2 := by
                  have h := HRA.out
                  unfold handRadius at h
                  rw [if_neg h7] at h
                  exact ⟨congrArg Dec.c h, congrArg Dec.s h⟩
                go_wp2_with (first | (first | (go_at_call 18; (with_reducible refine (hdec_c _ _ (by omega) (by omega) (by omega) (by omega) _).mono ?_); rintro e w' ⟨rfl, r, rfl⟩) | (go_at_call 20; (with_reducible refine (pick_c _ _ (by omega) (by omega) (by omega) (by omega) _).mono ?_); rintro e w' ⟨rfl, rfl⟩)))
                go_meet
                exact ⟨rfl, (by repeat (first | exact More.refl _ | refine More.alloc ?_ _ | refine More.more ?_ _ | refine More.drew ?_ | refine More.drewN ?_ _))⟩
            case rest =>
              obtain ⟨rfl, s9, rfl⟩ := hcut
              obtain ⟨t13, t14⟩ := mod_bd f.k (show (0 : Int) < 6 by omega)
              obtain ⟨t15, t16⟩ := mod_bd (f.k.tdiv 6) (show (0 : Int) < 30 by omega)
              obtain ⟨t17, t18⟩ := mod_bd (f.k.tdiv 6) (show (0 : Int) < 400 by omega)
              obtain ⟨t19, t20⟩ := mod_bd (f.k.tdiv 12) (show (0 : Int) < 400 by omega)
              obtain ⟨y3, y4⟩ := tdiv_bd f.k 6 u5.1 u5.2 (by omega)
              obtain ⟨y5, y6⟩ := tdiv_bd f.k 12 u5.1 u5.2 (by omega)
              obtain ⟨⟨co1, co2⟩, hco⟩ : ∃ d, (if f.k % 6 = 3 then decH (f.k.tdiv 6 % 30 - 15) 1 else D0) = d := ⟨_, rfl⟩
              obtain ⟨⟨fo1, fo2⟩, hfo⟩ : ∃ d, (if f.k % 6 = 4 ∨ f.k % 6 = 5 then decH (f.k.tdiv 6 % 400 - 200) 2 else D0) = d := ⟨_, rfl⟩
              obtain ⟨⟨si1, si2⟩, hsi⟩ : ∃ d, (if f.k % 6 = 5 then decH (f.k.tdiv 12 % 400 - 200) 1 else D0) = d := ⟨_, rfl⟩
              have HCO := Lib.hid hco
              have HFO := Lib.hid hfo
              have HSI := Lib.hid hsi
              clear hco hfo hsi
              go_upto_block 2 with (first | (first | (go_at_call 18; (with_reducible refine (hdec_c _ _ (by omega) (by omega) (by omega) (by omega) _).mono ?_); rintro e w' ⟨rfl, r, rfl⟩) | (go_at_call 20; (with_reducible refine (pick_c _ _ (by omega) (by omega) (by omega) (by omega) _).mono ?_); rintro e w' ⟨rfl, rfl⟩)))
              go_cut [13] from 36 to 145 (fun y wx => y = .int .i64 gi ∧ More ((more ((more ((more (W.alloc (.cells #[.string ⟨#[]⟩, .int .i64 0, .int .i64 0, .slice none 0 0] 28)) R).alloc (.cells #[.string (bsOf nm), .int .i64 D.c, .int .i64 D.s, .slice ao k c] 28)) s).alloc (.cells #[.int .i64 f.kind, .int .i64 f.r, .int .i64 f.a, .int .i64 f.t, .int .i64 f.g, .int .i64 f.k] 83)) r1).alloc (.cells #[.bool false, .int .i64 ra1, .int .i64 ra2, .int .i64 ap1, .int .i64 ap2, .int .i64 th1, .int .i64 th2, .int .i64 co1, .int .i64 co2, .int .i64 fo1, .int .i64 fo2, .int .i64 si1, .int .i64 si2, .string (bsOf gn)] 56)) wx)
              case first =>
                have hco := HCO.out
                have hfo := HFO.out
                have hsi := HSI.out
                by_cases h3 : f.k % 6 = 3
                · rw [if_pos h3] at hco
                  rw [if_neg (by omega)] at hfo hsi
                  obtain ⟨rfl, rfl⟩ : 0 = fo1 ∧ 0 = fo2 := ⟨congrArg Dec.c hfo, congrArg Dec.s hfo⟩
                  obtain ⟨rfl, rfl⟩ : 0 = si1 ∧ 0 = si2 := ⟨congrArg Dec.c hsi, congrArg Dec.s hsi⟩
                  have hq : (f.k % 6 == 3) = true := by simpa using h3
                  have H3 := Lib.hid h3
                  clear h3 hfo hsi
                  go_wp2_with (first | (first | (go_at_call 18; (with_reducible refine (hdec_c _ _ (by omega) (by omega) (by omega) (by omega) _).mono ?_); rintro e w' ⟨rfl, r, rfl⟩) | (go_at_call 20; (with_reducible refine (pick_c _ _ (by omega) (by omega) (by omega) (by omega) _).mono ?_); rintro e w' ⟨rfl, rfl⟩)))
                  go_meet
                  exact ⟨rfl, (by repeat (first | exact More.refl _ | refine More.alloc ?_ _ | refine More.more ?_ _ | refine More.drew ?_ | refine More.drewN ?_ _))⟩
                · rw [if_neg h3] at hco
                  obtain ⟨rfl, rfl⟩ : 0 = co1 ∧ 0 = co2 := ⟨congrArg Dec.c hco, congrArg Dec.s hco⟩
                  have hq : (f.k % 6 == 3) = false := by simpa using h3
                  by_cases h4 : f.k % 6 = 4
                  · rw [if_pos (by omega)] at hfo
                    rw [if_neg (by omega)] at hsi
                    obtain ⟨rfl, rfl⟩ : 0 = si1 ∧ 0 = si2 := ⟨congrArg Dec.c hsi, congrArg Dec.s hsi⟩
                    have hq4 : (f.k % 6 == 4) = true := by simpa using h4
                    have H4 := Lib.hid h4
                    clear h4 h3 hco hsi
                    go_wp2_with (first | (first | (go_at_call 18; (with_reducible refine (hdec_c _ _ (by omega) (by omega) (by omega) (by omega) _).mono ?_); rintro e w' ⟨rfl, r, rfl⟩) | (go_at_call 20; (with_reducible refine (pick_c _ _ (by omega) (by omega) (by omega) (by omega) _).mono ?_); rintro e w' ⟨rfl, rfl⟩)))
                    go_meet
                    exact ⟨rfl, (by repeat (first | exact More.refl _ | refine More.alloc ?_ _ | refine More.more ?_ _ | refine More.drew ?_ | refine More.drewN ?_ _))⟩
                  · have hq4 : (f.k % 6 == 4) = false := by simpa using h4
                    by_cases h5 : f.k % 6 = 5
                    · rw [if_pos (by omega)] at hfo hsi
                      have hq5 : (f.k % 6 == 5) = true := by simpa using h5
                      have H5 := Lib.hid h5
                      clear h5 h4 h3 hco
                      go_wp2_with (first | (first | (go_at_call 18; (with_reducible refine (hdec_c _ _ (by omega) (by omega) (by omega) (by omega) _).mono ?_); rintro e w' ⟨rfl, r, rfl⟩) | (go_at_call 20; (with_reducible refine (pick_c _ _ (by omega) (by omega) (by omega) (by omega) _).mono ?_); rintro e w' ⟨rfl, rfl⟩)))
                      go_meet
                      exact ⟨rfl, (by repeat (first | exact More.refl _ | refine More.alloc ?_ _ | refine More.more ?_ _ | refine More.drew ?_ | refine More.drewN ?_ _))⟩
                    · have hq5 : (f.k % 6 == 5) = false := by simpa using h5
                      rw [if_neg (by omega)] at hfo hsi
                      obtain ⟨rfl, rfl⟩ : 0 = fo1 ∧ 0 = fo2 := ⟨congrArg Dec.c hfo, congrArg Dec.s hfo⟩
                      obtain ⟨rfl, rfl⟩ : 0 = si1 ∧ 0 = si2 := ⟨congrArg Dec.c hsi, congrArg Dec.s hsi⟩
                      clear h5 h4 h3 hco hfo hsi
                      go_wp2_with (first | (first | (go_at_call 18; (with_reducible refine (hdec_c _ _ (by omega) (by omega) (by omega) (by omega) _).mono ?_); rintro e w' ⟨rfl, r, rfl⟩) | (go_at_call 20; (with_reducible refine (pick_c _ _ (by omega) (by omega) (by omega) (by omega) _).mono ?_); rintro e w' ⟨rfl, rfl⟩)))
                      go_meet
                      exact ⟨rfl, (by repeat (first | exact More.refl _ | refine More.alloc ?_ _ | refine More.more ?_ _ | refine More.drew ?_ | refine More.drewN ?_ _))⟩
              case rest =>
                obtain ⟨rfl, s10, rfl⟩ := hcut
                go_wp2_with (first | (at_builtin; refine wpList_append_w (W2 := (((more (W.alloc (.cells #[.string ⟨#[]⟩, .int .i64 0, .int .i64 0, .slice none 0 0] 28)) R).alloc (.cells #[.string (bsOf nm), .int .i64 D.c, .int .i64 D.s, .slice ao k c] 28)))) rfl (.tmp 141) (.tmp 143) 26 rfl 56 j0 _ 14 120 und_fs hi hz0 hz1 hz2 rfl (by decide) _ k (flatC cellsF (handFs G l k)) (W.heap.size + (1 + R.len) + 1) (by simp [Nat.add_assoc]) rfl (by repeat (first | exact HO.out | with_reducible apply OwnW.alloc | with_reducible apply OwnW.more | with_reducible apply OwnW.drew)) (cellsF ⟨false, ⟨ra1, ra2⟩, ⟨ap1, ap2⟩, ⟨th1, th2⟩, ⟨co1, co2⟩, ⟨fo1, fo2⟩, ⟨si1, si2⟩, gn⟩) 1 _ rfl (by simp [Nat.add_assoc]) rfl (cellsF_one _) x3 x4 ?_; rintro v2 w2 ⟨s2, rfl, hS2⟩; obtain ⟨ao2, c2, rfl⟩ := ownS_form hS2 (((more (W.alloc (.cells #[.string ⟨#[]⟩, .int .i64 0, .int .i64 0, .slice none 0 0] 28)) R).alloc (.cells #[.string (bsOf nm), .int .i64 D.c, .int .i64 D.s, .slice ao k c] 28))) (by simp [Nat.add_assoc]); have HS2 := Lib.hid hS2; clear hS2))
                go_roundw
                case rel => exact ⟨k + 1, ao2, c2, by omega, by omega, rfl, s2, rfl, rows_next HF.out (by unfold handF; rw [if_neg HT.out, HAP.out, HTH.out, HGN.out, HRA.out, HCO.out, HFO.out, HSI.out]) HS2.out⟩
                case measure => simp [intOf] <;> omega
    · have hkm : k = min l.length most := by omega
      have hcase : ((k : Nat) : Int) < ((l.length : Nat) : Int) ∧ ¬ ((k : Nat) : Int) < ((most : Nat) : Int) ∨ ¬ ((k : Nat) : Int) < ((l.length : Nat) : Int) := by omega
      have HM := Lib.hid hkm
      clear hk hkm
      have hrow : Fcs (more ((more (W.alloc (.cells #[.string ⟨#[]⟩, .int .i64 0, .int .i64 0, .slice none 0 0] 28)) R).alloc (.cells #[.string (bsOf nm), .int .i64 D.c, .int .i64 D.s, .slice ao k c] 28)) s) (.slice ao k c) (handFs G l k) := by
        have h1 := HO.out
        exact OwnW.row (f := cellsF) (base := (W.heap.size + (1 + R.len) + 1)) (e := 56) (X := ((more (W.alloc (.cells #[.string ⟨#[]⟩, .int .i64 0, .int .i64 0, .slice none 0 0] 28)) R).alloc (.cells #[.string (bsOf nm), .int .i64 D.c, .int .i64 D.s, .slice ao k c] 28))) cellsF_len (by decide) (by simp [Nat.add_assoc]) (by rw [handFs_len]; exact h1)
      have HROW := Lib.hid hrow
      clear hrow
      by_cases hk0 : k = 0
      · subst hk0
        have hq : ((0 : Int) == 0) = true := rfl
        have hm0 : 0 < most → l.length = 0 := by have := HM.out; omega
        rcases hcase with ⟨x1, x2⟩ | x1
        all_goals
          go_upto_region 28 with (first | (first | (go_at_call 20; (with_reducible refine (pick_c _ _ (by omega) (by omega) (by omega) (by omega) _).mono ?_); rintro e w' ⟨rfl, rfl⟩)))
          go_region_law (first | ((with_reducible show (if Region.wanted { dst := some 163, op := _, type := _, pos := _, after := _, guard := _ } _ = true then _ else _)); refine step_append_w (W2 := (((more (W.alloc (.cells #[.string ⟨#[]⟩, .int .i64 0, .int .i64 0, .slice none 0 0] 28)) R).alloc (.cells #[.string (bsOf nm), .int .i64 D.c, .int .i64 D.s, .slice ao 0 c] 28)))) rfl (.tmp 157) (.tmp 162) 26 rfl 56 j0 _ 14 120 und_fs hi hz0 hz1 hz2 rfl (by decide) (.slice ao 0 c) 0 (flatC cellsF (handFs G l 0)) (W.heap.size + (1 + R.len) + 1) (by simp [Nat.add_assoc]) rfl ⟨_, rfl, by repeat (first | exact HS.out | with_reducible apply OwnS.draw | with_reducible apply OwnS.plus)⟩ (cellsF plainFc) 1 _ rfl (by simp [Nat.add_assoc]) rfl (cellsF_one _) x3 x4 ?_; rintro g6 c6 w6 ⟨s6, rfl, h6⟩) | (go_simp; go_at_call 18; (first | (with_reducible refine Calls.mono (hdec40 _) ?_) | (with_reducible refine Calls.mono (hdec8 _) ?_) | (with_reducible refine Calls.mono (hdec3 _) ?_)); rintro en w' ⟨rfl, r, rfl⟩))
          all_goals
            have h7 : OwnS (W.heap.size + (1 + R.len) + 1) s6 56 14 (.slice (some ⟨g6, 0, none⟩) 1 c6) 1 (flatC cellsF [plainFc]) := by
              have h := h6
              simpa [flatC, handFs] using h
            have H7 := Lib.hid h7
            clear h6 h7
            go_wp2_with fail
            go_returns
            refine ⟨.slice (some ⟨g6, 0, none⟩) 1 c6, ?_, (by repeat (first | exact More.refl _ | refine More.alloc ?_ _ | refine More.more ?_ _ | refine More.drew ?_ | refine More.drewN ?_ _)), ?_⟩
            · rw [← HN.out, ← HD.out]
              rfl
            · unfold handFaces
              rw [← HM.out, if_pos rfl]
              refine GRow.of_owns cellsF_len (by decide) (H7.out _ ?_)
              simp [Nat.add_assoc]
      · have hq : (((k : Nat) : Int) == 0) = false := by simpa using hk0
        have hany : ((handFs G l k).any fun f => !f.stop) = true := by
          have h1 := handFaces_some G l most
          unfold handFaces at h1
          rw [← HM.out, if_neg hk0] at h1
          rw [List.any_eq_not_all_not]
          simpa using h1
        rcases hcase with ⟨x1, x2⟩ | x1
        all_goals
          go_wp2_with (first | (go_at_call 40; (with_reducible refine Calls.mono (some_c _ (handFs G l k) _ HROW.out (by rw [handFs_len]; omega)) ?_); rintro e w' ⟨rfl, r, rfl⟩))
          go_returns
          refine ⟨.slice ao k c, ?_, (by repeat (first | exact More.refl _ | refine More.alloc ?_ _ | refine More.more ?_ _ | refine More.drew ?_ | refine More.drewN ?_ _)), ?_⟩
          · rw [← HN.out, ← HD.out]
            rfl
          · unfold handFaces
            rw [← HM.out, if_neg hk0]
            refine GRow.of_owns cellsF_len (by decide) ((OwnS.plus HS.out) _ ?_)
            simp [Nat.add_assoc]
end Go.Proofs.YtekhhekkepijoaaGreatDoor

