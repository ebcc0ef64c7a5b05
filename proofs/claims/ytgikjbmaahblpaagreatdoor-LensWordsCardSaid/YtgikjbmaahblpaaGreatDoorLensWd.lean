/-
  LensWords: the walk.
-/
import Derived.Test.YtgikjbmaahblpaaGreatDoorGk
import Derived.Test.YtgikjbmaahblpaaGreatDoorGlassHd
import Derived.Test.YtgikjbmaahblpaaGreatDoorGj
import Derived.Test.YtgikjbmaahblpaaGreatDoorLensKw
import Derived.Deep.RegionLaw
import Derived.Deep.Cut
namespace Go.Proofs.YtgikjbmaahblpaaGreatDoor
set_option linter.unusedVariables false
open Go.ChangeShapes Go.WideShapes Go.ChangeAt Go.RowKit

set_option maxHeartbeats 4000000 in
theorem wordsRead_c (T : List UInt8) (F : Fc) (g : Value) (W : World) (hz : T.length ≤ 9223372036854775807) (hg : Gls W g (glassesG [])) (hr : readLn ((glassesG []).map Gl.name) T = .ok ⟨wordsN, ⟨75, 1⟩, [F]⟩) :
    Calls Tryz.prog 12 #[.string (bsOf T), g] W fun e w' => ∃ b o lc, e = .returned (.tuple #[.agg #[.string ⟨#[97, 45, 98, 95, 49]⟩, .int .i64 75, .int .i64 1, .slice (some ⟨b, o, none⟩) 1 lc], .complex .f64 0 0, .int .i64 0]) ∧ More W w' ∧ b < w'.heap.size ∧ Fcs w' (.slice (some ⟨b, o, none⟩) 1 lc) [F] := by
  have h := readl_c T g (glassesG []) W hz hg (by decide)
  rw [hr] at h
  refine h.mono ?_
  rintro e w' ⟨lv, rfl, hm, hr⟩
  have hr : Fcs w' lv [F] := hr
  obtain ⟨ao, c, rfl, hc⟩ := grow_form fcs_pos hr
  obtain ⟨b, o, rfl, hb, hd⟩ := hc (by simp)
  refine ⟨b, o, c, ?_, hm, hb, hr⟩
  show Ending.returned (.tuple #[_, plV2 0 0, _]) = _
  rw [plV2_zero]
  rfl

set_option maxHeartbeats 1500000 in
set_option maxRecDepth 100000 in
theorem lensWords_walk (w : World) (nr na nt nk np nq : Int) (r0 : -9223372036854775808 ≤ nr) (r1 : nr ≤ 9223372036854775807) (a0 : -9223372036854775808 ≤ na) (a1 : na ≤ 9223372036854775807) (t0 : -9223372036854775808 ≤ nt) (t1 : nt ≤ 9223372036854775807) (k0 : -9223372036854775808 ≤ nk) (k1 : nk ≤ 9223372036854775807) (p0 : -9223372036854775808 ≤ np) (p1 : np ≤ 9223372036854775807) (q0 : -9223372036854775808 ≤ nq) (q1 : nq ≤ 9223372036854775807) (ht : Tab w) :
    Calls Tryz.prog 4 #[.int .i64 nr, .int .i64 na, .int .i64 nt, .int .i64 nk, .int .i64 np, .int .i64 nq] w fun e w' => e = .returned (.bool true) ∧ More w w' := by
  go_enter Tryz.func4, Tryz.ntmps4
  go_wp2_with fail
  go_at_call 9
  refine Calls.mono (glasses_c (.slice none 0 0) [] _ (.inl ⟨rfl, _, _, rfl⟩) (fun n h => by cases h) (by simp)) ?_
  rintro e u1 ⟨v1, rfl, hM1, hg1⟩
  obtain ⟨ga, ca, rfl, hgc⟩ := grow_form gls_pos hg1
  have hlen : (glassesG []).length = 2 := rfl
  rw [hlen] at hg1 hgc ⊢
  obtain ⟨gb, go, rfl, hgb, hgd⟩ := hgc (by decide)
  have n0 : u1.cell? ⟨gb, go, none⟩ = some (.string (bsOf [99, 114, 111, 119, 110])) := by
    have := hgd 0 crownG rfl 0 (.string (bsOf [99, 114, 111, 119, 110])) rfl
    simpa using this
  have n1 : u1.cell? ⟨gb, go + 13, none⟩ = some (.string (bsOf flintT)) := by
    have := hgd 1 flintG rfl 0 (.string (bsOf flintT)) rfl
    simpa using this
  clear hlen hgc hgd
  have m1 := mod_bd nr (show (0 : Int) < 9000 by omega)
  have m2 := mod_bd na (show (0 : Int) < 299 by omega)
  have m3 := mod_bd nt (show (0 : Int) < 2000 by omega)
  have m4 := mod_bd na (show (0 : Int) < 2 by omega)
  obtain ⟨m1, m1'⟩ := m1
  obtain ⟨m2, m2'⟩ := m2
  obtain ⟨m3, m3'⟩ := m3
  obtain ⟨m4, m4'⟩ := m4
  have HM1 := Lib.hid hM1
  have HG := Lib.hid hg1
  clear hM1 hg1
  have hname : ∃ nm : List UInt8, nm = (if na % 2 = 0 then [99, 114, 111, 119, 110] else flintT) ∧ u1.cell? ⟨gb, go + (na % 2).toNat * 13, none⟩ = some (.string (bsOf nm)) := by
    by_cases h : na % 2 = 0
    · refine ⟨_, rfl, ?_⟩
      rw [if_pos h, h]
      simpa using n0
    · have h1 : na % 2 = 1 := by omega
      refine ⟨_, rfl, ?_⟩
      rw [if_neg h, h1]
      simpa using n1
  obtain ⟨nm, hnm, hcell⟩ := hname
  have HNM := Lib.hid hnm
  clear hnm n0 n1
  have hnml : nm.length ≤ 5 := by
    rw [HNM.out]
    split <;> decide
  go_wp2_with (first | (go_at_call 18; (with_reducible refine (hdec_c _ _ (by omega) (by omega) (by omega) (by omega) _).mono ?_); rintro e w' ⟨rfl, r, rfl⟩) | (go_at_call 19; (with_reducible refine (pick_c _ _ (by omega) (by omega) (by omega) (by omega) _).mono ?_); rintro e w' ⟨rfl, rfl⟩))
  obtain ⟨⟨c1, s1⟩, hD1⟩ : ∃ D, decH (300 + nr % 9000) 2 = D := ⟨_, rfl⟩
  obtain ⟨⟨c2, s2⟩, hD2⟩ : ∃ D, decH (1 + na % 299) 2 = D := ⟨_, rfl⟩
  obtain ⟨⟨c3, s3⟩, hD3⟩ : ∃ D, decH (nt % 2000) 3 = D := ⟨_, rfl⟩
  obtain ⟨P1, hP1⟩ : ∃ P, printP ⟨c1, s1⟩ = P := ⟨_, rfl⟩
  obtain ⟨P2, hP2⟩ : ∃ P, printP ⟨c2, s2⟩ = P := ⟨_, rfl⟩
  obtain ⟨P3, hP3⟩ : ∃ P, printP ⟨c3, s3⟩ = P := ⟨_, rfl⟩
  have g1 : P1.length ≤ 13 := hP1 ▸ printP_len14 _
  have g2 : P2.length ≤ 13 := hP2 ▸ printP_len14 _
  have g3 : P3.length ≤ 13 := hP3 ▸ printP_len14 _
  have k1 := print8_c ⟨c1, s1⟩
  have k2 := print8_c ⟨c2, s2⟩
  have k3 := print8_c ⟨c3, s3⟩
  rw [hP1] at k1
  rw [hP2] at k2
  rw [hP3] at k3
  have K1 := Lib.hid k1
  have K2 := Lib.hid k2
  have K3 := Lib.hid k3
  simp only [hD1, hD2, hD3]
  have HD1 := Lib.hid hD1
  have HD2 := Lib.hid hD2
  have HD3 := Lib.hid hD3
  have HP1 := Lib.hid hP1
  have HP2 := Lib.hid hP2
  have HP3 := Lib.hid hP3
  clear k1 k2 k3 hD1 hD2 hD3 hP1 hP2 hP3
  rename_i rA rB K9 a9
  obtain ⟨RR, hRR⟩ : ∃ RR, (rA.plus rB).plus r = RR := ⟨_, rfl⟩
  rw [hRR]
  clear hRR
  have e1 : ¬ 9223372036854775807 < 20 + P1.length := by omega
  have f0 : ¬ 9223372036854775807 < P1.length + 21 := by omega
  have f1 : ¬ 9223372036854775807 < P1.length + 21 + P2.length := by omega
  have f2 : ¬ 9223372036854775807 < P1.length + (21 + P2.length) := by omega
  have f3 : ¬ 9223372036854775807 < P1.length + (P2.length + 21) := by omega
  have f4 : ¬ 9223372036854775807 < 21 + (P1.length + P2.length) := by omega
  have f5 : ¬ 9223372036854775807 < P1.length + (P2.length + 22) := by omega
  have f6 : ¬ 9223372036854775807 < P1.length + (P2.length + (22 + P3.length)) := by omega
  have f7 : ¬ 9223372036854775807 < P1.length + (P2.length + (P3.length + 22)) := by omega
  have f8 : ¬ 9223372036854775807 < P1.length + (P2.length + (P3.length + 23)) := by omega
  have f9 : ¬ 9223372036854775807 < P1.length + (P2.length + (P3.length + (23 + nm.length))) := by omega
  have f10 : ¬ 9223372036854775807 < P1.length + (P2.length + (P3.length + (nm.length + 23))) := by omega
  have f11 : ¬ 9223372036854775807 < P1.length + (P2.length + 1) + 21 := by omega
  have f12 : ¬ 9223372036854775807 < P1.length + (P2.length + (P3.length + 1 + 1)) + 21 := by omega
  have f99 : ¬ 9223372036854775807 < P1.length + (P2.length + (P3.length + 28)) := by omega
  go_cut [15] from 19 (fun u wr => u = .string (bsOf ([108, 101, 110, 115, 32, 97, 45, 98, 95, 49, 32, 55, 46, 53, 10, 102, 97, 99, 101, 32] ++ (P1 ++ ([32] ++ (P2 ++ ([32] ++ (P3 ++ ([32] ++ nm)))))))) ∧ More ((more u1 RR).alloc (.cells #[.bool false, .int .i64 c1, .int .i64 s1, .int .i64 c2, .int .i64 s2, .int .i64 c3, .int .i64 s3, .int .i64 0, .int .i64 0, .int .i64 0, .int .i64 0, .int .i64 0, .int .i64 0, .string (bsOf nm)] 41)) wr)
  case first =>
    have hP1 := HP1.out
    have hP2 := HP2.out
    have hP3 := HP3.out
    go_wp2_with (first | (go_at_call 20; (with_reducible refine (print8_c _ _).mono ?_); rintro e w' ⟨rfl, r, rfl⟩) | (go_at_call 20; (with_reducible refine (print8_c ⟨_, _⟩ _).mono ?_); rintro e w' ⟨rfl, r, rfl⟩) | ((with_reducible show Code.wp _ (Code.region 3 _ true) _ _ _); (with_reducible refine wp_more_quick_m (id := 3) ?_ ?_ ?_); kernel_rfl; kernel_rfl; (try simp only [List.take_succ_cons, List.take_zero, List.drop_succ_cons, List.drop_zero]); (repeat (any_goals (first | go_big_quiet_step ((first | (go_at_call 20; (with_reducible apply quiet_call); with_reducible exact print8_c _ _) | (go_at_call 20; (with_reducible apply quiet_call); with_reducible exact print8_c ⟨_, _⟩ _))) | quiet_step ((first | (go_at_call 20; (with_reducible apply quiet_call); with_reducible exact print8_c _ _) | (go_at_call 20; (with_reducible apply quiet_call); with_reducible exact print8_c ⟨_, _⟩ _)))))); (with_reducible refine wpQuiet_nil ?_); intro r) | ((with_reducible show Code.wp _ (Code.region 3 _ true) _ _ _); (with_reducible refine wp_more_quick (id := 3) ?_ ?_ ?_); kernel_rfl; kernel_rfl; (try simp only [List.take_succ_cons, List.take_zero, List.drop_succ_cons, List.drop_zero]); (repeat (any_goals (first | go_big_quiet_step ((first | (go_at_call 20; (with_reducible apply quiet_call); with_reducible exact print8_c _ _) | (go_at_call 20; (with_reducible apply quiet_call); with_reducible exact print8_c ⟨_, _⟩ _))) | quiet_step ((first | (go_at_call 20; (with_reducible apply quiet_call); with_reducible exact print8_c _ _) | (go_at_call 20; (with_reducible apply quiet_call); with_reducible exact print8_c ⟨_, _⟩ _)))))); (with_reducible refine wpQuiet_nil ?_); intro r) | ((with_reducible show Code.wp _ (Code.region 14 _ true) _ _ _); (with_reducible refine wp_more_quick_m (id := 14) ?_ ?_ ?_); kernel_rfl; kernel_rfl; (try simp only [List.take_succ_cons, List.take_zero, List.drop_succ_cons, List.drop_zero]); (repeat (any_goals (first | go_big_quiet_step ((first | (go_at_call 20; (with_reducible apply quiet_call); with_reducible exact print8_c _ _) | (go_at_call 20; (with_reducible apply quiet_call); with_reducible exact print8_c ⟨_, _⟩ _))) | quiet_step ((first | (go_at_call 20; (with_reducible apply quiet_call); with_reducible exact print8_c _ _) | (go_at_call 20; (with_reducible apply quiet_call); with_reducible exact print8_c ⟨_, _⟩ _)))))); (with_reducible refine wpQuiet_nil ?_); intro r) | ((with_reducible show Code.wp _ (Code.region 14 _ true) _ _ _); (with_reducible refine wp_more_quick (id := 14) ?_ ?_ ?_); kernel_rfl; kernel_rfl; (try simp only [List.take_succ_cons, List.take_zero, List.drop_succ_cons, List.drop_zero]); (repeat (any_goals (first | go_big_quiet_step ((first | (go_at_call 20; (with_reducible apply quiet_call); with_reducible exact print8_c _ _) | (go_at_call 20; (with_reducible apply quiet_call); with_reducible exact print8_c ⟨_, _⟩ _))) | quiet_step ((first | (go_at_call 20; (with_reducible apply quiet_call); with_reducible exact print8_c _ _) | (go_at_call 20; (with_reducible apply quiet_call); with_reducible exact print8_c ⟨_, _⟩ _)))))); (with_reducible refine wpQuiet_nil ?_); intro r))
    all_goals go_wp2_with fail
    all_goals go_meet
    all_goals exact ⟨by simp, (by repeat (first | exact More.refl _ | refine More.alloc ?_ _ | refine More.more ?_ _ | refine More.drew ?_ | refine More.drewN ?_ _))⟩
  case rest =>
    obtain ⟨rfl, s9, rfl⟩ := hcut
    obtain ⟨T0, hT0⟩ : ∃ T0, [108, 101, 110, 115, 32, 97, 45, 98, 95, 49, 32, 55, 46, 53, 10, 102, 97, 99, 101, 32] ++ (P1 ++ ([32] ++ (P2 ++ ([32] ++ (P3 ++ ([32] ++ nm)))))) = T0 := ⟨_, rfl⟩
    have l0 : T0.length ≤ 67 := by
      rw [← hT0]
      simp only [List.length_append, List.length_cons, List.length_nil]
      omega
    rw [hT0]
    have HT0 := Lib.hid hT0
    clear hT0 f0 f1 f2 f3 f4 f5 f6 f7 f8 f9 f10 f11 f12 f99 e1 K1 K2 K3
    obtain ⟨m4, m4'⟩ := mod_bd nk (show (0 : Int) < 50 by omega)
    obtain ⟨⟨c4, s4⟩, hD4⟩ : ∃ D, (if nk.tmod 2 = 0 then decH (-1 - nk % 50) 2 else D0) = D := ⟨_, rfl⟩
    obtain ⟨A4, hA4⟩ : ∃ A, (if nk.tmod 2 = 0 then [32, 99, 111, 110, 105, 99, 32] ++ printP ⟨c4, s4⟩ else []) = A := ⟨_, rfl⟩
    have g4 := printP_len14 ⟨c4, s4⟩
    have a4 : A4.length ≤ 20 := by
      rw [← hA4]
      split
      · simp only [List.length_append, List.length_cons, List.length_nil]
        omega
      · simp
    have HD4 := Lib.hid hD4
    have HA4 := Lib.hid hA4
    clear hD4 hA4
    go_upto_if 58 with (fail)
    go_cut [15] from 19 (fun u wr => u = .string (bsOf (T0 ++ A4)) ∧ More ((more u1 RR).alloc (.cells #[.bool false, .int .i64 c1, .int .i64 s1, .int .i64 c2, .int .i64 s2, .int .i64 c3, .int .i64 s3, .int .i64 c4, .int .i64 s4, .int .i64 0, .int .i64 0, .int .i64 0, .int .i64 0, .string (bsOf nm)] 41)) wr)
    case first =>
      by_cases hk : nk.tmod 2 = 0
      · have h4 := HD4.out
        have h5 := HA4.out
        rw [if_pos hk] at h4 h5
        have hq : (nk.tmod 2 == 0) = true := by simpa using hk
        have HK := Lib.hid hk
        have H5 := Lib.hid h5
        clear hk h5
        go_wp2_with (first | (first | (go_at_call 18; (with_reducible refine (hdec_c _ _ (by omega) (by omega) (by omega) (by omega) _).mono ?_); rintro e w' ⟨rfl, r, rfl⟩) | (go_at_call 19; (with_reducible refine (pick_c _ _ (by omega) (by omega) (by omega) (by omega) _).mono ?_); rintro e w' ⟨rfl, rfl⟩) | (go_at_call 20; (with_reducible refine (print8_c _ _).mono ?_); rintro e w' ⟨rfl, r, rfl⟩) | (go_at_call 20; (with_reducible refine (print8_c ⟨_, _⟩ _).mono ?_); rintro e w' ⟨rfl, r, rfl⟩)))
        go_meet
        exact ⟨by rw [← H5.out]; rfl, (by repeat (first | exact More.refl _ | refine More.alloc ?_ _ | refine More.more ?_ _ | refine More.drew ?_ | refine More.drewN ?_ _))⟩
      · have h4 := HD4.out
        have h5 := HA4.out
        rw [if_neg hk] at h4 h5
        have hq : (nk.tmod 2 == 0) = false := by simpa using hk
        obtain ⟨rfl, rfl⟩ : 0 = c4 ∧ 0 = s4 := by
          have h6 := congrArg Dec.c h4
          have h7 := congrArg Dec.s h4
          exact ⟨h6, h7⟩
        subst h5
        clear hk h4
        go_wp2_with fail
        go_meet
        exact ⟨by rw [List.append_nil], (by repeat (first | exact More.refl _ | refine More.alloc ?_ _ | refine More.more ?_ _ | refine More.drew ?_ | refine More.drewN ?_ _))⟩
    case rest =>
      obtain ⟨rfl, s13, rfl⟩ := hcut
      obtain ⟨T1, hT1⟩ : ∃ T, T0 ++ A4 = T := ⟨_, rfl⟩
      have l1 : T1.length ≤ 87 := by
        rw [← hT1, List.length_append]
        omega
      rw [hT1]
      have HT1 := Lib.hid hT1
      clear hT1
      obtain ⟨m5, m5'⟩ := mod_bd np (show (0 : Int) < 500 by omega)
      obtain ⟨⟨c5, s5⟩, hD5⟩ : ∃ D, (if np.tmod 2 = 0 then decH (1 + np % 500) 6 else D0) = D := ⟨_, rfl⟩
      obtain ⟨A5, hA5⟩ : ∃ A, (if np.tmod 2 = 0 then [32, 97, 52, 32] ++ printP ⟨c5, s5⟩ else []) = A := ⟨_, rfl⟩
      have g5 := printP_len14 ⟨c5, s5⟩
      have a5 : A5.length ≤ 20 := by
        rw [← hA5]
        split
        · simp only [List.length_append, List.length_cons, List.length_nil]
          omega
        · simp
      have HD5 := Lib.hid hD5
      have HA5 := Lib.hid hA5
      clear hD5 hA5
      go_upto_if 72 with (fail)
      go_cut [15] from 19 (fun u wr => u = .string (bsOf (T1 ++ A5)) ∧ More ((more u1 RR).alloc (.cells #[.bool false, .int .i64 c1, .int .i64 s1, .int .i64 c2, .int .i64 s2, .int .i64 c3, .int .i64 s3, .int .i64 c4, .int .i64 s4, .int .i64 c5, .int .i64 s5, .int .i64 0, .int .i64 0, .string (bsOf nm)] 41)) wr)
      case first =>
        by_cases hk : np.tmod 2 = 0
        · have h4 := HD5.out
          have h5 := HA5.out
          rw [if_pos hk] at h4 h5
          have hq : (np.tmod 2 == 0) = true := by simpa using hk
          have HK := Lib.hid hk
          have H5 := Lib.hid h5
          clear hk h5
          go_wp2_with (first | (first | (go_at_call 18; (with_reducible refine (hdec_c _ _ (by omega) (by omega) (by omega) (by omega) _).mono ?_); rintro e w' ⟨rfl, r, rfl⟩) | (go_at_call 19; (with_reducible refine (pick_c _ _ (by omega) (by omega) (by omega) (by omega) _).mono ?_); rintro e w' ⟨rfl, rfl⟩) | (go_at_call 20; (with_reducible refine (print8_c _ _).mono ?_); rintro e w' ⟨rfl, r, rfl⟩) | (go_at_call 20; (with_reducible refine (print8_c ⟨_, _⟩ _).mono ?_); rintro e w' ⟨rfl, r, rfl⟩)))
          go_meet
          exact ⟨by rw [← H5.out]; rfl, (by repeat (first | exact More.refl _ | refine More.alloc ?_ _ | refine More.more ?_ _ | refine More.drew ?_ | refine More.drewN ?_ _))⟩
        · have h4 := HD5.out
          have h5 := HA5.out
          rw [if_neg hk] at h4 h5
          have hq : (np.tmod 2 == 0) = false := by simpa using hk
          obtain ⟨rfl, rfl⟩ : 0 = c5 ∧ 0 = s5 := by
            have h6 := congrArg Dec.c h4
            have h7 := congrArg Dec.s h4
            exact ⟨h6, h7⟩
          subst h5
          clear hk h4
          go_wp2_with fail
          go_meet
          exact ⟨by rw [List.append_nil], (by repeat (first | exact More.refl _ | refine More.alloc ?_ _ | refine More.more ?_ _ | refine More.drew ?_ | refine More.drewN ?_ _))⟩
      case rest =>
        obtain ⟨rfl, s14, rfl⟩ := hcut
        obtain ⟨T2, hT2⟩ : ∃ T, T1 ++ A5 = T := ⟨_, rfl⟩
        have l2 : T2.length ≤ 107 := by
          rw [← hT2, List.length_append]
          omega
        rw [hT2]
        have HT2 := Lib.hid hT2
        clear hT2
        obtain ⟨m6, m6'⟩ := mod_bd nq (show (0 : Int) < 500 by omega)
        obtain ⟨⟨c6, s6⟩, hD6⟩ : ∃ D, (if nq.tmod 2 = 0 then decH (-1 - nq % 500) 1 else D0) = D := ⟨_, rfl⟩
        obtain ⟨A6, hA6⟩ : ∃ A, (if nq.tmod 2 = 0 then [32, 97, 54, 32] ++ printP ⟨c6, s6⟩ else []) = A := ⟨_, rfl⟩
        have g6 := printP_len14 ⟨c6, s6⟩
        have a6 : A6.length ≤ 20 := by
          rw [← hA6]
          split
          · simp only [List.length_append, List.length_cons, List.length_nil]
            omega
          · simp
        have HD6 := Lib.hid hD6
        have HA6 := Lib.hid hA6
        clear hD6 hA6
        go_upto_if 86 with (fail)
        go_cut [15] from 19 (fun u wr => u = .string (bsOf (T2 ++ A6)) ∧ More ((more u1 RR).alloc (.cells #[.bool false, .int .i64 c1, .int .i64 s1, .int .i64 c2, .int .i64 s2, .int .i64 c3, .int .i64 s3, .int .i64 c4, .int .i64 s4, .int .i64 c5, .int .i64 s5, .int .i64 c6, .int .i64 s6, .string (bsOf nm)] 41)) wr)
        case first =>
          by_cases hk : nq.tmod 2 = 0
          · have h4 := HD6.out
            have h5 := HA6.out
            rw [if_pos hk] at h4 h5
            have hq : (nq.tmod 2 == 0) = true := by simpa using hk
            have HK := Lib.hid hk
            have H5 := Lib.hid h5
            clear hk h5
            go_wp2_with (first | (first | (go_at_call 18; (with_reducible refine (hdec_c _ _ (by omega) (by omega) (by omega) (by omega) _).mono ?_); rintro e w' ⟨rfl, r, rfl⟩) | (go_at_call 19; (with_reducible refine (pick_c _ _ (by omega) (by omega) (by omega) (by omega) _).mono ?_); rintro e w' ⟨rfl, rfl⟩) | (go_at_call 20; (with_reducible refine (print8_c _ _).mono ?_); rintro e w' ⟨rfl, r, rfl⟩) | (go_at_call 20; (with_reducible refine (print8_c ⟨_, _⟩ _).mono ?_); rintro e w' ⟨rfl, r, rfl⟩)))
            go_meet
            exact ⟨by rw [← H5.out]; rfl, (by repeat (first | exact More.refl _ | refine More.alloc ?_ _ | refine More.more ?_ _ | refine More.drew ?_ | refine More.drewN ?_ _))⟩
          · have h4 := HD6.out
            have h5 := HA6.out
            rw [if_neg hk] at h4 h5
            have hq : (nq.tmod 2 == 0) = false := by simpa using hk
            obtain ⟨rfl, rfl⟩ : 0 = c6 ∧ 0 = s6 := by
              have h6 := congrArg Dec.c h4
              have h7 := congrArg Dec.s h4
              exact ⟨h6, h7⟩
            subst h5
            clear hk h4
            go_wp2_with fail
            go_meet
            exact ⟨by rw [List.append_nil], (by repeat (first | exact More.refl _ | refine More.alloc ?_ _ | refine More.more ?_ _ | refine More.drew ?_ | refine More.drewN ?_ _))⟩
        case rest =>
          obtain ⟨rfl, s15, rfl⟩ := hcut
          obtain ⟨T3, hT3⟩ : ∃ T, T2 ++ A6 = T := ⟨_, rfl⟩
          have l3 : T3.length ≤ 127 := by
            rw [← hT3, List.length_append]
            omega
          rw [hT3]
          have HT3 := Lib.hid hT3
          clear hT3
          have hread : readLn ((glassesG []).map Gl.name) T3 = .ok ⟨wordsN, ⟨75, 1⟩, [⟨false, ⟨c1, s1⟩, ⟨c2, s2⟩, ⟨c3, s3⟩, ⟨c4, s4⟩, ⟨c5, s5⟩, ⟨c6, s6⟩, nm⟩]⟩ := words_read HD1.out HD2.out HD3.out HD4.out HD5.out HD6.out HNM.out HP1.out HP2.out HP3.out HT0.out HA4.out HT1.out HA5.out HT2.out HA6.out HT3.out (by omega)
          have HREAD := Lib.hid hread
          have HTAB := Lib.hid ht
          clear hread ht
          go_wp2_with fail
          go_at_call 12
          refine Calls.mono (wordsRead_c T3 ⟨false, ⟨c1, s1⟩, ⟨c2, s2⟩, ⟨c3, s3⟩, ⟨c4, s4⟩, ⟨c5, s5⟩, ⟨c6, s6⟩, nm⟩ _ _ (by omega) (HG.out.up (by repeat (first | exact More.refl _ | refine More.alloc ?_ _ | refine More.more ?_ _ | refine More.drew ?_ | refine More.drewN ?_ _))) HREAD.out) ?_
          rintro e w' ⟨b, o, lc, rfl, hm1, hb, hF⟩
          obtain ⟨r1, rfl⟩ : More ((more u1 RR).alloc (.cells #[.bool false, .int .i64 c1, .int .i64 s1, .int .i64 c2, .int .i64 s2, .int .i64 c3, .int .i64 s3, .int .i64 c4, .int .i64 s4, .int .i64 c5, .int .i64 s5, .int .i64 c6, .int .i64 s6, .string (bsOf nm)] 41)) w' := More.trans (by repeat (first | exact More.refl _ | refine More.alloc ?_ _ | refine More.more ?_ _ | refine More.drew ?_ | refine More.drewN ?_ _)) hm1
          clear hm1
          obtain ⟨b0, o0, e0, hb0, hL0, -⟩ := fcs_at (k := 0) (f := ⟨false, ⟨c1, s1⟩, ⟨c2, s2⟩, ⟨c3, s3⟩, ⟨c4, s4⟩, ⟨c5, s5⟩, ⟨c6, s6⟩, nm⟩) hF rfl
          cases e0
          have l0 : ∀ W', More (more ((more u1 RR).alloc (.cells #[.bool false, .int .i64 c1, .int .i64 s1, .int .i64 c2, .int .i64 s2, .int .i64 c3, .int .i64 s3, .int .i64 c4, .int .i64 s4, .int .i64 c5, .int .i64 s5, .int .i64 c6, .int .i64 s6, .string (bsOf nm)] 41)) r1) W' → (loadWhole 41 ⟨b, o, none⟩).run Tryz.prog W' = .ok (.agg #[.bool false, .int .i64 c1, .int .i64 s1, .int .i64 c2, .int .i64 s2, .int .i64 c3, .int .i64 s3, .int .i64 c4, .int .i64 s4, .int .i64 c5, .int .i64 s5, .int .i64 c6, .int .i64 s6, .string (bsOf nm)]) W' := by
            rintro W' ⟨r, rfl⟩
            have := hL0 r
            simp only [Nat.zero_mul, Nat.add_zero] at this
            exact this
          have E1 := eql_fc false (bsOf nm) c1 s1 c2 s2 c3 s3 c4 s4 c5 s5 c6 s6
          have E2 := eql_dec 75 1
          have e0 : ∀ w, (binOp .eql 33 (.complex .f64 0 0) (.complex .f64 0 0)).run Tryz.prog w = .ok (.bool true) w := fun w => by kernel_rfl
          have L0 := Lib.hid l0
          clear l0 hL0 hF
          go_upto_region 14 with fail
          have m0 : ∀ Q : Rest, (loadWhole 41 ⟨b, o, none⟩).run Tryz.prog (more ((more ((more u1 RR).alloc (.cells #[.bool false, .int .i64 c1, .int .i64 s1, .int .i64 c2, .int .i64 s2, .int .i64 c3, .int .i64 s3, .int .i64 c4, .int .i64 s4, .int .i64 c5, .int .i64 s5, .int .i64 c6, .int .i64 s6, .string (bsOf nm)] 41)) r1).alloc (.cells #[.string ⟨#[97, 45, 98, 95, 49]⟩, .int .i64 75, .int .i64 1, .slice (some ⟨b, o, none⟩) 1 lc] 30)) Q) = .ok (.agg #[.bool false, .int .i64 c1, .int .i64 s1, .int .i64 c2, .int .i64 s2, .int .i64 c3, .int .i64 s3, .int .i64 c4, .int .i64 s4, .int .i64 c5, .int .i64 s5, .int .i64 c6, .int .i64 s6, .string (bsOf nm)]) (more ((more ((more u1 RR).alloc (.cells #[.bool false, .int .i64 c1, .int .i64 s1, .int .i64 c2, .int .i64 s2, .int .i64 c3, .int .i64 s3, .int .i64 c4, .int .i64 s4, .int .i64 c5, .int .i64 s5, .int .i64 c6, .int .i64 s6, .string (bsOf nm)] 41)) r1).alloc (.cells #[.string ⟨#[97, 45, 98, 95, 49]⟩, .int .i64 75, .int .i64 1, .slice (some ⟨b, o, none⟩) 1 lc] 30)) Q) := fun Q => L0.out _ (by repeat (first | exact More.refl _ | refine More.alloc ?_ _ | refine More.more ?_ _ | refine More.drew ?_ | refine More.drewN ?_ _))
          have htab : Tab ((more ((more u1 RR).alloc (.cells #[.bool false, .int .i64 c1, .int .i64 s1, .int .i64 c2, .int .i64 s2, .int .i64 c3, .int .i64 s3, .int .i64 c4, .int .i64 s4, .int .i64 c5, .int .i64 s5, .int .i64 c6, .int .i64 s6, .string (bsOf nm)] 41)) r1).alloc (.cells #[.string ⟨#[97, 45, 98, 95, 49]⟩, .int .i64 75, .int .i64 1, .slice (some ⟨b, o, none⟩) 1 lc] 30)) := Tab.up (HM1.out.trans (by repeat (first | exact More.refl _ | refine More.alloc ?_ _ | refine More.more ?_ _ | refine More.drew ?_ | refine More.drewN ?_ _))) HTAB.out
          go_wp2_with (first | (go_at_call 13; (with_reducible refine Calls.mono (known12_c _ (by (repeat (first | assumption | with_reducible apply Tab.more | with_reducible apply Tab.alloc | with_reducible apply Tab.drew | with_reducible apply Tab.drewN)))) ?_); rintro e w' ⟨rfl, r, rfl⟩) | ((with_reducible show Code.wp _ (Code.region 3 _ true) _ _ _); (with_reducible refine wp_more_quick_m (id := 3) ?_ ?_ ?_); kernel_rfl; kernel_rfl; (try simp only [List.take_succ_cons, List.take_zero, List.drop_succ_cons, List.drop_zero]); (repeat (any_goals (first | go_big_quiet_step ((first | (go_at_call 13; (with_reducible apply quiet_call); with_reducible exact known12_c _ (by (repeat (first | assumption | with_reducible apply Tab.more | with_reducible apply Tab.alloc | with_reducible apply Tab.drew | with_reducible apply Tab.drewN)))))) | quiet_step ((first | (go_at_call 13; (with_reducible apply quiet_call); with_reducible exact known12_c _ (by (repeat (first | assumption | with_reducible apply Tab.more | with_reducible apply Tab.alloc | with_reducible apply Tab.drew | with_reducible apply Tab.drewN))))))))); (with_reducible refine wpQuiet_nil ?_); intro r) | ((with_reducible show Code.wp _ (Code.region 3 _ true) _ _ _); (with_reducible refine wp_more_quick (id := 3) ?_ ?_ ?_); kernel_rfl; kernel_rfl; (try simp only [List.take_succ_cons, List.take_zero, List.drop_succ_cons, List.drop_zero]); (repeat (any_goals (first | go_big_quiet_step ((first | (go_at_call 13; (with_reducible apply quiet_call); with_reducible exact known12_c _ (by (repeat (first | assumption | with_reducible apply Tab.more | with_reducible apply Tab.alloc | with_reducible apply Tab.drew | with_reducible apply Tab.drewN)))))) | quiet_step ((first | (go_at_call 13; (with_reducible apply quiet_call); with_reducible exact known12_c _ (by (repeat (first | assumption | with_reducible apply Tab.more | with_reducible apply Tab.alloc | with_reducible apply Tab.drew | with_reducible apply Tab.drewN))))))))); (with_reducible refine wpQuiet_nil ?_); intro r) | ((with_reducible show Code.wp _ (Code.region 14 _ true) _ _ _); (with_reducible refine wp_more_quick_m (id := 14) ?_ ?_ ?_); kernel_rfl; kernel_rfl; (try simp only [List.take_succ_cons, List.take_zero, List.drop_succ_cons, List.drop_zero]); (repeat (any_goals (first | go_big_quiet_step ((first | (go_at_call 13; (with_reducible apply quiet_call); with_reducible exact known12_c _ (by (repeat (first | assumption | with_reducible apply Tab.more | with_reducible apply Tab.alloc | with_reducible apply Tab.drew | with_reducible apply Tab.drewN)))))) | quiet_step ((first | (go_at_call 13; (with_reducible apply quiet_call); with_reducible exact known12_c _ (by (repeat (first | assumption | with_reducible apply Tab.more | with_reducible apply Tab.alloc | with_reducible apply Tab.drew | with_reducible apply Tab.drewN))))))))); (with_reducible refine wpQuiet_nil ?_); intro r) | ((with_reducible show Code.wp _ (Code.region 14 _ true) _ _ _); (with_reducible refine wp_more_quick (id := 14) ?_ ?_ ?_); kernel_rfl; kernel_rfl; (try simp only [List.take_succ_cons, List.take_zero, List.drop_succ_cons, List.drop_zero]); (repeat (any_goals (first | go_big_quiet_step ((first | (go_at_call 13; (with_reducible apply quiet_call); with_reducible exact known12_c _ (by (repeat (first | assumption | with_reducible apply Tab.more | with_reducible apply Tab.alloc | with_reducible apply Tab.drew | with_reducible apply Tab.drewN)))))) | quiet_step ((first | (go_at_call 13; (with_reducible apply quiet_call); with_reducible exact known12_c _ (by (repeat (first | assumption | with_reducible apply Tab.more | with_reducible apply Tab.alloc | with_reducible apply Tab.drew | with_reducible apply Tab.drewN))))))))); (with_reducible refine wpQuiet_nil ?_); intro r))
          go_returns
          exact ⟨rfl, HM1.out.trans (by repeat (first | exact More.refl _ | refine More.alloc ?_ _ | refine More.more ?_ _ | refine More.drew ?_ | refine More.drewN ?_ _))⟩

end Go.Proofs.YtgikjbmaahblpaaGreatDoor

