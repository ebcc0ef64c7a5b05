/-
  PolyEncloses: of whole numbers in the intervals the exact sum of powers lies in the answer; of less in less. No condition.
-/
import Derived.Test.YtgkkfmjlgmoefaaRows
import Derived.Test.YtgkkfmjlgmoefaaLaw4
import Derived.Test.YtgkkfmjlgmoefaaPolyMath
import Derived.Test.YtgkkfmjlgmoefaaInts
import Derived.WalkKit
import Derived.ProofKit
import Derived.OpenShut
namespace Go.Proofs.Ytgkkfmjlgmoefaa.polyEncloses
open Go.ChangeShapes Go.WideShapes Go.ChangeAt Go.RowKit
set_option linter.unusedVariables false      -- a walk need not use every premise

theorem own : ownKnob Try.prog.godebug = none := by kernel_rfl
theorem laidOut : laidOutB Try.prog = true := by kernel_rfl

set_option maxRecDepth 100000 in
set_option maxHeartbeats 16000000 in
theorem walk (w : World) (s0 : Value) (l0 : List Int) (i0 : Ints w s0 l0) (k0 : ∀ n ∈ l0, -9223372036854775808 ≤ n ∧ n ≤ 9223372036854775807) (m0 : l0.length ≤ 9223372036854775807) (a1 : Int) (w1 : (Lit.int .i64 a1).wf = true) (a2 : Int) (w2 : (Lit.int .i64 a2).wf = true) (a3 : Int) (w3 : (Lit.int .i64 a3).wf = true) :
    Calls Try.prog 4 #[s0, .int .i64 a1, .int .i64 a2, .int .i64 a3] w fun e w' => e = .returned (.bool true) ∧ More w w' := by
  have b1 := bounds_i64 w1
  have b2 := bounds_i64 w2
  have b3 := bounds_i64 w3
  clear w1 w2 w3
  obtain ⟨e0, he, hz0, hz1, hz2⟩ := info_parts info_iv
  obtain ⟨ao, c, rfl, hcell⟩ := ints_form i0
  clear i0
  have HC := Lib.hid hcell
  have HK := Lib.hid k0
  clear hcell k0
  have p1 := Int.emod_nonneg a1 (show (13 : Int) ≠ 0 by omega)
  have q1 := Int.emod_lt_of_pos a1 (show (0 : Int) < 13 by omega)
  have p3 := Int.emod_nonneg a3 (show (9 : Int) ≠ 0 by omega)
  have q3 := Int.emod_lt_of_pos a3 (show (0 : Int) < 9 by omega)
  obtain ⟨x, hx⟩ : ∃ a, a1 % 13 - 6 = a := ⟨_, rfl⟩
  obtain ⟨l7, l8⟩ : -6 ≤ x ∧ x ≤ 6 := by omega
  clear p1 q1
  go_enter Try.func4, Try.ntmps4
  go_wp2_with (first | (go_at_call 12; (with_reducible refine (whole_c _ _).mono ?_); rintro e w' ⟨rfl, r, rfl⟩) | (go_at_call 13; (with_reducible refine (known4_c _).mono ?_); rintro e w' ⟨rfl, r, rfl⟩) | (go_at_call 14; (with_reducible refine (horner_c _ _ _ (by (repeat (first | assumption | with_reducible apply Row.nil | with_reducible apply Row.plus | with_reducible apply Row.more | with_reducible apply Row.drew | with_reducible apply Row.drewN | (apply row_lit1 <;> first | rfl | (simp; done) | (simp; omega)) | (apply row_num1 <;> first | rfl | (simp; done) | (simp; omega)) | (apply row_lit2 <;> first | rfl | (simp; done) | (simp; omega)) | (apply row_num2 <;> first | rfl | (simp; done) | (simp; omega)) | (apply row_lit3 <;> first | rfl | (simp; done) | (simp; omega)) | (apply row_num3 <;> first | rfl | (simp; done) | (simp; omega)) | with_reducible apply Row.alloc))) (by (first | omega | decide | (simp; done) | (simp; omega)))).mono ?_); rintro e w' ⟨rfl, r, rfl⟩) | (go_at_call 14; (with_reducible refine (horner_c _ _ ⟨_, _, _⟩ (by (repeat (first | assumption | with_reducible apply Row.nil | with_reducible apply Row.plus | with_reducible apply Row.more | with_reducible apply Row.drew | with_reducible apply Row.drewN | (apply row_lit1 <;> first | rfl | (simp; done) | (simp; omega)) | (apply row_num1 <;> first | rfl | (simp; done) | (simp; omega)) | (apply row_lit2 <;> first | rfl | (simp; done) | (simp; omega)) | (apply row_num2 <;> first | rfl | (simp; done) | (simp; omega)) | (apply row_lit3 <;> first | rfl | (simp; done) | (simp; omega)) | (apply row_num3 <;> first | rfl | (simp; done) | (simp; omega)) | with_reducible apply Row.alloc))) (by (first | omega | decide | (simp; done) | (simp; omega)))).mono ?_); rintro e w' ⟨rfl, r, rfl⟩) | (go_at_call 17; (with_reducible refine (pick_c _ _ (by omega) (by omega) (by omega) (by omega) _).mono ?_); rintro e w' ⟨rfl, rfl⟩) | (go_at_call 18; (with_reducible refine (hwide_c _ _ (by omega) (by omega) _).mono ?_); rintro e w' ⟨rfl, r, rfl⟩) | (go_at_call 19; (with_reducible refine (has_c _ _ _).mono ?_); rintro e w' ⟨rfl, r, rfl⟩) | (go_at_call 19; (with_reducible refine (has_c ⟨_, _, _⟩ _ _).mono ?_); rintro e w' ⟨rfl, r, rfl⟩) | (go_at_call 20; (with_reducible refine (right_c _ _).mono ?_); rintro e w' ⟨rfl, r, rfl⟩) | (go_at_call 20; (with_reducible refine (right_c ⟨_, _, _⟩ _).mono ?_); rintro e w' ⟨rfl, r, rfl⟩) | (go_at_call 21; (with_reducible refine (inside_c _ _ _).mono ?_); rintro e w' ⟨rfl, r, rfl⟩) | (go_at_call 21; (with_reducible refine (inside_c _ ⟨_, _, _⟩ _).mono ?_); rintro e w' ⟨rfl, r, rfl⟩) | (go_at_call 21; (with_reducible refine (inside_c ⟨_, _, _⟩ _ _).mono ?_); rintro e w' ⟨rfl, r, rfl⟩) | (go_at_call 21; (with_reducible refine (inside_c ⟨_, _, _⟩ ⟨_, _, _⟩ _).mono ?_); rintro e w' ⟨rfl, r, rfl⟩))
  go_loopw [9, 10, 11, 12, 13] (fun vc vd sm pw i wr => ∃ n : Nat, n ≤ 5 ∧ n ≤ l0.length ∧ i = .int .i64 n ∧ sm = .int .i64 (peval (ksTo l0 n) x) ∧ pw = .int .i64 (ppow x n) ∧ wr.ownsRow w.heap.size 25 3 vc n (cellsL (csTo l0 a2 n)) ∧ wr.ownsRow w.heap.size 25 3 vd n (cellsL (dsTo l0 n)) ∧ Off2 vd vc ∧ Below w.heap.size w wr) (fun _ _ _ _ i _ => 5 - (intOf i).toNat)
  case atStart => exact ⟨0, by omega, by omega, rfl, rfl, rfl, World.ownsRow_nil _ _ _ _, World.ownsRow_nil _ _ _ _, .inl rfl, Below.refl _ _⟩
  case round =>
    obtain ⟨n, hn5, hnl, rfl, rfl, rfl, hoc, hod, hoff, hbl⟩ := hrel
    have hsz := hbl.size
    by_cases hn : n < l0.length ∧ n < 5
    · obtain ⟨hn1, hn2⟩ := hn
      obtain ⟨b, o, rfl, hcl⟩ := HC.out (by omega)
      obtain ⟨hb, f1⟩ := hcl n hn1
      clear hcl
      rw [← hbl.cell (p := ⟨b, _, none⟩) hb] at f1
      have hbnd := HK.out (l0.getD n 0) (by simp [List.getD, hn1])
      have hk := kAt_bd l0 n
      have ek : l0.getD n 0 % 21 - 10 = kAt l0 n := rfl
      have es := peval_snoc x (kAt l0 n) (ksTo l0 n)
      rw [← ksTo_succ, ksTo_length] at es
      have ep : ppow x (n + 1) = ppow x n * x := rfl
      have ec := csTo_succ l0 a2 n
      have ed := dsTo_succ l0 n
      have bs := peval_small ⟨l7, l8⟩ (ksTo l0 n) (by rw [ksTo_length]; omega) (ksTo_bd l0 n)
      have bp := ppow_bd ⟨l7, l8⟩ (n := n) (by omega)
      obtain ⟨k, hkk⟩ : ∃ k, kAt l0 n = k := ⟨_, rfl⟩
      obtain ⟨s, hs⟩ : ∃ k, peval (ksTo l0 n) x = k := ⟨_, rfl⟩
      obtain ⟨pw, hpw⟩ : ∃ k, ppow x n = k := ⟨_, rfl⟩
      obtain ⟨y, hy⟩ : ∃ k, l0.getD n 0 = k := ⟨_, rfl⟩
      rw [hkk] at hk ek es ec ed
      rw [hs] at es bs
      rw [hpw] at es ep bp
      rw [hy] at f1 hbnd ek
      rw [hs, hpw]
      have m1 := mul_bd (A := 10) (B := 1296) hk bp
      have m2 := mul_bd (A := 1296) (B := 6) bp ⟨l7, l8⟩
      obtain ⟨y1, y2⟩ := hbnd
      obtain ⟨k1, k2⟩ := hk
      obtain ⟨s1, s2⟩ := bs
      obtain ⟨r1, r2⟩ := bp
      obtain ⟨m3, m4⟩ := m1
      obtain ⟨m5, m6⟩ := m2
      obtain ⟨t1, t2⟩ := tdiv_bd a2 ((n : Int) + 1) b2.1 b2.2 (by omega)
      have t3 := Int.emod_nonneg (a2.tdiv ((n : Int) + 1)) (show (50 : Int) ≠ 0 by omega)
      have t4 := Int.emod_lt_of_pos (a2.tdiv ((n : Int) + 1)) (show (0 : Int) < 50 by omega)
      clear hkk hs hpw hy
      have HES := Lib.hid es
      have HEP := Lib.hid ep
      have HEC := Lib.hid ec
      have HED := Lib.hid ed
      have HB := Lib.hid hbl
      have HOC := Lib.hid hoc
      have HOD := Lib.hid hod
      have HOF := Lib.hid hoff
      clear es ep ec ed hbl hoc hod hoff
      go_wp2_with (first | (at_builtin; refine wpList_append_row _ rfl (.tmp 45) (.tmp 55) 22 rfl w.heap.size 25 e0 _ 3 24 und_ivs he hz0 hz1 hz2 rfl (by decide) _ n _ rfl (owns_alloc (owns_more HOC.out)) ⟨_, 0, none⟩ 1 1 (cells1 (hWide (k * 65536 - a2.tdiv ((n : Int) + 1) % 50) 100)) rfl rfl (new_cells _ (by simp)) (cells1_one _) (by decide) (by simp only [maxLen]; omega) (by omega) (by simp; omega) ?_; intro vc2 w2 hoc2 hgr2 hbk2; have HOD2 := Lib.hid ((owns_alloc (owns_more HOD.out)).kept hgr2 HOF.out); have HOF2 := Lib.hid (Off2.step HOF.out (owns_alloc (owns_more HOD.out)) hbk2); have hbl2 := ((below_more HB.out _ (by omega)).alloc (by simp; omega) _).grown hgr2 (by simp; omega) (fun g hg => (HOC.out.lt g hg).1); have hsz2 := hbl2.size; have HB2 := Lib.hid hbl2; have HOC2 := Lib.hid hoc2; clear hoc2 hgr2 hbk2 hbl2) | (at_builtin; refine wpList_append_row _ rfl (.tmp 57) (.tmp 60) 22 rfl w.heap.size 25 e0 _ 3 24 und_ivs he hz0 hz1 hz2 rfl (by decide) _ n _ rfl (owns_alloc (owns_more HOD2.out)) ⟨_, 0, none⟩ 1 1 (cells1 (ivWhole k)) rfl rfl (new_cells _ (by simp)) (cells1_one _) (by decide) (by simp only [maxLen]; omega) (by omega) (by simp; omega) ?_; intro vd3 w3 hod3 hgr3 hbk3; have HOC3 := Lib.hid ((owns_alloc (owns_more HOC2.out)).kept hgr3 HOF2.out.symm); have HOF3 := Lib.hid (Off2.step HOF2.out.symm (owns_alloc (owns_more HOC2.out)) hbk3).symm; have HB3 := Lib.hid (((below_more HB2.out _ (by omega)).alloc (by simp; omega) _).grown hgr3 (by simp; omega) (fun g hg => (HOD2.out.lt g hg).1)); have HOD3 := Lib.hid hod3; clear hod3 hgr3 hbk3) | (first | (go_at_call 12; (with_reducible refine (whole_c _ _).mono ?_); rintro e w' ⟨rfl, r, rfl⟩) | (go_at_call 13; (with_reducible refine (known4_c _).mono ?_); rintro e w' ⟨rfl, r, rfl⟩) | (go_at_call 14; (with_reducible refine (horner_c _ _ _ (by (repeat (first | assumption | with_reducible apply Row.nil | with_reducible apply Row.plus | with_reducible apply Row.more | with_reducible apply Row.drew | with_reducible apply Row.drewN | (apply row_lit1 <;> first | rfl | (simp; done) | (simp; omega)) | (apply row_num1 <;> first | rfl | (simp; done) | (simp; omega)) | (apply row_lit2 <;> first | rfl | (simp; done) | (simp; omega)) | (apply row_num2 <;> first | rfl | (simp; done) | (simp; omega)) | (apply row_lit3 <;> first | rfl | (simp; done) | (simp; omega)) | (apply row_num3 <;> first | rfl | (simp; done) | (simp; omega)) | with_reducible apply Row.alloc))) (by (first | omega | decide | (simp; done) | (simp; omega)))).mono ?_); rintro e w' ⟨rfl, r, rfl⟩) | (go_at_call 14; (with_reducible refine (horner_c _ _ ⟨_, _, _⟩ (by (repeat (first | assumption | with_reducible apply Row.nil | with_reducible apply Row.plus | with_reducible apply Row.more | with_reducible apply Row.drew | with_reducible apply Row.drewN | (apply row_lit1 <;> first | rfl | (simp; done) | (simp; omega)) | (apply row_num1 <;> first | rfl | (simp; done) | (simp; omega)) | (apply row_lit2 <;> first | rfl | (simp; done) | (simp; omega)) | (apply row_num2 <;> first | rfl | (simp; done) | (simp; omega)) | (apply row_lit3 <;> first | rfl | (simp; done) | (simp; omega)) | (apply row_num3 <;> first | rfl | (simp; done) | (simp; omega)) | with_reducible apply Row.alloc))) (by (first | omega | decide | (simp; done) | (simp; omega)))).mono ?_); rintro e w' ⟨rfl, r, rfl⟩) | (go_at_call 17; (with_reducible refine (pick_c _ _ (by omega) (by omega) (by omega) (by omega) _).mono ?_); rintro e w' ⟨rfl, rfl⟩) | (go_at_call 18; (with_reducible refine (hwide_c _ _ (by omega) (by omega) _).mono ?_); rintro e w' ⟨rfl, r, rfl⟩) | (go_at_call 19; (with_reducible refine (has_c _ _ _).mono ?_); rintro e w' ⟨rfl, r, rfl⟩) | (go_at_call 19; (with_reducible refine (has_c ⟨_, _, _⟩ _ _).mono ?_); rintro e w' ⟨rfl, r, rfl⟩) | (go_at_call 20; (with_reducible refine (right_c _ _).mono ?_); rintro e w' ⟨rfl, r, rfl⟩) | (go_at_call 20; (with_reducible refine (right_c ⟨_, _, _⟩ _).mono ?_); rintro e w' ⟨rfl, r, rfl⟩) | (go_at_call 21; (with_reducible refine (inside_c _ _ _).mono ?_); rintro e w' ⟨rfl, r, rfl⟩) | (go_at_call 21; (with_reducible refine (inside_c _ ⟨_, _, _⟩ _).mono ?_); rintro e w' ⟨rfl, r, rfl⟩) | (go_at_call 21; (with_reducible refine (inside_c ⟨_, _, _⟩ _ _).mono ?_); rintro e w' ⟨rfl, r, rfl⟩) | (go_at_call 21; (with_reducible refine (inside_c ⟨_, _, _⟩ ⟨_, _, _⟩ _).mono ?_); rintro e w' ⟨rfl, r, rfl⟩)))
      go_roundw
      case rel => exact ⟨n + 1, by omega, by omega, int_is (by omega), int_is HES.out.symm, int_is HEP.out.symm, (by rw [HEC.out, ← cellsL_snoc]; exact HOC3.out), (by rw [HED.out, ← cellsL_snoc]; exact HOD3.out), HOF3.out, HB3.out⟩
      case measure => simp [intOf]; omega
    · have hx2 : n = l0.length ∨ n = 5 := by omega
      obtain ⟨⟨s1, s2⟩, E1, E2, E3⟩ := encl_facts (l := l0) (m := a2) (x := x) (p := a3 % 9) hn5 ⟨l7, l8⟩ ⟨p3, q3⟩
      have rc := Row.of_owns hoc
      have rd := Row.of_owns hod
      have lc := csTo_length l0 a2 n
      have ld := dsTo_length l0 n
      obtain ⟨C, hC⟩ : ∃ k, csTo l0 a2 n = k := ⟨_, rfl⟩
      obtain ⟨D, hD⟩ : ∃ k, dsTo l0 n = k := ⟨_, rfl⟩
      obtain ⟨s, hs⟩ : ∃ k, peval (ksTo l0 n) x = k := ⟨_, rfl⟩
      obtain ⟨pw, hpw⟩ : ∃ k, ppow x n = k := ⟨_, rfl⟩
      obtain ⟨X, hX⟩ : ∃ k, ivWhole x = k := ⟨_, rfl⟩
      obtain ⟨Y, hY⟩ : ∃ k, hWide (x * 65536 - a3 % 9) 20 = k := ⟨_, rfl⟩
      rw [hC] at rc lc E3
      rw [hD] at rd ld E1
      rw [hs] at s1 s2 E1 E2 E3
      rw [hX] at E1
      rw [hY] at E3
      rw [hs, hpw]
      obtain ⟨P, hP⟩ : ∃ k, horner C Y = k := ⟨_, rfl⟩
      rw [hP] at E3
      have HB := Lib.hid hbl
      clear hoc hod hoff hbl hC hD hs hpw
      cases hr : ivRight P
      · clear E3
        go_wp2_with (first | (go_at_call 12; (with_reducible refine (whole_c _ _).mono ?_); rintro e w' ⟨rfl, r, rfl⟩) | (go_at_call 13; (with_reducible refine (known4_c _).mono ?_); rintro e w' ⟨rfl, r, rfl⟩) | (go_at_call 14; (with_reducible refine (horner_c _ _ _ (by (repeat (first | assumption | with_reducible apply Row.nil | with_reducible apply Row.plus | with_reducible apply Row.more | with_reducible apply Row.drew | with_reducible apply Row.drewN | (apply row_lit1 <;> first | rfl | (simp; done) | (simp; omega)) | (apply row_num1 <;> first | rfl | (simp; done) | (simp; omega)) | (apply row_lit2 <;> first | rfl | (simp; done) | (simp; omega)) | (apply row_num2 <;> first | rfl | (simp; done) | (simp; omega)) | (apply row_lit3 <;> first | rfl | (simp; done) | (simp; omega)) | (apply row_num3 <;> first | rfl | (simp; done) | (simp; omega)) | with_reducible apply Row.alloc))) (by (first | omega | decide | (simp; done) | (simp; omega)))).mono ?_); rintro e w' ⟨rfl, r, rfl⟩) | (go_at_call 14; (with_reducible refine (horner_c _ _ ⟨_, _, _⟩ (by (repeat (first | assumption | with_reducible apply Row.nil | with_reducible apply Row.plus | with_reducible apply Row.more | with_reducible apply Row.drew | with_reducible apply Row.drewN | (apply row_lit1 <;> first | rfl | (simp; done) | (simp; omega)) | (apply row_num1 <;> first | rfl | (simp; done) | (simp; omega)) | (apply row_lit2 <;> first | rfl | (simp; done) | (simp; omega)) | (apply row_num2 <;> first | rfl | (simp; done) | (simp; omega)) | (apply row_lit3 <;> first | rfl | (simp; done) | (simp; omega)) | (apply row_num3 <;> first | rfl | (simp; done) | (simp; omega)) | with_reducible apply Row.alloc))) (by (first | omega | decide | (simp; done) | (simp; omega)))).mono ?_); rintro e w' ⟨rfl, r, rfl⟩) | (go_at_call 17; (with_reducible refine (pick_c _ _ (by omega) (by omega) (by omega) (by omega) _).mono ?_); rintro e w' ⟨rfl, rfl⟩) | (go_at_call 18; (with_reducible refine (hwide_c _ _ (by omega) (by omega) _).mono ?_); rintro e w' ⟨rfl, r, rfl⟩) | (go_at_call 19; (with_reducible refine (has_c _ _ _).mono ?_); rintro e w' ⟨rfl, r, rfl⟩) | (go_at_call 19; (with_reducible refine (has_c ⟨_, _, _⟩ _ _).mono ?_); rintro e w' ⟨rfl, r, rfl⟩) | (go_at_call 20; (with_reducible refine (right_c _ _).mono ?_); rintro e w' ⟨rfl, r, rfl⟩) | (go_at_call 20; (with_reducible refine (right_c ⟨_, _, _⟩ _).mono ?_); rintro e w' ⟨rfl, r, rfl⟩) | (go_at_call 21; (with_reducible refine (inside_c _ _ _).mono ?_); rintro e w' ⟨rfl, r, rfl⟩) | (go_at_call 21; (with_reducible refine (inside_c _ ⟨_, _, _⟩ _).mono ?_); rintro e w' ⟨rfl, r, rfl⟩) | (go_at_call 21; (with_reducible refine (inside_c ⟨_, _, _⟩ _ _).mono ?_); rintro e w' ⟨rfl, r, rfl⟩) | (go_at_call 21; (with_reducible refine (inside_c ⟨_, _, _⟩ ⟨_, _, _⟩ _).mono ?_); rintro e w' ⟨rfl, r, rfl⟩))
        all_goals
          go_returns
          exact ⟨rfl, (more_of_below HB.out).trans (by repeat (first | exact More.refl _ | refine More.alloc ?_ _ | refine More.more ?_ _ | refine More.drew ?_ | refine More.drewN ?_ _))⟩
      · have E4 := E3 hr
        clear E3
        go_wp2_with (first | (go_at_call 12; (with_reducible refine (whole_c _ _).mono ?_); rintro e w' ⟨rfl, r, rfl⟩) | (go_at_call 13; (with_reducible refine (known4_c _).mono ?_); rintro e w' ⟨rfl, r, rfl⟩) | (go_at_call 14; (with_reducible refine (horner_c _ _ _ (by (repeat (first | assumption | with_reducible apply Row.nil | with_reducible apply Row.plus | with_reducible apply Row.more | with_reducible apply Row.drew | with_reducible apply Row.drewN | (apply row_lit1 <;> first | rfl | (simp; done) | (simp; omega)) | (apply row_num1 <;> first | rfl | (simp; done) | (simp; omega)) | (apply row_lit2 <;> first | rfl | (simp; done) | (simp; omega)) | (apply row_num2 <;> first | rfl | (simp; done) | (simp; omega)) | (apply row_lit3 <;> first | rfl | (simp; done) | (simp; omega)) | (apply row_num3 <;> first | rfl | (simp; done) | (simp; omega)) | with_reducible apply Row.alloc))) (by (first | omega | decide | (simp; done) | (simp; omega)))).mono ?_); rintro e w' ⟨rfl, r, rfl⟩) | (go_at_call 14; (with_reducible refine (horner_c _ _ ⟨_, _, _⟩ (by (repeat (first | assumption | with_reducible apply Row.nil | with_reducible apply Row.plus | with_reducible apply Row.more | with_reducible apply Row.drew | with_reducible apply Row.drewN | (apply row_lit1 <;> first | rfl | (simp; done) | (simp; omega)) | (apply row_num1 <;> first | rfl | (simp; done) | (simp; omega)) | (apply row_lit2 <;> first | rfl | (simp; done) | (simp; omega)) | (apply row_num2 <;> first | rfl | (simp; done) | (simp; omega)) | (apply row_lit3 <;> first | rfl | (simp; done) | (simp; omega)) | (apply row_num3 <;> first | rfl | (simp; done) | (simp; omega)) | with_reducible apply Row.alloc))) (by (first | omega | decide | (simp; done) | (simp; omega)))).mono ?_); rintro e w' ⟨rfl, r, rfl⟩) | (go_at_call 17; (with_reducible refine (pick_c _ _ (by omega) (by omega) (by omega) (by omega) _).mono ?_); rintro e w' ⟨rfl, rfl⟩) | (go_at_call 18; (with_reducible refine (hwide_c _ _ (by omega) (by omega) _).mono ?_); rintro e w' ⟨rfl, r, rfl⟩) | (go_at_call 19; (with_reducible refine (has_c _ _ _).mono ?_); rintro e w' ⟨rfl, r, rfl⟩) | (go_at_call 19; (with_reducible refine (has_c ⟨_, _, _⟩ _ _).mono ?_); rintro e w' ⟨rfl, r, rfl⟩) | (go_at_call 20; (with_reducible refine (right_c _ _).mono ?_); rintro e w' ⟨rfl, r, rfl⟩) | (go_at_call 20; (with_reducible refine (right_c ⟨_, _, _⟩ _).mono ?_); rintro e w' ⟨rfl, r, rfl⟩) | (go_at_call 21; (with_reducible refine (inside_c _ _ _).mono ?_); rintro e w' ⟨rfl, r, rfl⟩) | (go_at_call 21; (with_reducible refine (inside_c _ ⟨_, _, _⟩ _).mono ?_); rintro e w' ⟨rfl, r, rfl⟩) | (go_at_call 21; (with_reducible refine (inside_c ⟨_, _, _⟩ _ _).mono ?_); rintro e w' ⟨rfl, r, rfl⟩) | (go_at_call 21; (with_reducible refine (inside_c ⟨_, _, _⟩ ⟨_, _, _⟩ _).mono ?_); rintro e w' ⟨rfl, r, rfl⟩))
        all_goals
          go_returns
          exact ⟨rfl, (more_of_below HB.out).trans (by repeat (first | exact More.refl _ | refine More.alloc ?_ _ | refine More.more ?_ _ | refine More.drew ?_ | refine More.drewN ?_ _))⟩

set_option maxRecDepth 100000 in
theorem lifted (os : Os) (started : os.Started) (H : Type) (enc : TypeId × Value → H) :
    ReturnsInHanded {} Try.checked os 4 .any (Rows.polyEnclosesSpec.pre6 enc Try.prog Try.f4 Rows.polyEnclosesRow.domain false) (Rows.polyEnclosesSpec.post enc Try.prog Try.f4 false true false false) := by
  refine returnsInHanded_of_change (C := Try.checked) own started (by kernel_rfl) Try.func4
    (ChangeSpec.witness6 (enc := enc) (C := Try.checked) false ⟨#[], #[.slice none 0 0, .int .i64 0, .int .i64 0, .int .i64 0], []⟩ 8 (by kernel_rfl) (by kernel_rfl) (by kernel_rfl) (by kernel_rfl)) ?_
  intro W base args ds gs before hval0 hW hcnd _
  have hval : ∀ (j : Nat) t v, Try.f4.params[j]? = some t → args[j]? = some v → Value.okWide Try.prog W .any base t v := hval0
  have hW' := hW
  obtain ⟨p, q, hA0, hV, rfl, hfz, hnd⟩ := hW
  have hA : DataW.TrodAll enc Try.prog W 0 (fun _ => true) true Try.f4.params.toList args.toList ds p := hA0
  rw [Try.params4] at hA hval
  obtain ⟨v0, vs0, d0, ds0, p0, q0, hargs, rfl, rfl, h0, r0⟩ := trodAll_cons hA
  obtain ⟨v1, vs1, d1, ds1, p1, q1, rfl, rfl, rfl, h1, r1⟩ := trodAll_cons r0
  obtain ⟨v2, vs2, d2, ds2, p2, q2, rfl, rfl, rfl, h2, r2⟩ := trodAll_cons r1
  obtain ⟨v3, vs3, d3, ds3, p3, q3, rfl, rfl, rfl, h3, r3⟩ := trodAll_cons r2
  obtain ⟨rfl, rfl, rfl⟩ := trodAll_nil r3
  obtain rfl : args = #[v0, v1, v2, v3] := by cases args; simp_all
  obtain ⟨rfl, rfl⟩ := trodVars_none hV
  obtain ⟨a1, rfl, rfl, rfl, w1⟩ := open_int Try.underlying3 (hval 1 3 v1 rfl rfl) h1
  obtain ⟨a2, rfl, rfl, rfl, w2⟩ := open_int Try.underlying3 (hval 2 3 v2 rfl rfl) h2
  obtain ⟨a3, rfl, rfl, rfl, w3⟩ := open_int Try.underlying3 (hval 3 3 v3 rfl rfl) h3
  have h0k := h0
  have hlt0 : ∀ x ∈ p0, x.block < W.heap.size := fun x hx => by simpa using hW'.lt x (by simp [hx])
  obtain ⟨l0, i0, k0, m0⟩ := open_ints_all Try.underlying30 Try.underlying3 (by kernel_rfl) (okWide_slice Try.underlying30 (hval 0 30 v0 rfl rfl)) h0
  clear hA0 hval0
  simp only [List.append_nil] at hW'
  refine (walk W v0 l0 i0 k0 m0 a1 w1 a2 w2 a3 w3).mono fun e W' ⟨he, hg⟩ => ?_
  subst he
  exact ⟨_, rfl, _, _, _, [], _, [], hW', (trodAll_cons_mk (shut_bool Try.underlying4 _) trodAll_mk0), (trodAll_cons_mk (Below.trod laidOut (by kernel_rfl) (of_decide_eq_true (by kernel_rfl)) h0k hg.below hlt0) (trodAll_cons_mk (shut_int Try.underlying3 w1) (trodAll_cons_mk (shut_int Try.underlying3 w2) (trodAll_cons_mk (shut_int Try.underlying3 w3) trodAll_mk0)))), rfl, hg.below.frame _, fun h => by cases h⟩

theorem over : Rows.polyEnclosesRow.holds Try.pinned (OpenSpec.ofChange Rows.polyEnclosesSpec) :=
  OpenClaim.holds_of_wide 4 Try.f4 rfl rfl rfl rfl rfl rfl rfl ⟨rfl, rfl, rfl, rfl, rfl⟩ rfl rfl rfl rfl rfl (by kernel_rfl) Try.func4 (by kernel_rfl)
    (of_decide_eq_true (by kernel_rfl)) (by unfold Func.isWrapper; first | (rw [if_pos (by decide +kernel)]; kernel_rfl) | (rw [if_neg (by decide +kernel)]; exact ⟨rfl, rfl⟩))
    (fun os started H enc _ => lifted os started H enc)

/-- The statement. -/
theorem proved : Rows.PolyEnclosesSaid :=
  over
#print axioms proved
end Go.Proofs.Ytgkkfmjlgmoefaa.polyEncloses
