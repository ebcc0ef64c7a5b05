/-
  GlassBack: the walk.
-/
import Derived.Test.YtolfobgpgmfnpaaDoorGlassKn
import Derived.Test.YtolfobgpgmfnpaaDoorGlassHd
import Derived.ChangeKeysEq
namespace Go.Proofs.YtolfobgpgmfnpaaDoor
set_option linter.unusedVariables false
open Go.ChangeShapes Go.WideShapes Go.ChangeAt Go.RowKit

theorem info_dec : (Tryd.prog.info? 35).map (fun i => (i.zero, i.size, i.bytes)) = some (some (.agg #[.int .i64 0, .int .i64 0]), 2, 16) := by kernel_rfl
theorem eq_arr (x1 x2 x3 x4 x5 x6 : Int) (w : World) : (Op.equalIn 9999 37 (.agg #[.int .i64 x1, .int .i64 x2, .int .i64 x3, .int .i64 x4, .int .i64 x5, .int .i64 x6]) (.agg #[.int .i64 x1, .int .i64 x2, .int .i64 x3, .int .i64 x4, .int .i64 x5, .int .i64 x6])).run Tryd.prog w = .ok true w := by
  obtain ⟨i, hi, -, hs, -⟩ := info_parts info_dec
  have hc : Tryd.prog.cellsOf 35 = 2 := by simp [Program.cellsOf, hi, hs]
  rw [run_equalIn_array w 9998 _ _ (by kernel_rfl : Tryd.prog.underlying 37 = some (.array 3 35)) hi, hc]
  simp [Op.eqItems, List.range, List.range.loop, go_sem, Result.andThen]
theorem neq_gl (g : Gl) (w : World) : (binOp .neq 39 (glV g) (glV g)).run Tryd.prog w = .ok (.bool false) w := by
  simp [go_sem, Result.andThen, eq_arr]

set_option maxHeartbeats 8000000 in
theorem same_c (v u : Value) (l : List Gl) (W : World) (hv : Gls W v l) (hu : Gls W u l) (hl : l.length ≤ 1000000) : Calls Tryd.prog 8 #[v, u] W fun e w' => e = .returned (.bool true) ∧ More W w' := by
  obtain ⟨ao, c, rfl, -⟩ := grow_form gls_pos hv
  obtain ⟨au, d, rfl, -⟩ := grow_form gls_pos hu
  go_enter Tryd.func8, Tryd.ntmps8
  go_wp2_with (first | ((with_reducible show Code.wp _ (Code.region 6 _ true) _ _ _); (with_reducible refine wp_more_quick_m (id := 6) ?_ ?_ ?_); kernel_rfl; kernel_rfl; (try simp only [List.take_succ_cons, List.take_zero, List.drop_succ_cons, List.drop_zero]); (repeat (any_goals (first | go_big_quiet_step (fail) | quiet_step (fail)))); (with_reducible refine wpQuiet_nil ?_); intro r) | ((with_reducible show Code.wp _ (Code.region 6 _ true) _ _ _); (with_reducible refine wp_more_quick (id := 6) ?_ ?_ ?_); kernel_rfl; kernel_rfl; (try simp only [List.take_succ_cons, List.take_zero, List.drop_succ_cons, List.drop_zero]); (repeat (any_goals (first | go_big_quiet_step (fail) | quiet_step (fail)))); (with_reducible refine wpQuiet_nil ?_); intro r))
  go_loopw [13] (fun x wr => ∃ k : Nat, k ≤ l.length ∧ x = .int .i64 k ∧ Gls wr (.slice ao l.length c) l ∧ Gls wr (.slice au l.length d) l ∧ More W wr) (fun x _ => l.length - (intOf x).toNat)
  case atStart => exact ⟨0, by omega, rfl, hv, hu, More.refl _⟩
  case round =>
    obtain ⟨k, hk, rfl, h1, h2, hM⟩ := hrel
    have H1 := Lib.hid h1
    have H2 := Lib.hid h2
    have HM := Lib.hid hM
    clear hM hv hu
    by_cases hkl : k < l.length
    · obtain ⟨g, hg⟩ : ∃ g, l[k]? = some g := ⟨l[k], List.getElem?_eq_getElem hkl⟩
      obtain ⟨b, o, rfl, hb, hL, hL0⟩ := gls_at h1 hg
      obtain ⟨b', o', rfl, hb', hL', hL0'⟩ := gls_at h2 hg
      have hn := neq_gl g
      clear h1 h2 hg
      go_wp2_with (first | ((with_reducible show Code.wp _ (Code.region 6 _ true) _ _ _); (with_reducible refine wp_more_quick_m (id := 6) ?_ ?_ ?_); kernel_rfl; kernel_rfl; (try simp only [List.take_succ_cons, List.take_zero, List.drop_succ_cons, List.drop_zero]); (repeat (any_goals (first | go_big_quiet_step (fail) | quiet_step (fail)))); (with_reducible refine wpQuiet_nil ?_); intro r) | ((with_reducible show Code.wp _ (Code.region 6 _ true) _ _ _); (with_reducible refine wp_more_quick (id := 6) ?_ ?_ ?_); kernel_rfl; kernel_rfl; (try simp only [List.take_succ_cons, List.take_zero, List.drop_succ_cons, List.drop_zero]); (repeat (any_goals (first | go_big_quiet_step (fail) | quiet_step (fail)))); (with_reducible refine wpQuiet_nil ?_); intro r))
      go_roundw
      case rel => exact ⟨k + 1, by omega, rfl, H1.out.up (by repeat (first | exact More.refl _ | refine More.alloc ?_ _ | refine More.more ?_ _ | refine More.drew ?_ | refine More.drewN ?_ _)), H2.out.up (by repeat (first | exact More.refl _ | refine More.alloc ?_ _ | refine More.more ?_ _ | refine More.drew ?_ | refine More.drewN ?_ _)), HM.out.trans (by repeat (first | exact More.refl _ | refine More.alloc ?_ _ | refine More.more ?_ _ | refine More.drew ?_ | refine More.drewN ?_ _))⟩
      case measure => simp [intOf] <;> omega
    · obtain rfl : k = l.length := by omega
      clear h1 h2
      go_wp2_with (first | ((with_reducible show Code.wp _ (Code.region 6 _ true) _ _ _); (with_reducible refine wp_more_quick_m (id := 6) ?_ ?_ ?_); kernel_rfl; kernel_rfl; (try simp only [List.take_succ_cons, List.take_zero, List.drop_succ_cons, List.drop_zero]); (repeat (any_goals (first | go_big_quiet_step (fail) | quiet_step (fail)))); (with_reducible refine wpQuiet_nil ?_); intro r) | ((with_reducible show Code.wp _ (Code.region 6 _ true) _ _ _); (with_reducible refine wp_more_quick (id := 6) ?_ ?_ ?_); kernel_rfl; kernel_rfl; (try simp only [List.take_succ_cons, List.take_zero, List.drop_succ_cons, List.drop_zero]); (repeat (any_goals (first | go_big_quiet_step (fail) | quiet_step (fail)))); (with_reducible refine wpQuiet_nil ?_); intro r))
      go_returns
      exact ⟨rfl, HM.out.trans (by repeat (first | exact More.refl _ | refine More.alloc ?_ _ | refine More.more ?_ _ | refine More.drew ?_ | refine More.drewN ?_ _))⟩

theorem read_back_c (l : List Gl) (h : OkL l) (W : World) : Calls Tryd.prog 5 #[.string (bsOf (textG l))] W fun e w' => ∃ v', e = .returned (.tuple #[v', .complex .f64 0 0, .int .i64 0]) ∧ More W w' ∧ Gls w' v' l := by
  have hl := textG_len l h.ok
  have h5 := h.len
  refine (readk_c (R := ⟨l, 0, 0, 0⟩) (textG l) (readG_back h) (by omega) W).mono ?_
  rintro e w' ⟨v', rfl, hm, hr⟩
  refine ⟨v', ?_, hm, hr⟩
  dsimp only
  rw [plV2_zero]
  rfl

set_option maxHeartbeats 8000000 in
set_option maxRecDepth 100000 in
theorem glassBack_walk (w : World) (s0 : Value) (l0 : List Int) (i0 : Ints w s0 l0) (k0 : ∀ n ∈ l0, -9223372036854775808 ≤ n ∧ n ≤ 9223372036854775807) (m0 : l0.length ≤ 9223372036854775807) (ht : Tab w) :
    Calls Tryd.prog 3 #[s0] w fun e w' => e = .returned (.bool true) ∧ More w w' := by
  have e0 : ∀ w, (binOp .eql 25 (.complex .f64 0 0) (.complex .f64 0 0)).run Tryd.prog w = .ok (.bool true) w := fun w => by kernel_rfl
  have ho := glassesG_okL l0
  have hlen := ho.len
  go_enter Tryd.func3, Tryd.ntmps3
  go_wp2_with fail
  go_at_call 4
  refine Calls.mono (glasses_c s0 l0 w i0 k0 m0) ?_
  rintro e w1 ⟨v1, rfl, hM1, hg1⟩
  have ht1 : Tab w1 := by obtain ⟨r, rfl⟩ := hM1; exact ht.more
  go_wp2_with fail
  go_at_call 6
  refine Calls.mono (printg_w w1 v1 hg1 ho ht1) ?_
  rintro e w2 ⟨rfl, hM2⟩
  have ht2 : Tab w2 := by obtain ⟨r, rfl⟩ := hM2; exact ht1.more
  have hg2 := hg1.up hM2
  go_wp2_with fail
  go_at_call 5
  refine Calls.mono (read_back_c _ ho w2) ?_
  rintro e w3 ⟨v3, rfl, hM3, hg3⟩
  have ht3 : Tab w3 := by obtain ⟨r, rfl⟩ := hM3; exact ht2.more
  have hg4 := hg2.up hM3
  have HM := Lib.hid ((hM1.trans hM2).trans hM3)
  clear hM1 hM2 hM3 hg1 hg2 ht ht1 ht2
  go_wp2_with (first | (go_at_call 8; (with_reducible refine Calls.mono (same_c v1 v3 _ _ (by (repeat (first | assumption | with_reducible apply GRow.more | with_reducible apply GRow.alloc | with_reducible apply GRow.drew | with_reducible apply GRow.drewN))) (by (repeat (first | assumption | with_reducible apply GRow.more | with_reducible apply GRow.alloc | with_reducible apply GRow.drew | with_reducible apply GRow.drewN))) (by omega)) ?_); rintro e w' ⟨rfl, r2, rfl⟩) | (first | (go_at_call 7; (with_reducible refine Calls.mono (known11_c _ (by (repeat (first | assumption | with_reducible apply Tab.more | with_reducible apply Tab.alloc | with_reducible apply Tab.drew | with_reducible apply Tab.drewN)))) ?_); rintro e w' ⟨rfl, r, rfl⟩) | (go_at_call 9; (with_reducible refine Calls.mono (right_w _ _ (by (repeat (first | assumption | with_reducible apply GRow.more | with_reducible apply GRow.alloc | with_reducible apply GRow.drew | with_reducible apply GRow.drewN))) (by assumption) (by (repeat (first | assumption | with_reducible apply Tab.more | with_reducible apply Tab.alloc | with_reducible apply Tab.drew | with_reducible apply Tab.drewN)))) ?_); rintro e w' ⟨rfl, r, rfl⟩)))
  go_returns
  exact ⟨rfl, HM.out.trans (by repeat (first | exact More.refl _ | refine More.alloc ?_ _ | refine More.more ?_ _ | refine More.drew ?_ | refine More.drewN ?_ _))⟩

end Go.Proofs.YtolfobgpgmfnpaaDoor

