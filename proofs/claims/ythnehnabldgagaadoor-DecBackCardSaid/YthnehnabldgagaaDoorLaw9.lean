/-
  What the statements of chapter 9 have in common: the example, the texts that are handed in.
-/
import Derived.Test.YthnehnabldgagaaDoorLit9
import Derived.Test.YthnehnabldgagaaDoorReadDec
namespace Go.Proofs.YthnehnabldgagaaDoor
set_option linter.unusedVariables false
open Go.ChangeShapes Go.WideShapes Go.ChangeAt Go.RowKit

set_option maxHeartbeats 4000000 in
theorem known9_c (W : World) (ht : Tab W) :
    Calls Tryd.prog 7 #[] W fun e w' => e = .returned (.bool true) ∧ More W w' := by
  go_enter Tryd.func7, Tryd.ntmps7
  go_wp2_with (first | (go_at_call 11; (with_reducible refine Calls.mono (print_15 _ (by (repeat (first | assumption | with_reducible apply Tab.more | with_reducible apply Tab.alloc | with_reducible apply Tab.drew | with_reducible apply Tab.drewN)))) ?_); rintro e w' ⟨rfl, r, rfl⟩) | (go_at_call 6; (with_reducible refine (lit_Lit9_0 _).mono ?_); rintro e w' ⟨rfl, r, rfl⟩) | (go_at_call 8; (with_reducible refine (lit_Lit9_1 _).mono ?_); rintro e w' ⟨rfl, r, rfl⟩) | (go_at_call 9; (with_reducible refine (lit_Lit9_2 _).mono ?_); rintro e w' ⟨rfl, r, rfl⟩) | (go_at_call 6; (with_reducible refine (read_c _ (by (try simp only [size_bs]); omega) _).mono ?_); rintro e w' ⟨rfl, r, rfl⟩) | (go_at_call 8; (with_reducible refine (decIv_c _ _).mono ?_); rintro e w' ⟨rfl, r, rfl⟩) | (go_at_call 8; (with_reducible refine (decIv_c ⟨_, _⟩ _).mono ?_); rintro e w' ⟨rfl, r, rfl⟩) | (go_at_call 9; (with_reducible refine (of_c _ _ _).mono ?_); rintro e w' ⟨rfl, r, rfl⟩) | (go_at_call 11; (with_reducible refine Calls.mono (print_c _ _ (by (repeat (first | assumption | with_reducible apply Tab.more | with_reducible apply Tab.alloc | with_reducible apply Tab.drew | with_reducible apply Tab.drewN)))) ?_); rintro e w' ⟨rfl, r, rfl⟩) | (go_at_call 11; (with_reducible refine Calls.mono (print_c _ ⟨_, _⟩ (by (repeat (first | assumption | with_reducible apply Tab.more | with_reducible apply Tab.alloc | with_reducible apply Tab.drew | with_reducible apply Tab.drewN)))) ?_); rintro e w' ⟨rfl, r, rfl⟩))
  go_returns
  exact ⟨rfl, (by repeat (first | exact More.refl _ | refine More.alloc ?_ _ | refine More.more ?_ _ | refine More.drew ?_ | refine More.drewN ?_ _))⟩

theorem pick_is (n m : Int) (W : World) (hn : -9223372036854775808 ≤ n) (hn' : n ≤ 9223372036854775807) (hm : 0 < m) (hm' : m ≤ 9223372036854775807) : Calls Tryd.prog 16 #[.int .i64 n, .int .i64 m] W fun e w' => ∃ r : Int, e = .returned (.int .i64 r) ∧ 0 ≤ r ∧ r < m ∧ W = w' :=
  (pick_c n m hn hn' hm hm' W).mono fun e w' ⟨h1, h2⟩ => ⟨_, h1, Int.emod_nonneg _ (by omega), Int.emod_lt_of_pos _ hm, h2⟩
theorem digits_is (n : Int) (W : World) (h0 : 0 ≤ n) (h1 : n ≤ 999999) : Calls Tryd.prog 21 #[.int .i64 n] W fun e w' => ∃ D : List UInt8, e = .returned (.string (bsOf D)) ∧ 1 ≤ D.length ∧ D.length ≤ 6 ∧ More W w' :=
  (digits8_c n h0 (by omega) W).mono fun e w' ⟨h2, h3⟩ => ⟨_, h2, dig_pos _, dig_len 5 _ (by omega), h3⟩

abbrev putV : Value := .agg #[.string ⟨#[45]⟩, .string ⟨#[46]⟩, .string ⟨#[32]⟩, .string ⟨#[48]⟩, .string ⟨#[97]⟩]
theorem put0 (w : World) : (Instr.index 51 putV (.int .i64 0)).run Tryd.prog w = .ok (.string ⟨#[45]⟩) w := by kernel_rfl
theorem put1 (w : World) : (Instr.index 51 putV (.int .i64 1)).run Tryd.prog w = .ok (.string ⟨#[46]⟩) w := by kernel_rfl
theorem put2 (w : World) : (Instr.index 51 putV (.int .i64 2)).run Tryd.prog w = .ok (.string ⟨#[32]⟩) w := by kernel_rfl
theorem put3 (w : World) : (Instr.index 51 putV (.int .i64 3)).run Tryd.prog w = .ok (.string ⟨#[48]⟩) w := by kernel_rfl
theorem put4 (w : World) : (Instr.index 51 putV (.int .i64 4)).run Tryd.prog w = .ok (.string ⟨#[97]⟩) w := by kernel_rfl

set_option maxHeartbeats 8000000 in
theorem text_c (n sc bend : Int) (raw : ByteArray) (W : World) (hn : -9223372036854775808 ≤ n) (hn' : n ≤ 9223372036854775807) (hs : -9223372036854775808 ≤ sc) (hs' : sc ≤ 9223372036854775807) (hb : -9223372036854775808 ≤ bend) (hb' : bend ≤ 9223372036854775807) (hr : raw.size ≤ 9223372036854775807) :
    Calls Tryd.prog 14 #[.int .i64 n, .int .i64 sc, .int .i64 bend, .string raw] W fun e w' => (∃ t : ByteArray, e = .returned (.string t) ∧ t.size ≤ 9223372036854775807) ∧ More W w' := by
  have d7 := tdiv_bd n 7 hn hn' (by omega)
  have d9 := tdiv_bd bend 9 hb hb' (by omega)
  have e9 := Int.emod_nonneg bend (show (9 : Int) ≠ 0 by omega)
  have f9 := Int.emod_lt_of_pos bend (show (0 : Int) < 9 by omega)
  go_enter Tryd.func14, Tryd.ntmps14
  go_wp2_with (first | (go_at_call 16; (with_reducible refine Calls.mono (pick_is _ _ _ (by omega) (by omega) (by omega) (by omega)) ?_); rintro e w' ⟨r, rfl, h1, h2, rfl⟩) | (go_at_call 21; (with_reducible refine Calls.mono (digits_is _ _ (by omega) (by omega)) ?_); rintro e w' ⟨D, rfl, h1, h2, r, rfl⟩) | (go_at_call 16; (with_reducible refine (pick_c _ _ (by omega) (by omega) (by omega) (by omega) _).mono ?_); rintro e w' ⟨rfl, rfl⟩) | (go_at_call 21; (with_reducible refine (digits8_c _ (by omega) (by omega) _).mono ?_); rintro e w' ⟨rfl, r, rfl⟩) | ((with_reducible show Code.wp _ (Code.region 13 _ true) _ _ _); (with_reducible refine wp_more_quick_m (id := 13) ?_ ?_ ?_); kernel_rfl; kernel_rfl; (try simp only [List.take_succ_cons, List.take_zero, List.drop_succ_cons, List.drop_zero]); (repeat (any_goals (first | go_big_quiet_step ((first | (go_at_call 16; (with_reducible apply quiet_call_same); with_reducible exact pick_c _ _ (by omega) (by omega) (by omega) (by omega) _) | (go_at_call 21; (with_reducible apply quiet_call); with_reducible exact digits8_c _ (by omega) (by omega) _))) | quiet_step ((first | (go_at_call 16; (with_reducible apply quiet_call_same); with_reducible exact pick_c _ _ (by omega) (by omega) (by omega) (by omega) _) | (go_at_call 21; (with_reducible apply quiet_call); with_reducible exact digits8_c _ (by omega) (by omega) _)))))); (with_reducible refine wpQuiet_nil ?_); intro r) | ((with_reducible show Code.wp _ (Code.region 13 _ true) _ _ _); (with_reducible refine wp_more_quick (id := 13) ?_ ?_ ?_); kernel_rfl; kernel_rfl; (try simp only [List.take_succ_cons, List.take_zero, List.drop_succ_cons, List.drop_zero]); (repeat (any_goals (first | go_big_quiet_step ((first | (go_at_call 16; (with_reducible apply quiet_call_same); with_reducible exact pick_c _ _ (by omega) (by omega) (by omega) (by omega) _) | (go_at_call 21; (with_reducible apply quiet_call); with_reducible exact digits8_c _ (by omega) (by omega) _))) | quiet_step ((first | (go_at_call 16; (with_reducible apply quiet_call_same); with_reducible exact pick_c _ _ (by omega) (by omega) (by omega) (by omega) _) | (go_at_call 21; (with_reducible apply quiet_call); with_reducible exact digits8_c _ (by omega) (by omega) _)))))); (with_reducible refine wpQuiet_nil ?_); intro r))
  all_goals first
    | (go_returns; exact ⟨⟨_, rfl, (by first | exact hr | (simp; omega))⟩, (by repeat (first | exact More.refl _ | refine More.alloc ?_ _ | refine More.more ?_ _ | refine More.drew ?_ | refine More.drewN ?_ _))⟩)
    | skip
  all_goals
    have p0 := put0
    have p1 := put1
    have p2 := put2
    have p3 := put3
    have p4 := put4
    have k0 := Int.emod_nonneg (bend.tdiv 9) (show (5 : Int) ≠ 0 by omega)
    have k1 := Int.emod_lt_of_pos (bend.tdiv 9) (show (0 : Int) < 5 by omega)
    have k : bend.tdiv 9 % 5 = 0 ∨ bend.tdiv 9 % 5 = 1 ∨ bend.tdiv 9 % 5 = 2 ∨ bend.tdiv 9 % 5 = 3 ∨ bend.tdiv 9 % 5 = 4 := by omega
    clear k0 k1
    rcases k with k | k | k | k | k
  all_goals
    (first | (with_reducible refine wp_more_quick_m (id := 13) ?_ ?_ ?_) | (refine wp_more_quick (id := 13) ?_ ?_ ?_))
    · kernel_rfl
    · kernel_rfl
    (try simp only [List.append_eq, List.cons_append, List.nil_append])
    (repeat (any_goals (first | go_big_quiet_step ((first | (go_at_call 16; (with_reducible apply quiet_call_same); with_reducible exact pick_c _ _ (by omega) (by omega) (by omega) (by omega) _) | (go_at_call 21; (with_reducible apply quiet_call); with_reducible exact digits8_c _ (by omega) (by omega) _))))))
    (with_reducible refine wpQuiet_nil ?_)
    intro r
    go_wp2_with (first | (go_at_call 16; (with_reducible refine Calls.mono (pick_is _ _ _ (by omega) (by omega) (by omega) (by omega)) ?_); rintro e w' ⟨r, rfl, h1, h2, rfl⟩) | (go_at_call 21; (with_reducible refine Calls.mono (digits_is _ _ (by omega) (by omega)) ?_); rintro e w' ⟨D, rfl, h1, h2, r, rfl⟩) | (go_at_call 16; (with_reducible refine (pick_c _ _ (by omega) (by omega) (by omega) (by omega) _).mono ?_); rintro e w' ⟨rfl, rfl⟩) | (go_at_call 21; (with_reducible refine (digits8_c _ (by omega) (by omega) _).mono ?_); rintro e w' ⟨rfl, r, rfl⟩) | ((with_reducible show Code.wp _ (Code.region 13 _ true) _ _ _); (with_reducible refine wp_more_quick_m (id := 13) ?_ ?_ ?_); kernel_rfl; kernel_rfl; (try simp only [List.take_succ_cons, List.take_zero, List.drop_succ_cons, List.drop_zero]); (repeat (any_goals (first | go_big_quiet_step ((first | (go_at_call 16; (with_reducible apply quiet_call_same); with_reducible exact pick_c _ _ (by omega) (by omega) (by omega) (by omega) _) | (go_at_call 21; (with_reducible apply quiet_call); with_reducible exact digits8_c _ (by omega) (by omega) _))) | quiet_step ((first | (go_at_call 16; (with_reducible apply quiet_call_same); with_reducible exact pick_c _ _ (by omega) (by omega) (by omega) (by omega) _) | (go_at_call 21; (with_reducible apply quiet_call); with_reducible exact digits8_c _ (by omega) (by omega) _)))))); (with_reducible refine wpQuiet_nil ?_); intro r) | ((with_reducible show Code.wp _ (Code.region 13 _ true) _ _ _); (with_reducible refine wp_more_quick (id := 13) ?_ ?_ ?_); kernel_rfl; kernel_rfl; (try simp only [List.take_succ_cons, List.take_zero, List.drop_succ_cons, List.drop_zero]); (repeat (any_goals (first | go_big_quiet_step ((first | (go_at_call 16; (with_reducible apply quiet_call_same); with_reducible exact pick_c _ _ (by omega) (by omega) (by omega) (by omega) _) | (go_at_call 21; (with_reducible apply quiet_call); with_reducible exact digits8_c _ (by omega) (by omega) _))) | quiet_step ((first | (go_at_call 16; (with_reducible apply quiet_call_same); with_reducible exact pick_c _ _ (by omega) (by omega) (by omega) (by omega) _) | (go_at_call 21; (with_reducible apply quiet_call); with_reducible exact digits8_c _ (by omega) (by omega) _)))))); (with_reducible refine wpQuiet_nil ?_); intro r))
    go_returns
    exact ⟨⟨_, rfl, (by first | exact hr | (simp; omega))⟩, (by repeat (first | exact More.refl _ | refine More.alloc ?_ _ | refine More.more ?_ _ | refine More.drew ?_ | refine More.drewN ?_ _))⟩

end Go.Proofs.YthnehnabldgagaaDoor

