/-
  LexTells: the walk: what is read is what the plain saying reads, token by token.
-/
import Derived.Test.YthhipepdkpoomaaDoorRefTokens
import Derived.Test.YthhipepdkpoomaaDoorRead10
namespace Go.Proofs.YthhipepdkpoomaaDoor
set_option linter.unusedVariables false
open Go.ChangeShapes Go.WideShapes Go.ChangeAt Go.RowKit

theorem rtokens_k {x : Lexed} (l : List UInt8) (hx : lexP l = x) (hz : l.length ≤ 9223372036854775807) (W : World) : Calls Tryd.prog 11 #[.string (bsOf l)] W fun e w' => ∃ v', e = .returned (.tuple #[v', .agg #[.int .i64 x.line, .int .i64 x.col], .int .i64 x.err]) ∧ More W w' ∧ GRow tk4 4 w' v' x.toks := by
  subst hx
  exact rtokens_c l hz W
set_option maxHeartbeats 16000000 in
set_option maxRecDepth 100000 in
theorem lexTells_walk (w : World) (s0 : Value) (l0 : List Int) (i0 : Ints w s0 l0) (k0 : ∀ n ∈ l0, -9223372036854775808 ≤ n ∧ n ≤ 9223372036854775807) (m0 : l0.length ≤ 9223372036854775807) (a1 : ByteArray) (w1 : a1.size ≤ 140737488355328) (a2 : Bool) :
    Calls Tryd.prog 4 #[s0, .string a1, .bool a2] w fun e w' => e = .returned (.bool true) ∧ More w w' := by
  obtain ⟨raw, rfl⟩ := str_bs a1
  rw [size_bs] at w1
  cases a2 with
  | false =>
    go_enter Tryd.func4, Tryd.ntmps4
    go_wp2_with (first | (go_at_call 10; (refine Calls.mono (put_c s0 l0 raw _ i0 k0 m0 w1) ?_); rintro e w' ⟨t, rfl, ht, r, rfl⟩))
    obtain ⟨⟨T, L, C, E⟩, hx⟩ : ∃ x, lexP t = x := ⟨_, rfl⟩
    have hs := lexP_small t
    rw [hx] at hs
    obtain ⟨hL, hC, hE, hT⟩ := hs
    try dsimp only at hL hC hE hT
    have hn := lexP_count t
    rw [hx] at hn
    try dsimp only at hn
    have HT := Lib.hid hT
    clear hT
    have o1 := ord_eq (n := L) (by omega)
    have o2 := ord_eq (n := C) (by omega)
    go_wp2_with (first | (go_at_call 7; (refine Calls.mono (tokens_x t hx (by omega) _) ?_); rintro e w' ⟨v1, rfl, ⟨r1, rfl⟩, hr1⟩))
    try dsimp only at hr1
    obtain ⟨ao, ca, rfl, -⟩ := grow_form (fun _ => by rw [tk3_len]; decide) hr1
    simp only [more_more] at hr1
    have HR1 := Lib.hid hr1
    clear hr1
    go_wp2_with (first | (go_at_call 11; (refine Calls.mono (rtokens_k t hx (by omega) _) ?_); rintro e w' ⟨v2, rfl, ⟨r2, rfl⟩, hr2⟩))
    try dsimp only at hr2
    obtain ⟨bo, cb, rfl, -⟩ := grow_form (fun _ => by rw [tk4_len]; decide) hr2
    simp only [more_more] at hr2
    have HR2 := Lib.hid hr2
    clear hr2
    go_wp2_with (first | (go_at_call 8; (with_reducible refine (known10_c _).mono ?_); rintro e w' ⟨rfl, r, rfl⟩) | (go_at_call 12; (with_reducible refine (complex_c _ _).mono ?_); rintro e w' ⟨rfl, r, rfl⟩) | (go_at_call 12; (with_reducible refine (complex_c ⟨_, _⟩ _).mono ?_); rintro e w' ⟨rfl, r, rfl⟩) | ((with_reducible show Code.wp _ (Code.region 11 _ true) _ _ _); (with_reducible refine wp_more_quick_m (id := 11) ?_ ?_ ?_); kernel_rfl; kernel_rfl; (try simp only [List.take_succ_cons, List.take_zero, List.drop_succ_cons, List.drop_zero]); (repeat (any_goals (first | go_big_quiet_step ((first | (go_at_call 8; (with_reducible apply quiet_call); with_reducible exact known10_c _) | (go_at_call 12; (with_reducible apply quiet_call); with_reducible exact complex_c _ _) | (go_at_call 12; (with_reducible apply quiet_call); with_reducible exact complex_c ⟨_, _⟩ _))) | quiet_step ((first | (go_at_call 8; (with_reducible apply quiet_call); with_reducible exact known10_c _) | (go_at_call 12; (with_reducible apply quiet_call); with_reducible exact complex_c _ _) | (go_at_call 12; (with_reducible apply quiet_call); with_reducible exact complex_c ⟨_, _⟩ _)))))); (with_reducible refine wpQuiet_nil ?_); intro r) | ((with_reducible show Code.wp _ (Code.region 11 _ true) _ _ _); (with_reducible refine wp_more_quick (id := 11) ?_ ?_ ?_); kernel_rfl; kernel_rfl; (try simp only [List.take_succ_cons, List.take_zero, List.drop_succ_cons, List.drop_zero]); (repeat (any_goals (first | go_big_quiet_step ((first | (go_at_call 8; (with_reducible apply quiet_call); with_reducible exact known10_c _) | (go_at_call 12; (with_reducible apply quiet_call); with_reducible exact complex_c _ _) | (go_at_call 12; (with_reducible apply quiet_call); with_reducible exact complex_c ⟨_, _⟩ _))) | quiet_step ((first | (go_at_call 8; (with_reducible apply quiet_call); with_reducible exact known10_c _) | (go_at_call 12; (with_reducible apply quiet_call); with_reducible exact complex_c _ _) | (go_at_call 12; (with_reducible apply quiet_call); with_reducible exact complex_c ⟨_, _⟩ _)))))); (with_reducible refine wpQuiet_nil ?_); intro r))
    go_loopw [54] (fun x wr => ∃ k : Nat, k ≤ T.length ∧ x = .int .i64 k ∧ More w wr ∧ GRow tk3 3 wr (.slice ao T.length ca) T ∧ GRow tk4 4 wr (.slice bo T.length cb) T) (fun x _ => T.length - (intOf x).toNat)
    case atStart => exact ⟨0, by omega, rfl, (by repeat (first | exact More.refl _ | refine More.alloc ?_ _ | refine More.more ?_ _ | refine More.drew ?_ | refine More.drewN ?_ _)), HR1.out.up (by repeat (first | exact More.refl _ | exact more_plus _ _ _ | refine More.alloc ?_ _ | refine More.more ?_ _ | refine More.drew ?_ | refine More.drewN ?_ _)), HR2.out.up (by repeat (first | exact More.refl _ | exact more_plus _ _ _ | refine More.alloc ?_ _ | refine More.more ?_ _ | refine More.drew ?_ | refine More.drewN ?_ _))⟩
    case round =>
      obtain ⟨k, hk, rfl, hM, h1, h2⟩ := hrel
      have HM := Lib.hid hM
      have H1 := Lib.hid h1
      have H2 := Lib.hid h2
      clear hM
      by_cases hkl : k < T.length
      · obtain ⟨⟨K, X, tl, tc⟩, ht⟩ : ∃ t, T[k]? = some t := ⟨T[k], List.getElem?_eq_getElem hkl⟩
        obtain ⟨q1, q2, q3⟩ := HT.out _ (List.mem_of_getElem? ht)
        try dsimp only at q1 q2 q3
        obtain ⟨b1, o1, rfl, hb1, d1⟩ := grow_at h1 ht (by rw [tk3_len]; decide)
        obtain ⟨b2, o2, rfl, hb2, d2⟩ := grow_at h2 ht (by rw [tk4_len]; decide)
        have c0 := d1 0 (.int .i64 K) rfl
        have c1 := d1 1 (.string (bsOf X)) rfl
        have c2 := d1 2 (.complex .f64 (nw tl) (nw tc)) rfl
        have e0 := d2 0 (.int .i64 K) rfl
        have e1 := d2 1 (.string (bsOf X)) rfl
        have e2 := d2 2 (.int .i64 tl) rfl
        have e3 := d2 3 (.int .i64 tc) rfl
        rw [Nat.add_zero] at c0 e0
        clear d1 d2 h1 h2 ht
        have o3 := ord_eq (n := tl) (by omega)
        have o4 := ord_eq (n := tc) (by omega)
        have n2 := neq_same K (bsOf X) (nw tl) (nw tc) (ord_nw (by omega)) (ord_nw (by omega))
        go_wp2_with (first | (go_at_call 8; (with_reducible refine (known10_c _).mono ?_); rintro e w' ⟨rfl, r, rfl⟩) | (go_at_call 12; (with_reducible refine (complex_c _ _).mono ?_); rintro e w' ⟨rfl, r, rfl⟩) | (go_at_call 12; (with_reducible refine (complex_c ⟨_, _⟩ _).mono ?_); rintro e w' ⟨rfl, r, rfl⟩) | ((with_reducible show Code.wp _ (Code.region 11 _ true) _ _ _); (with_reducible refine wp_more_quick_m (id := 11) ?_ ?_ ?_); kernel_rfl; kernel_rfl; (try simp only [List.take_succ_cons, List.take_zero, List.drop_succ_cons, List.drop_zero]); (repeat (any_goals (first | go_big_quiet_step ((first | (go_at_call 8; (with_reducible apply quiet_call); with_reducible exact known10_c _) | (go_at_call 12; (with_reducible apply quiet_call); with_reducible exact complex_c _ _) | (go_at_call 12; (with_reducible apply quiet_call); with_reducible exact complex_c ⟨_, _⟩ _))) | quiet_step ((first | (go_at_call 8; (with_reducible apply quiet_call); with_reducible exact known10_c _) | (go_at_call 12; (with_reducible apply quiet_call); with_reducible exact complex_c _ _) | (go_at_call 12; (with_reducible apply quiet_call); with_reducible exact complex_c ⟨_, _⟩ _)))))); (with_reducible refine wpQuiet_nil ?_); intro r) | ((with_reducible show Code.wp _ (Code.region 11 _ true) _ _ _); (with_reducible refine wp_more_quick (id := 11) ?_ ?_ ?_); kernel_rfl; kernel_rfl; (try simp only [List.take_succ_cons, List.take_zero, List.drop_succ_cons, List.drop_zero]); (repeat (any_goals (first | go_big_quiet_step ((first | (go_at_call 8; (with_reducible apply quiet_call); with_reducible exact known10_c _) | (go_at_call 12; (with_reducible apply quiet_call); with_reducible exact complex_c _ _) | (go_at_call 12; (with_reducible apply quiet_call); with_reducible exact complex_c ⟨_, _⟩ _))) | quiet_step ((first | (go_at_call 8; (with_reducible apply quiet_call); with_reducible exact known10_c _) | (go_at_call 12; (with_reducible apply quiet_call); with_reducible exact complex_c _ _) | (go_at_call 12; (with_reducible apply quiet_call); with_reducible exact complex_c ⟨_, _⟩ _)))))); (with_reducible refine wpQuiet_nil ?_); intro r))
        go_roundw
        case rel => exact ⟨k + 1, by omega, rfl, HM.out.trans (by repeat (first | exact More.refl _ | refine More.alloc ?_ _ | refine More.more ?_ _ | refine More.drew ?_ | refine More.drewN ?_ _)), H1.out.up (by repeat (first | exact More.refl _ | refine More.alloc ?_ _ | refine More.more ?_ _ | refine More.drew ?_ | refine More.drewN ?_ _)), H2.out.up (by repeat (first | exact More.refl _ | refine More.alloc ?_ _ | refine More.more ?_ _ | refine More.drew ?_ | refine More.drewN ?_ _))⟩
        case measure => simp [intOf] <;> omega
      · obtain rfl : k = T.length := by omega
        clear h1 h2
        go_wp2_with (first | (go_at_call 8; (with_reducible refine (known10_c _).mono ?_); rintro e w' ⟨rfl, r, rfl⟩) | (go_at_call 12; (with_reducible refine (complex_c _ _).mono ?_); rintro e w' ⟨rfl, r, rfl⟩) | (go_at_call 12; (with_reducible refine (complex_c ⟨_, _⟩ _).mono ?_); rintro e w' ⟨rfl, r, rfl⟩) | ((with_reducible show Code.wp _ (Code.region 11 _ true) _ _ _); (with_reducible refine wp_more_quick_m (id := 11) ?_ ?_ ?_); kernel_rfl; kernel_rfl; (try simp only [List.take_succ_cons, List.take_zero, List.drop_succ_cons, List.drop_zero]); (repeat (any_goals (first | go_big_quiet_step ((first | (go_at_call 8; (with_reducible apply quiet_call); with_reducible exact known10_c _) | (go_at_call 12; (with_reducible apply quiet_call); with_reducible exact complex_c _ _) | (go_at_call 12; (with_reducible apply quiet_call); with_reducible exact complex_c ⟨_, _⟩ _))) | quiet_step ((first | (go_at_call 8; (with_reducible apply quiet_call); with_reducible exact known10_c _) | (go_at_call 12; (with_reducible apply quiet_call); with_reducible exact complex_c _ _) | (go_at_call 12; (with_reducible apply quiet_call); with_reducible exact complex_c ⟨_, _⟩ _)))))); (with_reducible refine wpQuiet_nil ?_); intro r) | ((with_reducible show Code.wp _ (Code.region 11 _ true) _ _ _); (with_reducible refine wp_more_quick (id := 11) ?_ ?_ ?_); kernel_rfl; kernel_rfl; (try simp only [List.take_succ_cons, List.take_zero, List.drop_succ_cons, List.drop_zero]); (repeat (any_goals (first | go_big_quiet_step ((first | (go_at_call 8; (with_reducible apply quiet_call); with_reducible exact known10_c _) | (go_at_call 12; (with_reducible apply quiet_call); with_reducible exact complex_c _ _) | (go_at_call 12; (with_reducible apply quiet_call); with_reducible exact complex_c ⟨_, _⟩ _))) | quiet_step ((first | (go_at_call 8; (with_reducible apply quiet_call); with_reducible exact known10_c _) | (go_at_call 12; (with_reducible apply quiet_call); with_reducible exact complex_c _ _) | (go_at_call 12; (with_reducible apply quiet_call); with_reducible exact complex_c ⟨_, _⟩ _)))))); (with_reducible refine wpQuiet_nil ?_); intro r))
        go_returns
        exact ⟨rfl, HM.out.trans (by repeat (first | exact More.refl _ | refine More.alloc ?_ _ | refine More.more ?_ _ | refine More.drew ?_ | refine More.drewN ?_ _))⟩
  | true =>
    go_enter Tryd.func4, Tryd.ntmps4
    go_wp2_with (first | (go_at_call 10; (refine Calls.mono (put_c s0 l0 raw _ i0 k0 m0 w1) ?_); rintro e w' ⟨t, rfl, ht, r, rfl⟩))
    obtain ⟨⟨T, L, C, E⟩, hx⟩ : ∃ x, lexP raw = x := ⟨_, rfl⟩
    have hs := lexP_small raw
    rw [hx] at hs
    obtain ⟨hL, hC, hE, hT⟩ := hs
    try dsimp only at hL hC hE hT
    have hn := lexP_count raw
    rw [hx] at hn
    try dsimp only at hn
    have HT := Lib.hid hT
    clear hT
    have o1 := ord_eq (n := L) (by omega)
    have o2 := ord_eq (n := C) (by omega)
    go_wp2_with (first | (go_at_call 7; (refine Calls.mono (tokens_x raw hx (by omega) _) ?_); rintro e w' ⟨v1, rfl, ⟨r1, rfl⟩, hr1⟩))
    try dsimp only at hr1
    obtain ⟨ao, ca, rfl, -⟩ := grow_form (fun _ => by rw [tk3_len]; decide) hr1
    simp only [more_more] at hr1
    have HR1 := Lib.hid hr1
    clear hr1
    go_wp2_with (first | (go_at_call 11; (refine Calls.mono (rtokens_k raw hx (by omega) _) ?_); rintro e w' ⟨v2, rfl, ⟨r2, rfl⟩, hr2⟩))
    try dsimp only at hr2
    obtain ⟨bo, cb, rfl, -⟩ := grow_form (fun _ => by rw [tk4_len]; decide) hr2
    simp only [more_more] at hr2
    have HR2 := Lib.hid hr2
    clear hr2
    go_wp2_with (first | (go_at_call 8; (with_reducible refine (known10_c _).mono ?_); rintro e w' ⟨rfl, r, rfl⟩) | (go_at_call 12; (with_reducible refine (complex_c _ _).mono ?_); rintro e w' ⟨rfl, r, rfl⟩) | (go_at_call 12; (with_reducible refine (complex_c ⟨_, _⟩ _).mono ?_); rintro e w' ⟨rfl, r, rfl⟩) | ((with_reducible show Code.wp _ (Code.region 11 _ true) _ _ _); (with_reducible refine wp_more_quick_m (id := 11) ?_ ?_ ?_); kernel_rfl; kernel_rfl; (try simp only [List.take_succ_cons, List.take_zero, List.drop_succ_cons, List.drop_zero]); (repeat (any_goals (first | go_big_quiet_step ((first | (go_at_call 8; (with_reducible apply quiet_call); with_reducible exact known10_c _) | (go_at_call 12; (with_reducible apply quiet_call); with_reducible exact complex_c _ _) | (go_at_call 12; (with_reducible apply quiet_call); with_reducible exact complex_c ⟨_, _⟩ _))) | quiet_step ((first | (go_at_call 8; (with_reducible apply quiet_call); with_reducible exact known10_c _) | (go_at_call 12; (with_reducible apply quiet_call); with_reducible exact complex_c _ _) | (go_at_call 12; (with_reducible apply quiet_call); with_reducible exact complex_c ⟨_, _⟩ _)))))); (with_reducible refine wpQuiet_nil ?_); intro r) | ((with_reducible show Code.wp _ (Code.region 11 _ true) _ _ _); (with_reducible refine wp_more_quick (id := 11) ?_ ?_ ?_); kernel_rfl; kernel_rfl; (try simp only [List.take_succ_cons, List.take_zero, List.drop_succ_cons, List.drop_zero]); (repeat (any_goals (first | go_big_quiet_step ((first | (go_at_call 8; (with_reducible apply quiet_call); with_reducible exact known10_c _) | (go_at_call 12; (with_reducible apply quiet_call); with_reducible exact complex_c _ _) | (go_at_call 12; (with_reducible apply quiet_call); with_reducible exact complex_c ⟨_, _⟩ _))) | quiet_step ((first | (go_at_call 8; (with_reducible apply quiet_call); with_reducible exact known10_c _) | (go_at_call 12; (with_reducible apply quiet_call); with_reducible exact complex_c _ _) | (go_at_call 12; (with_reducible apply quiet_call); with_reducible exact complex_c ⟨_, _⟩ _)))))); (with_reducible refine wpQuiet_nil ?_); intro r))
    go_loopw [54] (fun x wr => ∃ k : Nat, k ≤ T.length ∧ x = .int .i64 k ∧ More w wr ∧ GRow tk3 3 wr (.slice ao T.length ca) T ∧ GRow tk4 4 wr (.slice bo T.length cb) T) (fun x _ => T.length - (intOf x).toNat)
    case atStart => exact ⟨0, by omega, rfl, (by repeat (first | exact More.refl _ | refine More.alloc ?_ _ | refine More.more ?_ _ | refine More.drew ?_ | refine More.drewN ?_ _)), HR1.out.up (by repeat (first | exact More.refl _ | exact more_plus _ _ _ | refine More.alloc ?_ _ | refine More.more ?_ _ | refine More.drew ?_ | refine More.drewN ?_ _)), HR2.out.up (by repeat (first | exact More.refl _ | exact more_plus _ _ _ | refine More.alloc ?_ _ | refine More.more ?_ _ | refine More.drew ?_ | refine More.drewN ?_ _))⟩
    case round =>
      obtain ⟨k, hk, rfl, hM, h1, h2⟩ := hrel
      have HM := Lib.hid hM
      have H1 := Lib.hid h1
      have H2 := Lib.hid h2
      clear hM
      by_cases hkl : k < T.length
      · obtain ⟨⟨K, X, tl, tc⟩, ht⟩ : ∃ t, T[k]? = some t := ⟨T[k], List.getElem?_eq_getElem hkl⟩
        obtain ⟨q1, q2, q3⟩ := HT.out _ (List.mem_of_getElem? ht)
        try dsimp only at q1 q2 q3
        obtain ⟨b1, o1, rfl, hb1, d1⟩ := grow_at h1 ht (by rw [tk3_len]; decide)
        obtain ⟨b2, o2, rfl, hb2, d2⟩ := grow_at h2 ht (by rw [tk4_len]; decide)
        have c0 := d1 0 (.int .i64 K) rfl
        have c1 := d1 1 (.string (bsOf X)) rfl
        have c2 := d1 2 (.complex .f64 (nw tl) (nw tc)) rfl
        have e0 := d2 0 (.int .i64 K) rfl
        have e1 := d2 1 (.string (bsOf X)) rfl
        have e2 := d2 2 (.int .i64 tl) rfl
        have e3 := d2 3 (.int .i64 tc) rfl
        rw [Nat.add_zero] at c0 e0
        clear d1 d2 h1 h2 ht
        have o3 := ord_eq (n := tl) (by omega)
        have o4 := ord_eq (n := tc) (by omega)
        have n2 := neq_same K (bsOf X) (nw tl) (nw tc) (ord_nw (by omega)) (ord_nw (by omega))
        go_wp2_with (first | (go_at_call 8; (with_reducible refine (known10_c _).mono ?_); rintro e w' ⟨rfl, r, rfl⟩) | (go_at_call 12; (with_reducible refine (complex_c _ _).mono ?_); rintro e w' ⟨rfl, r, rfl⟩) | (go_at_call 12; (with_reducible refine (complex_c ⟨_, _⟩ _).mono ?_); rintro e w' ⟨rfl, r, rfl⟩) | ((with_reducible show Code.wp _ (Code.region 11 _ true) _ _ _); (with_reducible refine wp_more_quick_m (id := 11) ?_ ?_ ?_); kernel_rfl; kernel_rfl; (try simp only [List.take_succ_cons, List.take_zero, List.drop_succ_cons, List.drop_zero]); (repeat (any_goals (first | go_big_quiet_step ((first | (go_at_call 8; (with_reducible apply quiet_call); with_reducible exact known10_c _) | (go_at_call 12; (with_reducible apply quiet_call); with_reducible exact complex_c _ _) | (go_at_call 12; (with_reducible apply quiet_call); with_reducible exact complex_c ⟨_, _⟩ _))) | quiet_step ((first | (go_at_call 8; (with_reducible apply quiet_call); with_reducible exact known10_c _) | (go_at_call 12; (with_reducible apply quiet_call); with_reducible exact complex_c _ _) | (go_at_call 12; (with_reducible apply quiet_call); with_reducible exact complex_c ⟨_, _⟩ _)))))); (with_reducible refine wpQuiet_nil ?_); intro r) | ((with_reducible show Code.wp _ (Code.region 11 _ true) _ _ _); (with_reducible refine wp_more_quick (id := 11) ?_ ?_ ?_); kernel_rfl; kernel_rfl; (try simp only [List.take_succ_cons, List.take_zero, List.drop_succ_cons, List.drop_zero]); (repeat (any_goals (first | go_big_quiet_step ((first | (go_at_call 8; (with_reducible apply quiet_call); with_reducible exact known10_c _) | (go_at_call 12; (with_reducible apply quiet_call); with_reducible exact complex_c _ _) | (go_at_call 12; (with_reducible apply quiet_call); with_reducible exact complex_c ⟨_, _⟩ _))) | quiet_step ((first | (go_at_call 8; (with_reducible apply quiet_call); with_reducible exact known10_c _) | (go_at_call 12; (with_reducible apply quiet_call); with_reducible exact complex_c _ _) | (go_at_call 12; (with_reducible apply quiet_call); with_reducible exact complex_c ⟨_, _⟩ _)))))); (with_reducible refine wpQuiet_nil ?_); intro r))
        go_roundw
        case rel => exact ⟨k + 1, by omega, rfl, HM.out.trans (by repeat (first | exact More.refl _ | refine More.alloc ?_ _ | refine More.more ?_ _ | refine More.drew ?_ | refine More.drewN ?_ _)), H1.out.up (by repeat (first | exact More.refl _ | refine More.alloc ?_ _ | refine More.more ?_ _ | refine More.drew ?_ | refine More.drewN ?_ _)), H2.out.up (by repeat (first | exact More.refl _ | refine More.alloc ?_ _ | refine More.more ?_ _ | refine More.drew ?_ | refine More.drewN ?_ _))⟩
        case measure => simp [intOf] <;> omega
      · obtain rfl : k = T.length := by omega
        clear h1 h2
        go_wp2_with (first | (go_at_call 8; (with_reducible refine (known10_c _).mono ?_); rintro e w' ⟨rfl, r, rfl⟩) | (go_at_call 12; (with_reducible refine (complex_c _ _).mono ?_); rintro e w' ⟨rfl, r, rfl⟩) | (go_at_call 12; (with_reducible refine (complex_c ⟨_, _⟩ _).mono ?_); rintro e w' ⟨rfl, r, rfl⟩) | ((with_reducible show Code.wp _ (Code.region 11 _ true) _ _ _); (with_reducible refine wp_more_quick_m (id := 11) ?_ ?_ ?_); kernel_rfl; kernel_rfl; (try simp only [List.take_succ_cons, List.take_zero, List.drop_succ_cons, List.drop_zero]); (repeat (any_goals (first | go_big_quiet_step ((first | (go_at_call 8; (with_reducible apply quiet_call); with_reducible exact known10_c _) | (go_at_call 12; (with_reducible apply quiet_call); with_reducible exact complex_c _ _) | (go_at_call 12; (with_reducible apply quiet_call); with_reducible exact complex_c ⟨_, _⟩ _))) | quiet_step ((first | (go_at_call 8; (with_reducible apply quiet_call); with_reducible exact known10_c _) | (go_at_call 12; (with_reducible apply quiet_call); with_reducible exact complex_c _ _) | (go_at_call 12; (with_reducible apply quiet_call); with_reducible exact complex_c ⟨_, _⟩ _)))))); (with_reducible refine wpQuiet_nil ?_); intro r) | ((with_reducible show Code.wp _ (Code.region 11 _ true) _ _ _); (with_reducible refine wp_more_quick (id := 11) ?_ ?_ ?_); kernel_rfl; kernel_rfl; (try simp only [List.take_succ_cons, List.take_zero, List.drop_succ_cons, List.drop_zero]); (repeat (any_goals (first | go_big_quiet_step ((first | (go_at_call 8; (with_reducible apply quiet_call); with_reducible exact known10_c _) | (go_at_call 12; (with_reducible apply quiet_call); with_reducible exact complex_c _ _) | (go_at_call 12; (with_reducible apply quiet_call); with_reducible exact complex_c ⟨_, _⟩ _))) | quiet_step ((first | (go_at_call 8; (with_reducible apply quiet_call); with_reducible exact known10_c _) | (go_at_call 12; (with_reducible apply quiet_call); with_reducible exact complex_c _ _) | (go_at_call 12; (with_reducible apply quiet_call); with_reducible exact complex_c ⟨_, _⟩ _)))))); (with_reducible refine wpQuiet_nil ?_); intro r))
        go_returns
        exact ⟨rfl, HM.out.trans (by repeat (first | exact More.refl _ | refine More.alloc ?_ _ | refine More.more ?_ _ | refine More.drew ?_ | refine More.drewN ?_ _))⟩
end Go.Proofs.YthhipepdkpoomaaDoor

