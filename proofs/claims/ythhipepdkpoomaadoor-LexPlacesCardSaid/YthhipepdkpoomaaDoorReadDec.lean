/-
  The contract of meniscusref8.ReadDec: it reads what package dec reads.
-/
import Derived.Test.YthhipepdkpoomaaDoorRef10
import Derived.Test.YthhipepdkpoomaaDoorReadMath
namespace Go.Proofs.YthhipepdkpoomaaDoor
set_option linter.unusedVariables false
open Go.ChangeShapes Go.WideShapes Go.ChangeAt Go.RowKit

theorem take_drop_all (u : List UInt8) (k n : Nat) (h : u.length ≤ k + n) : (u.drop k).take n = u.drop k := List.take_of_length_le (by rw [List.length_drop]; omega)

/-- The number in a cell. -/
def cellNat (w : World) (b o : Nat) : Nat := match w.cell? ⟨b, o, none⟩ with | some (.int _ n) => n.toNat | _ => 0
theorem cellNat_two (W : World) (o : Obj) (r : Rest) (a b : Int) (T : TypeId) : cellNat (more ((W.alloc o).alloc (.cells #[.int .i64 a, .int .i64 b] T)) r) (W.heap.size + 1) 1 = b.toNat := by
  unfold cellNat
  rw [cell_more _ _ _ _ (by simp)]
  have : ((W.alloc o).alloc (.cells #[.int .i64 a, .int .i64 b] T)).cell? ⟨W.heap.size + 1, 1, none⟩ = some (.int .i64 b) := by
    have e : W.heap.size + 1 = (W.alloc o).heap.size := by simp
    rw [e]
    simp
  rw [this]

set_option maxHeartbeats 4000000 in
theorem read8_c (s : ByteArray) (hs : s.size ≤ 9223372036854775807) (W : World) :
    Calls Tryd.prog 28 #[.string s] W fun e w' => e = .returned (.tuple #[decV (readP (lsOf s)).1, .bool (readP (lsOf s)).2]) ∧ More W w' := by
  obtain ⟨l, rfl⟩ := str_bs s
  rw [ls_bs]
  rw [size_bs] at hs
  obtain ⟨P, hP⟩ : ∃ P, P = readP l := ⟨_, rfl⟩
  rw [← hP]
  have start : ∃ (m : Bool) (u : List UInt8), isNeg l = m ∧ unsg l = u ∧ u.length ≤ l.length ∧ ((m = true ∧ l = 45 :: u) ∨ (m = false ∧ l = u ∧ (u = [] ∨ (byteAt u 0 == 45) = false ∧ 1 ≤ u.length))) := by
    refine ⟨isNeg l, unsg l, rfl, rfl, unsg_len l, ?_⟩
    cases l with
    | nil => exact .inr ⟨rfl, rfl, .inl rfl⟩
    | cons a r =>
      by_cases ha : a = 45
      · subst ha
        exact .inl ⟨rfl, rfl⟩
      · have hn : isNeg (a :: r) = false := by simpa [isNeg] using ha
        refine .inr ⟨hn, by unfold unsg; rw [hn]; rfl, .inr ⟨?_, by unfold unsg; rw [hn]; simp⟩⟩
        have hu : unsg (a :: r) = a :: r := by unfold unsg; rw [hn]; rfl
        rw [hu]
        have : ¬ byteAt (a :: r) 0 = 45 := fun h => ha ((byteAt_is (a :: r) 0 45).1 h)
        simpa using this
  obtain ⟨m, u, hm, hu, hul, hst⟩ := start
  have HNo := Lib.hid (show okA u = false → P = (⟨0, 0⟩, false) from by intro h; rw [hP]; exact readP_no (by rw [hu]; exact h))
  have HYes := Lib.hid (show ∀ c s : Nat, okA u = true → canon (valL (dotA u ++ dotB u)) (dotB u).length = (c, s) → P = if m = true ∧ c = 0 then (⟨0, 0⟩, false) else (⟨if m = true then -(c : Int) else (c : Int), (s : Int)⟩, true) from by
    intro c s h e
    rw [hP, readP_yes (by rw [hu]; exact h) c s (by rw [hu]; exact e), hm])
  clear hP hm hu
  rcases hst with ⟨rfl, rfl⟩ | ⟨rfl, he, rfl | ⟨h0, h1⟩⟩
  · have hb : byteAt (45 :: u) 0 = 45 := rfl
    have hlu : u.length ≤ 9223372036854775806 := by simp at hs; omega
    clear hs hul
    go_enter Tryd.func28, Tryd.ntmps28
    go_wp2_with (first | (go_at_call 27; (with_reducible refine (digit8_c _ _).mono ?_); rintro e w' ⟨rfl, rfl⟩) | (go_at_call 35; (with_reducible refine (rright8_c _ _).mono ?_); rintro e w' ⟨rfl, r, rfl⟩) | (go_at_call 35; (with_reducible refine (rright8_c ⟨_, _⟩ _).mono ?_); rintro e w' ⟨rfl, r, rfl⟩) | ((with_reducible show Code.wp _ (Code.region 7 _ true) _ _ _); (with_reducible refine wp_more_tailq_m (id := 7) 9 ?_ ?_ ?_); kernel_rfl; kernel_rfl; (try simp only [List.take_succ_cons, List.take_zero, List.drop_succ_cons, List.drop_zero]); (repeat (any_goals (first | go_big_quiet_step ((first | (go_at_call 27; (with_reducible apply quiet_same_b); (with_reducible exact digit8_c _ _); with_reducible assumption) | (go_at_call 27; (with_reducible apply quiet_call_same); with_reducible exact digit8_c _ _) | (go_at_call 35; (with_reducible apply quiet_call_b); (with_reducible exact rright8_c _ _); with_reducible assumption) | (go_at_call 35; (with_reducible apply quiet_call); with_reducible exact rright8_c _ _) | (go_at_call 35; (with_reducible apply quiet_call_b); (with_reducible exact rright8_c ⟨_, _⟩ _); with_reducible assumption) | (go_at_call 35; (with_reducible apply quiet_call); with_reducible exact rright8_c ⟨_, _⟩ _))) | quiet_step ((first | (go_at_call 27; (with_reducible apply quiet_same_b); (with_reducible exact digit8_c _ _); with_reducible assumption) | (go_at_call 27; (with_reducible apply quiet_call_same); with_reducible exact digit8_c _ _) | (go_at_call 35; (with_reducible apply quiet_call_b); (with_reducible exact rright8_c _ _); with_reducible assumption) | (go_at_call 35; (with_reducible apply quiet_call); with_reducible exact rright8_c _ _) | (go_at_call 35; (with_reducible apply quiet_call_b); (with_reducible exact rright8_c ⟨_, _⟩ _); with_reducible assumption) | (go_at_call 35; (with_reducible apply quiet_call); with_reducible exact rright8_c ⟨_, _⟩ _)))))); (with_reducible refine wpQuiet_nil ?_); intro r) | ((with_reducible show Code.wp _ (Code.region 7 _ true) _ _ _); (with_reducible refine wp_more_tailq (id := 7) 9 ?_ ?_ ?_); kernel_rfl; kernel_rfl; (try simp only [List.take_succ_cons, List.take_zero, List.drop_succ_cons, List.drop_zero]); (repeat (any_goals (first | go_big_quiet_step ((first | (go_at_call 27; (with_reducible apply quiet_same_b); (with_reducible exact digit8_c _ _); with_reducible assumption) | (go_at_call 27; (with_reducible apply quiet_call_same); with_reducible exact digit8_c _ _) | (go_at_call 35; (with_reducible apply quiet_call_b); (with_reducible exact rright8_c _ _); with_reducible assumption) | (go_at_call 35; (with_reducible apply quiet_call); with_reducible exact rright8_c _ _) | (go_at_call 35; (with_reducible apply quiet_call_b); (with_reducible exact rright8_c ⟨_, _⟩ _); with_reducible assumption) | (go_at_call 35; (with_reducible apply quiet_call); with_reducible exact rright8_c ⟨_, _⟩ _))) | quiet_step ((first | (go_at_call 27; (with_reducible apply quiet_same_b); (with_reducible exact digit8_c _ _); with_reducible assumption) | (go_at_call 27; (with_reducible apply quiet_call_same); with_reducible exact digit8_c _ _) | (go_at_call 35; (with_reducible apply quiet_call_b); (with_reducible exact rright8_c _ _); with_reducible assumption) | (go_at_call 35; (with_reducible apply quiet_call); with_reducible exact rright8_c _ _) | (go_at_call 35; (with_reducible apply quiet_call_b); (with_reducible exact rright8_c ⟨_, _⟩ _); with_reducible assumption) | (go_at_call 35; (with_reducible apply quiet_call); with_reducible exact rright8_c ⟨_, _⟩ _)))))); (with_reducible refine wpQuiet_nil ?_); intro r) | ((with_reducible show Code.wp _ (Code.region 22 _ true) _ _ _); (with_reducible refine wp_more_tailq_m (id := 22) 10 ?_ ?_ ?_); kernel_rfl; kernel_rfl; (try simp only [List.take_succ_cons, List.take_zero, List.drop_succ_cons, List.drop_zero]); (repeat (any_goals (first | go_big_quiet_step ((first | (go_at_call 27; (with_reducible apply quiet_same_b); (with_reducible exact digit8_c _ _); with_reducible assumption) | (go_at_call 27; (with_reducible apply quiet_call_same); with_reducible exact digit8_c _ _) | (go_at_call 35; (with_reducible apply quiet_call_b); (with_reducible exact rright8_c _ _); with_reducible assumption) | (go_at_call 35; (with_reducible apply quiet_call); with_reducible exact rright8_c _ _) | (go_at_call 35; (with_reducible apply quiet_call_b); (with_reducible exact rright8_c ⟨_, _⟩ _); with_reducible assumption) | (go_at_call 35; (with_reducible apply quiet_call); with_reducible exact rright8_c ⟨_, _⟩ _))) | quiet_step ((first | (go_at_call 27; (with_reducible apply quiet_same_b); (with_reducible exact digit8_c _ _); with_reducible assumption) | (go_at_call 27; (with_reducible apply quiet_call_same); with_reducible exact digit8_c _ _) | (go_at_call 35; (with_reducible apply quiet_call_b); (with_reducible exact rright8_c _ _); with_reducible assumption) | (go_at_call 35; (with_reducible apply quiet_call); with_reducible exact rright8_c _ _) | (go_at_call 35; (with_reducible apply quiet_call_b); (with_reducible exact rright8_c ⟨_, _⟩ _); with_reducible assumption) | (go_at_call 35; (with_reducible apply quiet_call); with_reducible exact rright8_c ⟨_, _⟩ _)))))); (with_reducible refine wpQuiet_nil ?_); intro r) | ((with_reducible show Code.wp _ (Code.region 22 _ true) _ _ _); (with_reducible refine wp_more_tailq (id := 22) 10 ?_ ?_ ?_); kernel_rfl; kernel_rfl; (try simp only [List.take_succ_cons, List.take_zero, List.drop_succ_cons, List.drop_zero]); (repeat (any_goals (first | go_big_quiet_step ((first | (go_at_call 27; (with_reducible apply quiet_same_b); (with_reducible exact digit8_c _ _); with_reducible assumption) | (go_at_call 27; (with_reducible apply quiet_call_same); with_reducible exact digit8_c _ _) | (go_at_call 35; (with_reducible apply quiet_call_b); (with_reducible exact rright8_c _ _); with_reducible assumption) | (go_at_call 35; (with_reducible apply quiet_call); with_reducible exact rright8_c _ _) | (go_at_call 35; (with_reducible apply quiet_call_b); (with_reducible exact rright8_c ⟨_, _⟩ _); with_reducible assumption) | (go_at_call 35; (with_reducible apply quiet_call); with_reducible exact rright8_c ⟨_, _⟩ _))) | quiet_step ((first | (go_at_call 27; (with_reducible apply quiet_same_b); (with_reducible exact digit8_c _ _); with_reducible assumption) | (go_at_call 27; (with_reducible apply quiet_call_same); with_reducible exact digit8_c _ _) | (go_at_call 35; (with_reducible apply quiet_call_b); (with_reducible exact rright8_c _ _); with_reducible assumption) | (go_at_call 35; (with_reducible apply quiet_call); with_reducible exact rright8_c _ _) | (go_at_call 35; (with_reducible apply quiet_call_b); (with_reducible exact rright8_c ⟨_, _⟩ _); with_reducible assumption) | (go_at_call 35; (with_reducible apply quiet_call); with_reducible exact rright8_c ⟨_, _⟩ _)))))); (with_reducible refine wpQuiet_nil ?_); intro r))
    clear hb
    go_loopw [0, 6] (fun x y wr => ∃ k : Nat, k ≤ 5 ∧ k ≤ u.length ∧ x = .string (bsOf (u.drop k)) ∧ y = .int .i64 k ∧ (u.take k).all isD = true ∧ ∃ s, wr = more ((W.alloc (.cells #[.int .i64 0, .int .i64 0] 56)).alloc (.cells #[.int .i64 (valL (u.take k)), .int .i64 0] 56)) s) (fun _ y _ => 6 - (intOf y).toNat)
    case atStart => exact ⟨0, by omega, by omega, rfl, rfl, rfl, ⟨#[], _⟩, (more_self _).symm⟩
    case round =>
      obtain ⟨k, hk5, hku, rfl, rfl, ha, s, rfl⟩ := hrel
      have HA := Lib.hid ha
      clear ha
      have hv := valL_lt (u.take k) HA.out
      have hv5 : (10 : Nat) ^ (u.take k).length ≤ 10 ^ 5 := Nat.pow_le_pow_right (by decide) (by rw [List.length_take]; omega)
      have hvb : (valL (u.take k) : Int) ≤ 100000 := by omega
      clear hv hv5
      by_cases hkl : k < u.length
      · have hby : byteAt (u.drop k) 0 = byteAt u k := byteAt_drop u k 0
        have hbd := byteAt_bd u k
        have hdl : 1 ≤ (u.drop k).length := by rw [List.length_drop]; omega
        by_cases hd : isDz (byteAt u k) = true
        · have hz : 48 ≤ byteAt u k ∧ byteAt u k ≤ 57 := by simpa [isDz] using hd
          have HT := Lib.hid (show (u.take (k + 1)).all isD = true from by rw [all_next u k hkl, HA.out]; simpa [isDz] using hd)
          have HV := Lib.hid (show (valL (u.take (k + 1)) : Int) = 10 * (valL (u.take k) : Int) + (byteAt u k - 48) from by
            rw [take_snoc u k hkl, valL_snoc]
            unfold byteAt at hz ⊢
            unfold dv
            omega)
          by_cases hk : k = 5
          · subst hk
            have hz := HNo.out (okA_six u (by omega) HT.out)
            subst hz
            clear HNo HYes
            go_wp2_with (first | (go_at_call 27; (with_reducible refine (digit8_c _ _).mono ?_); rintro e w' ⟨rfl, rfl⟩) | ((with_reducible show Code.wp _ (Code.region 7 _ true) _ _ _); (with_reducible refine wp_more_tailq_m (id := 7) 9 ?_ ?_ ?_); kernel_rfl; kernel_rfl; (try simp only [List.take_succ_cons, List.take_zero, List.drop_succ_cons, List.drop_zero]); (repeat (any_goals (first | go_big_quiet_step ((first | (go_at_call 27; (with_reducible apply quiet_same_b); (with_reducible exact digit8_c _ _); with_reducible assumption) | (go_at_call 27; (with_reducible apply quiet_call_same); with_reducible exact digit8_c _ _))) | quiet_step ((first | (go_at_call 27; (with_reducible apply quiet_same_b); (with_reducible exact digit8_c _ _); with_reducible assumption) | (go_at_call 27; (with_reducible apply quiet_call_same); with_reducible exact digit8_c _ _)))))); (with_reducible refine wpQuiet_nil ?_); intro r) | ((with_reducible show Code.wp _ (Code.region 7 _ true) _ _ _); (with_reducible refine wp_more_tailq (id := 7) 9 ?_ ?_ ?_); kernel_rfl; kernel_rfl; (try simp only [List.take_succ_cons, List.take_zero, List.drop_succ_cons, List.drop_zero]); (repeat (any_goals (first | go_big_quiet_step ((first | (go_at_call 27; (with_reducible apply quiet_same_b); (with_reducible exact digit8_c _ _); with_reducible assumption) | (go_at_call 27; (with_reducible apply quiet_call_same); with_reducible exact digit8_c _ _))) | quiet_step ((first | (go_at_call 27; (with_reducible apply quiet_same_b); (with_reducible exact digit8_c _ _); with_reducible assumption) | (go_at_call 27; (with_reducible apply quiet_call_same); with_reducible exact digit8_c _ _)))))); (with_reducible refine wpQuiet_nil ?_); intro r) | ((with_reducible show Code.wp _ (Code.region 22 _ true) _ _ _); (with_reducible refine wp_more_tailq_m (id := 22) 10 ?_ ?_ ?_); kernel_rfl; kernel_rfl; (try simp only [List.take_succ_cons, List.take_zero, List.drop_succ_cons, List.drop_zero]); (repeat (any_goals (first | go_big_quiet_step ((first | (go_at_call 27; (with_reducible apply quiet_same_b); (with_reducible exact digit8_c _ _); with_reducible assumption) | (go_at_call 27; (with_reducible apply quiet_call_same); with_reducible exact digit8_c _ _))) | quiet_step ((first | (go_at_call 27; (with_reducible apply quiet_same_b); (with_reducible exact digit8_c _ _); with_reducible assumption) | (go_at_call 27; (with_reducible apply quiet_call_same); with_reducible exact digit8_c _ _)))))); (with_reducible refine wpQuiet_nil ?_); intro r) | ((with_reducible show Code.wp _ (Code.region 22 _ true) _ _ _); (with_reducible refine wp_more_tailq (id := 22) 10 ?_ ?_ ?_); kernel_rfl; kernel_rfl; (try simp only [List.take_succ_cons, List.take_zero, List.drop_succ_cons, List.drop_zero]); (repeat (any_goals (first | go_big_quiet_step ((first | (go_at_call 27; (with_reducible apply quiet_same_b); (with_reducible exact digit8_c _ _); with_reducible assumption) | (go_at_call 27; (with_reducible apply quiet_call_same); with_reducible exact digit8_c _ _))) | quiet_step ((first | (go_at_call 27; (with_reducible apply quiet_same_b); (with_reducible exact digit8_c _ _); with_reducible assumption) | (go_at_call 27; (with_reducible apply quiet_call_same); with_reducible exact digit8_c _ _)))))); (with_reducible refine wpQuiet_nil ?_); intro r))
            go_returns
            exact ⟨rfl, (by repeat (first | exact More.refl _ | refine More.alloc ?_ _ | refine More.more ?_ _ | refine More.drew ?_ | refine More.drewN ?_ _))⟩
          · go_wp2_with (first | (go_at_call 27; (with_reducible refine (digit8_c _ _).mono ?_); rintro e w' ⟨rfl, rfl⟩) | ((with_reducible show Code.wp _ (Code.region 7 _ true) _ _ _); (with_reducible refine wp_more_tailq_m (id := 7) 9 ?_ ?_ ?_); kernel_rfl; kernel_rfl; (try simp only [List.take_succ_cons, List.take_zero, List.drop_succ_cons, List.drop_zero]); (repeat (any_goals (first | go_big_quiet_step ((first | (go_at_call 27; (with_reducible apply quiet_same_b); (with_reducible exact digit8_c _ _); with_reducible assumption) | (go_at_call 27; (with_reducible apply quiet_call_same); with_reducible exact digit8_c _ _))) | quiet_step ((first | (go_at_call 27; (with_reducible apply quiet_same_b); (with_reducible exact digit8_c _ _); with_reducible assumption) | (go_at_call 27; (with_reducible apply quiet_call_same); with_reducible exact digit8_c _ _)))))); (with_reducible refine wpQuiet_nil ?_); intro r) | ((with_reducible show Code.wp _ (Code.region 7 _ true) _ _ _); (with_reducible refine wp_more_tailq (id := 7) 9 ?_ ?_ ?_); kernel_rfl; kernel_rfl; (try simp only [List.take_succ_cons, List.take_zero, List.drop_succ_cons, List.drop_zero]); (repeat (any_goals (first | go_big_quiet_step ((first | (go_at_call 27; (with_reducible apply quiet_same_b); (with_reducible exact digit8_c _ _); with_reducible assumption) | (go_at_call 27; (with_reducible apply quiet_call_same); with_reducible exact digit8_c _ _))) | quiet_step ((first | (go_at_call 27; (with_reducible apply quiet_same_b); (with_reducible exact digit8_c _ _); with_reducible assumption) | (go_at_call 27; (with_reducible apply quiet_call_same); with_reducible exact digit8_c _ _)))))); (with_reducible refine wpQuiet_nil ?_); intro r) | ((with_reducible show Code.wp _ (Code.region 22 _ true) _ _ _); (with_reducible refine wp_more_tailq_m (id := 22) 10 ?_ ?_ ?_); kernel_rfl; kernel_rfl; (try simp only [List.take_succ_cons, List.take_zero, List.drop_succ_cons, List.drop_zero]); (repeat (any_goals (first | go_big_quiet_step ((first | (go_at_call 27; (with_reducible apply quiet_same_b); (with_reducible exact digit8_c _ _); with_reducible assumption) | (go_at_call 27; (with_reducible apply quiet_call_same); with_reducible exact digit8_c _ _))) | quiet_step ((first | (go_at_call 27; (with_reducible apply quiet_same_b); (with_reducible exact digit8_c _ _); with_reducible assumption) | (go_at_call 27; (with_reducible apply quiet_call_same); with_reducible exact digit8_c _ _)))))); (with_reducible refine wpQuiet_nil ?_); intro r) | ((with_reducible show Code.wp _ (Code.region 22 _ true) _ _ _); (with_reducible refine wp_more_tailq (id := 22) 10 ?_ ?_ ?_); kernel_rfl; kernel_rfl; (try simp only [List.take_succ_cons, List.take_zero, List.drop_succ_cons, List.drop_zero]); (repeat (any_goals (first | go_big_quiet_step ((first | (go_at_call 27; (with_reducible apply quiet_same_b); (with_reducible exact digit8_c _ _); with_reducible assumption) | (go_at_call 27; (with_reducible apply quiet_call_same); with_reducible exact digit8_c _ _))) | quiet_step ((first | (go_at_call 27; (with_reducible apply quiet_same_b); (with_reducible exact digit8_c _ _); with_reducible assumption) | (go_at_call 27; (with_reducible apply quiet_call_same); with_reducible exact digit8_c _ _)))))); (with_reducible refine wpQuiet_nil ?_); intro r))
            go_roundw
            case rel => exact ⟨k + 1, by omega, by omega, by rw [take_drop_all u (k + 1) (u.length - k - 1) (by omega)], rfl, HT.out, _, by rw [HV.out]⟩
            case measure => simp [intOf]; omega
        · have hdf : isDz (byteAt u k) = false := by simpa using hd
          have HF := Lib.hid (show isD (u.getD k 0) = false from by rw [← isDz_at]; exact hdf)
          clear hd
          obtain ⟨n, hn⟩ : ∃ n, u.length - k = n := ⟨_, rfl⟩
          have hn1 : 1 ≤ n := by omega
          by_cases hk0 : k = 0
          · subst hk0
            have hz := HNo.out (okA_none u (fun _ => HF.out))
            subst hz
            clear HNo HYes
            go_wp2_with (first | (go_at_call 27; (with_reducible refine (digit8_c _ _).mono ?_); rintro e w' ⟨rfl, rfl⟩))
            go_returns
            exact ⟨rfl, (by repeat (first | exact More.refl _ | refine More.alloc ?_ _ | refine More.more ?_ _ | refine More.drew ?_ | refine More.drewN ?_ _))⟩
          have hk0' : 1 ≤ k := by omega
          have hk0b : ((k : Int) == 0) = false := beq_eq_false_iff_ne.2 (by omega)
          clear hk0
          by_cases hp : byteAt u k = 46
          · obtain ⟨g1, g2, g3⟩ := okA_point u k hkl hk0' hk5 HA.out ((byteAt_is u k 46).1 hp)
            have G1 := Lib.hid g1
            have G2 := Lib.hid g2
            have G3 := Lib.hid g3
            have hbl : (u.drop (k + 1)).length = n - 1 := by rw [List.length_drop]; omega
            clear g1 g2 g3
            by_cases hl1 : n = 1
            · have hz := HNo.out (by rw [G3.out]; exact digs_false (.inl (by omega)))
              subst hz
              subst hl1
              clear HNo HYes
              go_wp2_with (first | (go_at_call 27; (with_reducible refine (digit8_c _ _).mono ?_); rintro e w' ⟨rfl, rfl⟩))
              go_returns
              exact ⟨rfl, (by repeat (first | exact More.refl _ | refine More.alloc ?_ _ | refine More.more ?_ _ | refine More.drew ?_ | refine More.drewN ?_ _))⟩
            have hl1b : ((n : Int) == 1) = false := beq_eq_false_iff_ne.2 (by omega)
            by_cases hl7 : 7 < n
            · have hz := HNo.out (by rw [G3.out]; exact digs_false (.inr (.inl (by omega))))
              subst hz
              clear HNo HYes
              go_wp2_with (first | (go_at_call 27; (with_reducible refine (digit8_c _ _).mono ?_); rintro e w' ⟨rfl, rfl⟩))
              go_returns
              exact ⟨rfl, (by repeat (first | exact More.refl _ | refine More.alloc ?_ _ | refine More.more ?_ _ | refine More.drew ?_ | refine More.drewN ?_ _))⟩
            have hdz : isDz 46 = false := rfl
            go_wp2_with (first | (go_at_call 27; (with_reducible refine (digit8_c _ _).mono ?_); rintro e w' ⟨rfl, rfl⟩))
            clear hdf HF hbl
            go_loopw [7] (fun x wr => ∃ j : Nat, j + 1 ≤ n ∧ x = .int .i64 ((j : Int) + 1) ∧ ((u.drop (k + 1)).take j).all isD = true ∧ ∃ s2, wr = more ((W.alloc (.cells #[.int .i64 0, .int .i64 0] 56)).alloc (.cells #[.int .i64 (valL (u.take k ++ (u.drop (k + 1)).take j)), .int .i64 j] 56)) s2) (fun x _ => n - (intOf x).toNat)
            case atStart => exact ⟨0, by omega, rfl, rfl, s, by rw [List.take_zero, List.append_nil]; rfl⟩
            case round =>
              obtain ⟨j, hjn, rfl, hja, s2, rfl⟩ := hrel
              have HJ := Lib.hid hja
              clear hja
              have hall : (u.take k ++ (u.drop (k + 1)).take j).all isD = true := by rw [List.all_append, HA.out, HJ.out]; rfl
              have hlen : (u.take k ++ (u.drop (k + 1)).take j).length ≤ 11 := by rw [List.length_append, List.length_take, List.length_take]; omega
              have hvb2 := valL_small _ hall hlen
              clear hall hlen
              by_cases hj : j + 1 < n
              · have hjl : j < (u.drop (k + 1)).length := by rw [List.length_drop]; omega
                have hby2 : byteAt (u.drop k) (j + 1) = byteAt (u.drop (k + 1)) j := by rw [byteAt_drop, byteAt_drop]; congr 1; omega
                have hbd2 := byteAt_bd (u.drop (k + 1)) j
                by_cases hd : isDz (byteAt (u.drop (k + 1)) j) = true
                · have hz : 48 ≤ byteAt (u.drop (k + 1)) j ∧ byteAt (u.drop (k + 1)) j ≤ 57 := by simpa [isDz] using hd
                  have HT := Lib.hid (show ((u.drop (k + 1)).take (j + 1)).all isD = true from by rw [all_next _ j hjl, HJ.out]; simpa [isDz] using hd)
                  have HV := Lib.hid (show (valL (u.take k ++ (u.drop (k + 1)).take (j + 1)) : Int) = 10 * (valL (u.take k ++ (u.drop (k + 1)).take j) : Int) + (byteAt (u.drop (k + 1)) j - 48) from by
                    rw [take_snoc _ j hjl, ← List.append_assoc, valL_snoc]
                    unfold byteAt at hz ⊢
                    unfold dv
                    omega)
                  clear hjl
                  go_wp2_with (first | (go_at_call 27; (with_reducible refine (digit8_c _ _).mono ?_); rintro e w' ⟨rfl, rfl⟩) | ((with_reducible show Code.wp _ (Code.region 7 _ true) _ _ _); (with_reducible refine wp_more_tailq_m (id := 7) 9 ?_ ?_ ?_); kernel_rfl; kernel_rfl; (try simp only [List.take_succ_cons, List.take_zero, List.drop_succ_cons, List.drop_zero]); (repeat (any_goals (first | go_big_quiet_step ((first | (go_at_call 27; (with_reducible apply quiet_same_b); (with_reducible exact digit8_c _ _); with_reducible assumption) | (go_at_call 27; (with_reducible apply quiet_call_same); with_reducible exact digit8_c _ _))) | quiet_step ((first | (go_at_call 27; (with_reducible apply quiet_same_b); (with_reducible exact digit8_c _ _); with_reducible assumption) | (go_at_call 27; (with_reducible apply quiet_call_same); with_reducible exact digit8_c _ _)))))); (with_reducible refine wpQuiet_nil ?_); intro r) | ((with_reducible show Code.wp _ (Code.region 7 _ true) _ _ _); (with_reducible refine wp_more_tailq (id := 7) 9 ?_ ?_ ?_); kernel_rfl; kernel_rfl; (try simp only [List.take_succ_cons, List.take_zero, List.drop_succ_cons, List.drop_zero]); (repeat (any_goals (first | go_big_quiet_step ((first | (go_at_call 27; (with_reducible apply quiet_same_b); (with_reducible exact digit8_c _ _); with_reducible assumption) | (go_at_call 27; (with_reducible apply quiet_call_same); with_reducible exact digit8_c _ _))) | quiet_step ((first | (go_at_call 27; (with_reducible apply quiet_same_b); (with_reducible exact digit8_c _ _); with_reducible assumption) | (go_at_call 27; (with_reducible apply quiet_call_same); with_reducible exact digit8_c _ _)))))); (with_reducible refine wpQuiet_nil ?_); intro r) | ((with_reducible show Code.wp _ (Code.region 22 _ true) _ _ _); (with_reducible refine wp_more_tailq_m (id := 22) 10 ?_ ?_ ?_); kernel_rfl; kernel_rfl; (try simp only [List.take_succ_cons, List.take_zero, List.drop_succ_cons, List.drop_zero]); (repeat (any_goals (first | go_big_quiet_step ((first | (go_at_call 27; (with_reducible apply quiet_same_b); (with_reducible exact digit8_c _ _); with_reducible assumption) | (go_at_call 27; (with_reducible apply quiet_call_same); with_reducible exact digit8_c _ _))) | quiet_step ((first | (go_at_call 27; (with_reducible apply quiet_same_b); (with_reducible exact digit8_c _ _); with_reducible assumption) | (go_at_call 27; (with_reducible apply quiet_call_same); with_reducible exact digit8_c _ _)))))); (with_reducible refine wpQuiet_nil ?_); intro r) | ((with_reducible show Code.wp _ (Code.region 22 _ true) _ _ _); (with_reducible refine wp_more_tailq (id := 22) 10 ?_ ?_ ?_); kernel_rfl; kernel_rfl; (try simp only [List.take_succ_cons, List.take_zero, List.drop_succ_cons, List.drop_zero]); (repeat (any_goals (first | go_big_quiet_step ((first | (go_at_call 27; (with_reducible apply quiet_same_b); (with_reducible exact digit8_c _ _); with_reducible assumption) | (go_at_call 27; (with_reducible apply quiet_call_same); with_reducible exact digit8_c _ _))) | quiet_step ((first | (go_at_call 27; (with_reducible apply quiet_same_b); (with_reducible exact digit8_c _ _); with_reducible assumption) | (go_at_call 27; (with_reducible apply quiet_call_same); with_reducible exact digit8_c _ _)))))); (with_reducible refine wpQuiet_nil ?_); intro r))
                  go_roundw
                  case rel => exact ⟨j + 1, by omega, by go_num, HT.out, _, by rw [HV.out]; rfl⟩
                  case measure => simp [intOf]; omega
                · have hdf : isDz (byteAt (u.drop (k + 1)) j) = false := by simpa using hd
                  have hz := HNo.out (by
                    rw [G3.out]
                    apply digs_false
                    right; right
                    apply all_stops _ j hjl
                    simp only [isDz, Bool.and_eq_false_iff, decide_eq_false_iff_not] at hdf
                    omega)
                  subst hz
                  clear HNo HYes hd hjl
                  go_wp2_with (first | (go_at_call 27; (with_reducible refine (digit8_c _ _).mono ?_); rintro e w' ⟨rfl, rfl⟩))
                  go_returns
                  exact ⟨rfl, (by repeat (first | exact More.refl _ | refine More.alloc ?_ _ | refine More.more ?_ _ | refine More.drew ?_ | refine More.drewN ?_ _))⟩
              · have hjn' : j + 1 = n := by omega
                have hle : (u.drop (k + 1)).length = j := by rw [List.length_drop]; omega
                have htk : (u.drop (k + 1)).take j = u.drop (k + 1) := List.take_of_length_le (by omega)
                have hda : (u.drop (k + 1)).all isD = true := by rw [← htk]; exact HJ.out
                have hok : okA u = true := by
                  rw [G3.out]
                  unfold digs
                  rw [hda, hle]
                  simp
                  omega
                have HY := Lib.hid (show ∀ c s : Nat, canon (valL (u.take k ++ (u.drop (k + 1)).take j)) j = (c, s) → P = _ from fun c s e => HYes.out c s hok (by rw [G1.out, G2.out, hle, ← htk]; exact e))
                clear HNo HYes hok hda htk hle
                have hC0 : valL (u.take k ++ (u.drop (k + 1)).take j) ≤ 100000000000 := by omega
                have hS0 : j ≤ 6 := by omega
                obtain ⟨C0, hC⟩ : ∃ C0, valL (u.take k ++ (u.drop (k + 1)).take j) = C0 := ⟨_, rfl⟩
                rw [hC] at HY hC0 hvb2 ⊢
                clear hC
                go_wp2_with fail
                go_loopw [] (fun wr => ∃ c s3 : Nat, s3 ≤ 6 ∧ c ≤ 100000000000 ∧ canon c s3 = canon C0 j ∧ ∃ r, wr = more ((W.alloc (.cells #[.int .i64 0, .int .i64 0] 56)).alloc (.cells #[.int .i64 c, .int .i64 s3] 56)) r) (fun wr => cellNat wr (W.heap.size + 1) 1)
                case atStart => exact ⟨C0, j, hS0, hC0, rfl, _, rfl⟩
                case round =>
                  obtain ⟨c, s3, hs3, hc3, hcan, r, rfl⟩ := hrel
                  have HC := Lib.hid hcan
                  clear hcan
                  by_cases h0 : s3 = 0
                  · subst h0
                    have hP := HY.out c 0 (by rw [← HC.out]; rfl)
                    have hR := decRight_mk (c := (c : Int)) (s := 0) (by omega) (by omega) (by omega) (by omega) (.inl rfl)
                    have hR' := decRight_mk (c := -(c : Int)) (s := 0) (by omega) (by omega) (by omega) (by omega) (.inl rfl)
                    by_cases hcz : c = 0
                    · subst hcz
                      subst hP
                      clear HY HC
                      go_wp2_with (first | (go_at_call 35; (with_reducible refine (rright8_c _ _).mono ?_); rintro e w' ⟨rfl, r, rfl⟩) | (go_at_call 35; (with_reducible refine (rright8_c ⟨_, _⟩ _).mono ?_); rintro e w' ⟨rfl, r, rfl⟩))
                      go_returns
                      exact ⟨rfl, (by repeat (first | exact More.refl _ | refine More.alloc ?_ _ | refine More.more ?_ _ | refine More.drew ?_ | refine More.drewN ?_ _))⟩
                    · have hczb : ((c : Int) == 0) = false := beq_eq_false_iff_ne.2 (by omega)
                      rw [if_neg (fun h => hcz h.2)] at hP
                      subst hP
                      clear HY HC
                      go_wp2_with (first | (go_at_call 35; (with_reducible refine (rright8_c _ _).mono ?_); rintro e w' ⟨rfl, r, rfl⟩) | (go_at_call 35; (with_reducible refine (rright8_c ⟨_, _⟩ _).mono ?_); rintro e w' ⟨rfl, r, rfl⟩))
                      go_returns
                      exact ⟨rfl, (by repeat (first | exact More.refl _ | refine More.alloc ?_ _ | refine More.more ?_ _ | refine More.drew ?_ | refine More.drewN ?_ _))⟩
                  · have h0' : 1 ≤ s3 := by omega
                    have hmod : (c : Int).tmod 10 = (c : Int) % 10 := Int.tmod_eq_emod_of_nonneg (by omega)
                    have hdiv : (c : Int).tdiv 10 = (c : Int) / 10 := Int.tdiv_eq_ediv_of_nonneg (by omega)
                    by_cases h10 : c % 10 = 0
                    · have h10b : ((c : Int) % 10 == 0) = true := by simp; omega
                      have HS := Lib.hid (show canon (c / 10) (s3 - 1) = canon c s3 from canon_step h0' h10)
                      clear h10
                      go_wp2_with fail
                      go_roundw
                      case rel => exact ⟨c / 10, s3 - 1, by omega, by omega, by rw [HS.out]; exact HC.out, _, by rw [show ((s3 - 1 : Nat) : Int) = (s3 : Int) - 1 from by omega]; rfl⟩
                      case measure => rw [cellNat_two, cellNat_two]; omega
                    · have h10b : ((c : Int) % 10 == 0) = false := beq_eq_false_iff_ne.2 (by omega)
                      have hP := HY.out c s3 (by rw [← HC.out]; exact canon_end (.inr h10))
                      have hR := decRight_mk (c := (c : Int)) (s := (s3 : Int)) (by omega) (by omega) (by omega) (by omega) (.inr (by omega))
                      have hR' := decRight_mk (c := -(c : Int)) (s := (s3 : Int)) (by omega) (by omega) (by omega) (by omega) (.inr (by rw [Int.neg_tmod]; omega))
                      have hcz : ¬ c = 0 := by omega
                      have hczb : ((c : Int) == 0) = false := beq_eq_false_iff_ne.2 (by omega)
                      rw [if_neg (fun h => hcz h.2)] at hP
                      subst hP
                      clear HY HC h10
                      go_wp2_with (first | (go_at_call 35; (with_reducible refine (rright8_c _ _).mono ?_); rintro e w' ⟨rfl, r, rfl⟩) | (go_at_call 35; (with_reducible refine (rright8_c ⟨_, _⟩ _).mono ?_); rintro e w' ⟨rfl, r, rfl⟩))
                      go_returns
                      exact ⟨rfl, (by repeat (first | exact More.refl _ | refine More.alloc ?_ _ | refine More.more ?_ _ | refine More.drew ?_ | refine More.drewN ?_ _))⟩
          · have hz := HNo.out (okA_bad u k hkl HA.out HF.out (fun e => hp ((byteAt_is u k 46).2 e)))
            subst hz
            have hpb : (byteAt u k != 46) = true := bne_iff_ne.2 hp
            clear HNo HYes hp
            go_wp2_with (first | (go_at_call 27; (with_reducible refine (digit8_c _ _).mono ?_); rintro e w' ⟨rfl, rfl⟩))
            go_returns
            exact ⟨rfl, (by repeat (first | exact More.refl _ | refine More.alloc ?_ _ | refine More.more ?_ _ | refine More.drew ?_ | refine More.drewN ?_ _))⟩
      · have hkl2 : u.length = k := by omega
        have hut : u.take k = u := List.take_of_length_le (by omega)
        by_cases hk0 : k = 0
        · subst hk0
          have hz := HNo.out (okA_none u (fun h => by omega))
          subst hz
          clear HNo HYes
          go_wp2_with fail
          go_returns
          exact ⟨rfl, (by repeat (first | exact More.refl _ | refine More.alloc ?_ _ | refine More.more ?_ _ | refine More.drew ?_ | refine More.drewN ?_ _))⟩
        have hk0' : 1 ≤ k := by omega
        have hk0b : ((k : Int) == 0) = false := beq_eq_false_iff_ne.2 (by omega)
        obtain ⟨g1, g2, g3⟩ := okA_end u (by omega) (by omega) (by rw [← hut]; exact HA.out)
        have HY := Lib.hid (show ∀ c s : Nat, canon (valL (u.take k)) 0 = (c, s) → P = _ from fun c s e => HYes.out c s g1 (by rw [g2, g3, List.append_nil, ← hut]; exact e))
        clear HNo HYes g1 g2 g3 hut
        have hC0 : valL (u.take k) ≤ 100000000000 := by omega
        have hS0 : 0 ≤ 6 := by omega
        obtain ⟨C0, hC⟩ : ∃ C0, valL (u.take k) = C0 := ⟨_, rfl⟩
        rw [hC] at HY hC0 hvb ⊢
        clear hC
        have hdn : (u.drop k).length = 0 := by rw [List.length_drop]; omega
        go_wp2_with fail
        refine wp_loop_rounds 1 ?_
        rw [rounds_succ]
        have hP := HY.out C0 0 rfl
        have hR := decRight_mk (c := (C0 : Int)) (s := 0) (by omega) (by omega) (by omega) (by omega) (.inl rfl)
        have hR' := decRight_mk (c := -(C0 : Int)) (s := 0) (by omega) (by omega) (by omega) (by omega) (.inl rfl)
        by_cases hcz : C0 = 0
        · subst hcz
          subst hP
          clear HY
          go_wp2_with (first | (go_at_call 35; (with_reducible refine (rright8_c _ _).mono ?_); rintro e w' ⟨rfl, r, rfl⟩) | (go_at_call 35; (with_reducible refine (rright8_c ⟨_, _⟩ _).mono ?_); rintro e w' ⟨rfl, r, rfl⟩))
          go_returns
          exact ⟨rfl, (by repeat (first | exact More.refl _ | refine More.alloc ?_ _ | refine More.more ?_ _ | refine More.drew ?_ | refine More.drewN ?_ _))⟩
        · have hczb : ((C0 : Int) == 0) = false := beq_eq_false_iff_ne.2 (by omega)
          rw [if_neg (fun h => hcz h.2)] at hP
          subst hP
          clear HY
          go_wp2_with (first | (go_at_call 35; (with_reducible refine (rright8_c _ _).mono ?_); rintro e w' ⟨rfl, r, rfl⟩) | (go_at_call 35; (with_reducible refine (rright8_c ⟨_, _⟩ _).mono ?_); rintro e w' ⟨rfl, r, rfl⟩))
          go_returns
          exact ⟨rfl, (by repeat (first | exact More.refl _ | refine More.alloc ?_ _ | refine More.more ?_ _ | refine More.drew ?_ | refine More.drewN ?_ _))⟩
  · subst he
    have hz := HNo.out (okA_none [] (fun h => by simp at h))
    subst hz
    clear HNo HYes
    go_enter Tryd.func28, Tryd.ntmps28
    go_wp2_with (first | (go_at_call 27; (with_reducible refine (digit8_c _ _).mono ?_); rintro e w' ⟨rfl, rfl⟩) | (go_at_call 35; (with_reducible refine (rright8_c _ _).mono ?_); rintro e w' ⟨rfl, r, rfl⟩) | (go_at_call 35; (with_reducible refine (rright8_c ⟨_, _⟩ _).mono ?_); rintro e w' ⟨rfl, r, rfl⟩) | ((with_reducible show Code.wp _ (Code.region 7 _ true) _ _ _); (with_reducible refine wp_more_tailq_m (id := 7) 9 ?_ ?_ ?_); kernel_rfl; kernel_rfl; (try simp only [List.take_succ_cons, List.take_zero, List.drop_succ_cons, List.drop_zero]); (repeat (any_goals (first | go_big_quiet_step ((first | (go_at_call 27; (with_reducible apply quiet_same_b); (with_reducible exact digit8_c _ _); with_reducible assumption) | (go_at_call 27; (with_reducible apply quiet_call_same); with_reducible exact digit8_c _ _) | (go_at_call 35; (with_reducible apply quiet_call_b); (with_reducible exact rright8_c _ _); with_reducible assumption) | (go_at_call 35; (with_reducible apply quiet_call); with_reducible exact rright8_c _ _) | (go_at_call 35; (with_reducible apply quiet_call_b); (with_reducible exact rright8_c ⟨_, _⟩ _); with_reducible assumption) | (go_at_call 35; (with_reducible apply quiet_call); with_reducible exact rright8_c ⟨_, _⟩ _))) | quiet_step ((first | (go_at_call 27; (with_reducible apply quiet_same_b); (with_reducible exact digit8_c _ _); with_reducible assumption) | (go_at_call 27; (with_reducible apply quiet_call_same); with_reducible exact digit8_c _ _) | (go_at_call 35; (with_reducible apply quiet_call_b); (with_reducible exact rright8_c _ _); with_reducible assumption) | (go_at_call 35; (with_reducible apply quiet_call); with_reducible exact rright8_c _ _) | (go_at_call 35; (with_reducible apply quiet_call_b); (with_reducible exact rright8_c ⟨_, _⟩ _); with_reducible assumption) | (go_at_call 35; (with_reducible apply quiet_call); with_reducible exact rright8_c ⟨_, _⟩ _)))))); (with_reducible refine wpQuiet_nil ?_); intro r) | ((with_reducible show Code.wp _ (Code.region 7 _ true) _ _ _); (with_reducible refine wp_more_tailq (id := 7) 9 ?_ ?_ ?_); kernel_rfl; kernel_rfl; (try simp only [List.take_succ_cons, List.take_zero, List.drop_succ_cons, List.drop_zero]); (repeat (any_goals (first | go_big_quiet_step ((first | (go_at_call 27; (with_reducible apply quiet_same_b); (with_reducible exact digit8_c _ _); with_reducible assumption) | (go_at_call 27; (with_reducible apply quiet_call_same); with_reducible exact digit8_c _ _) | (go_at_call 35; (with_reducible apply quiet_call_b); (with_reducible exact rright8_c _ _); with_reducible assumption) | (go_at_call 35; (with_reducible apply quiet_call); with_reducible exact rright8_c _ _) | (go_at_call 35; (with_reducible apply quiet_call_b); (with_reducible exact rright8_c ⟨_, _⟩ _); with_reducible assumption) | (go_at_call 35; (with_reducible apply quiet_call); with_reducible exact rright8_c ⟨_, _⟩ _))) | quiet_step ((first | (go_at_call 27; (with_reducible apply quiet_same_b); (with_reducible exact digit8_c _ _); with_reducible assumption) | (go_at_call 27; (with_reducible apply quiet_call_same); with_reducible exact digit8_c _ _) | (go_at_call 35; (with_reducible apply quiet_call_b); (with_reducible exact rright8_c _ _); with_reducible assumption) | (go_at_call 35; (with_reducible apply quiet_call); with_reducible exact rright8_c _ _) | (go_at_call 35; (with_reducible apply quiet_call_b); (with_reducible exact rright8_c ⟨_, _⟩ _); with_reducible assumption) | (go_at_call 35; (with_reducible apply quiet_call); with_reducible exact rright8_c ⟨_, _⟩ _)))))); (with_reducible refine wpQuiet_nil ?_); intro r) | ((with_reducible show Code.wp _ (Code.region 22 _ true) _ _ _); (with_reducible refine wp_more_tailq_m (id := 22) 10 ?_ ?_ ?_); kernel_rfl; kernel_rfl; (try simp only [List.take_succ_cons, List.take_zero, List.drop_succ_cons, List.drop_zero]); (repeat (any_goals (first | go_big_quiet_step ((first | (go_at_call 27; (with_reducible apply quiet_same_b); (with_reducible exact digit8_c _ _); with_reducible assumption) | (go_at_call 27; (with_reducible apply quiet_call_same); with_reducible exact digit8_c _ _) | (go_at_call 35; (with_reducible apply quiet_call_b); (with_reducible exact rright8_c _ _); with_reducible assumption) | (go_at_call 35; (with_reducible apply quiet_call); with_reducible exact rright8_c _ _) | (go_at_call 35; (with_reducible apply quiet_call_b); (with_reducible exact rright8_c ⟨_, _⟩ _); with_reducible assumption) | (go_at_call 35; (with_reducible apply quiet_call); with_reducible exact rright8_c ⟨_, _⟩ _))) | quiet_step ((first | (go_at_call 27; (with_reducible apply quiet_same_b); (with_reducible exact digit8_c _ _); with_reducible assumption) | (go_at_call 27; (with_reducible apply quiet_call_same); with_reducible exact digit8_c _ _) | (go_at_call 35; (with_reducible apply quiet_call_b); (with_reducible exact rright8_c _ _); with_reducible assumption) | (go_at_call 35; (with_reducible apply quiet_call); with_reducible exact rright8_c _ _) | (go_at_call 35; (with_reducible apply quiet_call_b); (with_reducible exact rright8_c ⟨_, _⟩ _); with_reducible assumption) | (go_at_call 35; (with_reducible apply quiet_call); with_reducible exact rright8_c ⟨_, _⟩ _)))))); (with_reducible refine wpQuiet_nil ?_); intro r) | ((with_reducible show Code.wp _ (Code.region 22 _ true) _ _ _); (with_reducible refine wp_more_tailq (id := 22) 10 ?_ ?_ ?_); kernel_rfl; kernel_rfl; (try simp only [List.take_succ_cons, List.take_zero, List.drop_succ_cons, List.drop_zero]); (repeat (any_goals (first | go_big_quiet_step ((first | (go_at_call 27; (with_reducible apply quiet_same_b); (with_reducible exact digit8_c _ _); with_reducible assumption) | (go_at_call 27; (with_reducible apply quiet_call_same); with_reducible exact digit8_c _ _) | (go_at_call 35; (with_reducible apply quiet_call_b); (with_reducible exact rright8_c _ _); with_reducible assumption) | (go_at_call 35; (with_reducible apply quiet_call); with_reducible exact rright8_c _ _) | (go_at_call 35; (with_reducible apply quiet_call_b); (with_reducible exact rright8_c ⟨_, _⟩ _); with_reducible assumption) | (go_at_call 35; (with_reducible apply quiet_call); with_reducible exact rright8_c ⟨_, _⟩ _))) | quiet_step ((first | (go_at_call 27; (with_reducible apply quiet_same_b); (with_reducible exact digit8_c _ _); with_reducible assumption) | (go_at_call 27; (with_reducible apply quiet_call_same); with_reducible exact digit8_c _ _) | (go_at_call 35; (with_reducible apply quiet_call_b); (with_reducible exact rright8_c _ _); with_reducible assumption) | (go_at_call 35; (with_reducible apply quiet_call); with_reducible exact rright8_c _ _) | (go_at_call 35; (with_reducible apply quiet_call_b); (with_reducible exact rright8_c ⟨_, _⟩ _); with_reducible assumption) | (go_at_call 35; (with_reducible apply quiet_call); with_reducible exact rright8_c ⟨_, _⟩ _)))))); (with_reducible refine wpQuiet_nil ?_); intro r))
    refine wp_loop_rounds 1 ?_
    rw [rounds_succ]
    go_wp2_with (first | (go_at_call 27; (with_reducible refine (digit8_c _ _).mono ?_); rintro e w' ⟨rfl, rfl⟩) | (go_at_call 35; (with_reducible refine (rright8_c _ _).mono ?_); rintro e w' ⟨rfl, r, rfl⟩) | (go_at_call 35; (with_reducible refine (rright8_c ⟨_, _⟩ _).mono ?_); rintro e w' ⟨rfl, r, rfl⟩) | ((with_reducible show Code.wp _ (Code.region 7 _ true) _ _ _); (with_reducible refine wp_more_tailq_m (id := 7) 9 ?_ ?_ ?_); kernel_rfl; kernel_rfl; (try simp only [List.take_succ_cons, List.take_zero, List.drop_succ_cons, List.drop_zero]); (repeat (any_goals (first | go_big_quiet_step ((first | (go_at_call 27; (with_reducible apply quiet_same_b); (with_reducible exact digit8_c _ _); with_reducible assumption) | (go_at_call 27; (with_reducible apply quiet_call_same); with_reducible exact digit8_c _ _) | (go_at_call 35; (with_reducible apply quiet_call_b); (with_reducible exact rright8_c _ _); with_reducible assumption) | (go_at_call 35; (with_reducible apply quiet_call); with_reducible exact rright8_c _ _) | (go_at_call 35; (with_reducible apply quiet_call_b); (with_reducible exact rright8_c ⟨_, _⟩ _); with_reducible assumption) | (go_at_call 35; (with_reducible apply quiet_call); with_reducible exact rright8_c ⟨_, _⟩ _))) | quiet_step ((first | (go_at_call 27; (with_reducible apply quiet_same_b); (with_reducible exact digit8_c _ _); with_reducible assumption) | (go_at_call 27; (with_reducible apply quiet_call_same); with_reducible exact digit8_c _ _) | (go_at_call 35; (with_reducible apply quiet_call_b); (with_reducible exact rright8_c _ _); with_reducible assumption) | (go_at_call 35; (with_reducible apply quiet_call); with_reducible exact rright8_c _ _) | (go_at_call 35; (with_reducible apply quiet_call_b); (with_reducible exact rright8_c ⟨_, _⟩ _); with_reducible assumption) | (go_at_call 35; (with_reducible apply quiet_call); with_reducible exact rright8_c ⟨_, _⟩ _)))))); (with_reducible refine wpQuiet_nil ?_); intro r) | ((with_reducible show Code.wp _ (Code.region 7 _ true) _ _ _); (with_reducible refine wp_more_tailq (id := 7) 9 ?_ ?_ ?_); kernel_rfl; kernel_rfl; (try simp only [List.take_succ_cons, List.take_zero, List.drop_succ_cons, List.drop_zero]); (repeat (any_goals (first | go_big_quiet_step ((first | (go_at_call 27; (with_reducible apply quiet_same_b); (with_reducible exact digit8_c _ _); with_reducible assumption) | (go_at_call 27; (with_reducible apply quiet_call_same); with_reducible exact digit8_c _ _) | (go_at_call 35; (with_reducible apply quiet_call_b); (with_reducible exact rright8_c _ _); with_reducible assumption) | (go_at_call 35; (with_reducible apply quiet_call); with_reducible exact rright8_c _ _) | (go_at_call 35; (with_reducible apply quiet_call_b); (with_reducible exact rright8_c ⟨_, _⟩ _); with_reducible assumption) | (go_at_call 35; (with_reducible apply quiet_call); with_reducible exact rright8_c ⟨_, _⟩ _))) | quiet_step ((first | (go_at_call 27; (with_reducible apply quiet_same_b); (with_reducible exact digit8_c _ _); with_reducible assumption) | (go_at_call 27; (with_reducible apply quiet_call_same); with_reducible exact digit8_c _ _) | (go_at_call 35; (with_reducible apply quiet_call_b); (with_reducible exact rright8_c _ _); with_reducible assumption) | (go_at_call 35; (with_reducible apply quiet_call); with_reducible exact rright8_c _ _) | (go_at_call 35; (with_reducible apply quiet_call_b); (with_reducible exact rright8_c ⟨_, _⟩ _); with_reducible assumption) | (go_at_call 35; (with_reducible apply quiet_call); with_reducible exact rright8_c ⟨_, _⟩ _)))))); (with_reducible refine wpQuiet_nil ?_); intro r) | ((with_reducible show Code.wp _ (Code.region 22 _ true) _ _ _); (with_reducible refine wp_more_tailq_m (id := 22) 10 ?_ ?_ ?_); kernel_rfl; kernel_rfl; (try simp only [List.take_succ_cons, List.take_zero, List.drop_succ_cons, List.drop_zero]); (repeat (any_goals (first | go_big_quiet_step ((first | (go_at_call 27; (with_reducible apply quiet_same_b); (with_reducible exact digit8_c _ _); with_reducible assumption) | (go_at_call 27; (with_reducible apply quiet_call_same); with_reducible exact digit8_c _ _) | (go_at_call 35; (with_reducible apply quiet_call_b); (with_reducible exact rright8_c _ _); with_reducible assumption) | (go_at_call 35; (with_reducible apply quiet_call); with_reducible exact rright8_c _ _) | (go_at_call 35; (with_reducible apply quiet_call_b); (with_reducible exact rright8_c ⟨_, _⟩ _); with_reducible assumption) | (go_at_call 35; (with_reducible apply quiet_call); with_reducible exact rright8_c ⟨_, _⟩ _))) | quiet_step ((first | (go_at_call 27; (with_reducible apply quiet_same_b); (with_reducible exact digit8_c _ _); with_reducible assumption) | (go_at_call 27; (with_reducible apply quiet_call_same); with_reducible exact digit8_c _ _) | (go_at_call 35; (with_reducible apply quiet_call_b); (with_reducible exact rright8_c _ _); with_reducible assumption) | (go_at_call 35; (with_reducible apply quiet_call); with_reducible exact rright8_c _ _) | (go_at_call 35; (with_reducible apply quiet_call_b); (with_reducible exact rright8_c ⟨_, _⟩ _); with_reducible assumption) | (go_at_call 35; (with_reducible apply quiet_call); with_reducible exact rright8_c ⟨_, _⟩ _)))))); (with_reducible refine wpQuiet_nil ?_); intro r) | ((with_reducible show Code.wp _ (Code.region 22 _ true) _ _ _); (with_reducible refine wp_more_tailq (id := 22) 10 ?_ ?_ ?_); kernel_rfl; kernel_rfl; (try simp only [List.take_succ_cons, List.take_zero, List.drop_succ_cons, List.drop_zero]); (repeat (any_goals (first | go_big_quiet_step ((first | (go_at_call 27; (with_reducible apply quiet_same_b); (with_reducible exact digit8_c _ _); with_reducible assumption) | (go_at_call 27; (with_reducible apply quiet_call_same); with_reducible exact digit8_c _ _) | (go_at_call 35; (with_reducible apply quiet_call_b); (with_reducible exact rright8_c _ _); with_reducible assumption) | (go_at_call 35; (with_reducible apply quiet_call); with_reducible exact rright8_c _ _) | (go_at_call 35; (with_reducible apply quiet_call_b); (with_reducible exact rright8_c ⟨_, _⟩ _); with_reducible assumption) | (go_at_call 35; (with_reducible apply quiet_call); with_reducible exact rright8_c ⟨_, _⟩ _))) | quiet_step ((first | (go_at_call 27; (with_reducible apply quiet_same_b); (with_reducible exact digit8_c _ _); with_reducible assumption) | (go_at_call 27; (with_reducible apply quiet_call_same); with_reducible exact digit8_c _ _) | (go_at_call 35; (with_reducible apply quiet_call_b); (with_reducible exact rright8_c _ _); with_reducible assumption) | (go_at_call 35; (with_reducible apply quiet_call); with_reducible exact rright8_c _ _) | (go_at_call 35; (with_reducible apply quiet_call_b); (with_reducible exact rright8_c ⟨_, _⟩ _); with_reducible assumption) | (go_at_call 35; (with_reducible apply quiet_call); with_reducible exact rright8_c ⟨_, _⟩ _)))))); (with_reducible refine wpQuiet_nil ?_); intro r))
    go_returns
    exact ⟨rfl, (by repeat (first | exact More.refl _ | refine More.alloc ?_ _ | refine More.more ?_ _ | refine More.drew ?_ | refine More.drewN ?_ _))⟩
  · have he' := he.symm
    subst he'
    have hlu : u.length ≤ 9223372036854775807 := hs
    clear hs hul he
    go_enter Tryd.func28, Tryd.ntmps28
    go_wp2_with (first | (go_at_call 27; (with_reducible refine (digit8_c _ _).mono ?_); rintro e w' ⟨rfl, rfl⟩) | (go_at_call 35; (with_reducible refine (rright8_c _ _).mono ?_); rintro e w' ⟨rfl, r, rfl⟩) | (go_at_call 35; (with_reducible refine (rright8_c ⟨_, _⟩ _).mono ?_); rintro e w' ⟨rfl, r, rfl⟩) | ((with_reducible show Code.wp _ (Code.region 7 _ true) _ _ _); (with_reducible refine wp_more_tailq_m (id := 7) 9 ?_ ?_ ?_); kernel_rfl; kernel_rfl; (try simp only [List.take_succ_cons, List.take_zero, List.drop_succ_cons, List.drop_zero]); (repeat (any_goals (first | go_big_quiet_step ((first | (go_at_call 27; (with_reducible apply quiet_same_b); (with_reducible exact digit8_c _ _); with_reducible assumption) | (go_at_call 27; (with_reducible apply quiet_call_same); with_reducible exact digit8_c _ _) | (go_at_call 35; (with_reducible apply quiet_call_b); (with_reducible exact rright8_c _ _); with_reducible assumption) | (go_at_call 35; (with_reducible apply quiet_call); with_reducible exact rright8_c _ _) | (go_at_call 35; (with_reducible apply quiet_call_b); (with_reducible exact rright8_c ⟨_, _⟩ _); with_reducible assumption) | (go_at_call 35; (with_reducible apply quiet_call); with_reducible exact rright8_c ⟨_, _⟩ _))) | quiet_step ((first | (go_at_call 27; (with_reducible apply quiet_same_b); (with_reducible exact digit8_c _ _); with_reducible assumption) | (go_at_call 27; (with_reducible apply quiet_call_same); with_reducible exact digit8_c _ _) | (go_at_call 35; (with_reducible apply quiet_call_b); (with_reducible exact rright8_c _ _); with_reducible assumption) | (go_at_call 35; (with_reducible apply quiet_call); with_reducible exact rright8_c _ _) | (go_at_call 35; (with_reducible apply quiet_call_b); (with_reducible exact rright8_c ⟨_, _⟩ _); with_reducible assumption) | (go_at_call 35; (with_reducible apply quiet_call); with_reducible exact rright8_c ⟨_, _⟩ _)))))); (with_reducible refine wpQuiet_nil ?_); intro r) | ((with_reducible show Code.wp _ (Code.region 7 _ true) _ _ _); (with_reducible refine wp_more_tailq (id := 7) 9 ?_ ?_ ?_); kernel_rfl; kernel_rfl; (try simp only [List.take_succ_cons, List.take_zero, List.drop_succ_cons, List.drop_zero]); (repeat (any_goals (first | go_big_quiet_step ((first | (go_at_call 27; (with_reducible apply quiet_same_b); (with_reducible exact digit8_c _ _); with_reducible assumption) | (go_at_call 27; (with_reducible apply quiet_call_same); with_reducible exact digit8_c _ _) | (go_at_call 35; (with_reducible apply quiet_call_b); (with_reducible exact rright8_c _ _); with_reducible assumption) | (go_at_call 35; (with_reducible apply quiet_call); with_reducible exact rright8_c _ _) | (go_at_call 35; (with_reducible apply quiet_call_b); (with_reducible exact rright8_c ⟨_, _⟩ _); with_reducible assumption) | (go_at_call 35; (with_reducible apply quiet_call); with_reducible exact rright8_c ⟨_, _⟩ _))) | quiet_step ((first | (go_at_call 27; (with_reducible apply quiet_same_b); (with_reducible exact digit8_c _ _); with_reducible assumption) | (go_at_call 27; (with_reducible apply quiet_call_same); with_reducible exact digit8_c _ _) | (go_at_call 35; (with_reducible apply quiet_call_b); (with_reducible exact rright8_c _ _); with_reducible assumption) | (go_at_call 35; (with_reducible apply quiet_call); with_reducible exact rright8_c _ _) | (go_at_call 35; (with_reducible apply quiet_call_b); (with_reducible exact rright8_c ⟨_, _⟩ _); with_reducible assumption) | (go_at_call 35; (with_reducible apply quiet_call); with_reducible exact rright8_c ⟨_, _⟩ _)))))); (with_reducible refine wpQuiet_nil ?_); intro r) | ((with_reducible show Code.wp _ (Code.region 22 _ true) _ _ _); (with_reducible refine wp_more_tailq_m (id := 22) 10 ?_ ?_ ?_); kernel_rfl; kernel_rfl; (try simp only [List.take_succ_cons, List.take_zero, List.drop_succ_cons, List.drop_zero]); (repeat (any_goals (first | go_big_quiet_step ((first | (go_at_call 27; (with_reducible apply quiet_same_b); (with_reducible exact digit8_c _ _); with_reducible assumption) | (go_at_call 27; (with_reducible apply quiet_call_same); with_reducible exact digit8_c _ _) | (go_at_call 35; (with_reducible apply quiet_call_b); (with_reducible exact rright8_c _ _); with_reducible assumption) | (go_at_call 35; (with_reducible apply quiet_call); with_reducible exact rright8_c _ _) | (go_at_call 35; (with_reducible apply quiet_call_b); (with_reducible exact rright8_c ⟨_, _⟩ _); with_reducible assumption) | (go_at_call 35; (with_reducible apply quiet_call); with_reducible exact rright8_c ⟨_, _⟩ _))) | quiet_step ((first | (go_at_call 27; (with_reducible apply quiet_same_b); (with_reducible exact digit8_c _ _); with_reducible assumption) | (go_at_call 27; (with_reducible apply quiet_call_same); with_reducible exact digit8_c _ _) | (go_at_call 35; (with_reducible apply quiet_call_b); (with_reducible exact rright8_c _ _); with_reducible assumption) | (go_at_call 35; (with_reducible apply quiet_call); with_reducible exact rright8_c _ _) | (go_at_call 35; (with_reducible apply quiet_call_b); (with_reducible exact rright8_c ⟨_, _⟩ _); with_reducible assumption) | (go_at_call 35; (with_reducible apply quiet_call); with_reducible exact rright8_c ⟨_, _⟩ _)))))); (with_reducible refine wpQuiet_nil ?_); intro r) | ((with_reducible show Code.wp _ (Code.region 22 _ true) _ _ _); (with_reducible refine wp_more_tailq (id := 22) 10 ?_ ?_ ?_); kernel_rfl; kernel_rfl; (try simp only [List.take_succ_cons, List.take_zero, List.drop_succ_cons, List.drop_zero]); (repeat (any_goals (first | go_big_quiet_step ((first | (go_at_call 27; (with_reducible apply quiet_same_b); (with_reducible exact digit8_c _ _); with_reducible assumption) | (go_at_call 27; (with_reducible apply quiet_call_same); with_reducible exact digit8_c _ _) | (go_at_call 35; (with_reducible apply quiet_call_b); (with_reducible exact rright8_c _ _); with_reducible assumption) | (go_at_call 35; (with_reducible apply quiet_call); with_reducible exact rright8_c _ _) | (go_at_call 35; (with_reducible apply quiet_call_b); (with_reducible exact rright8_c ⟨_, _⟩ _); with_reducible assumption) | (go_at_call 35; (with_reducible apply quiet_call); with_reducible exact rright8_c ⟨_, _⟩ _))) | quiet_step ((first | (go_at_call 27; (with_reducible apply quiet_same_b); (with_reducible exact digit8_c _ _); with_reducible assumption) | (go_at_call 27; (with_reducible apply quiet_call_same); with_reducible exact digit8_c _ _) | (go_at_call 35; (with_reducible apply quiet_call_b); (with_reducible exact rright8_c _ _); with_reducible assumption) | (go_at_call 35; (with_reducible apply quiet_call); with_reducible exact rright8_c _ _) | (go_at_call 35; (with_reducible apply quiet_call_b); (with_reducible exact rright8_c ⟨_, _⟩ _); with_reducible assumption) | (go_at_call 35; (with_reducible apply quiet_call); with_reducible exact rright8_c ⟨_, _⟩ _)))))); (with_reducible refine wpQuiet_nil ?_); intro r))
    clear h0
    go_loopw [0, 6] (fun x y wr => ∃ k : Nat, k ≤ 5 ∧ k ≤ u.length ∧ x = .string (bsOf (u.drop k)) ∧ y = .int .i64 k ∧ (u.take k).all isD = true ∧ ∃ s, wr = more ((W.alloc (.cells #[.int .i64 0, .int .i64 0] 56)).alloc (.cells #[.int .i64 (valL (u.take k)), .int .i64 0] 56)) s) (fun _ y _ => 6 - (intOf y).toNat)
    case atStart => exact ⟨0, by omega, by omega, rfl, rfl, rfl, ⟨#[], _⟩, (more_self _).symm⟩
    case round =>
      obtain ⟨k, hk5, hku, rfl, rfl, ha, s, rfl⟩ := hrel
      have HA := Lib.hid ha
      clear ha
      have hv := valL_lt (u.take k) HA.out
      have hv5 : (10 : Nat) ^ (u.take k).length ≤ 10 ^ 5 := Nat.pow_le_pow_right (by decide) (by rw [List.length_take]; omega)
      have hvb : (valL (u.take k) : Int) ≤ 100000 := by omega
      clear hv hv5
      by_cases hkl : k < u.length
      · have hby : byteAt (u.drop k) 0 = byteAt u k := byteAt_drop u k 0
        have hbd := byteAt_bd u k
        have hdl : 1 ≤ (u.drop k).length := by rw [List.length_drop]; omega
        by_cases hd : isDz (byteAt u k) = true
        · have hz : 48 ≤ byteAt u k ∧ byteAt u k ≤ 57 := by simpa [isDz] using hd
          have HT := Lib.hid (show (u.take (k + 1)).all isD = true from by rw [all_next u k hkl, HA.out]; simpa [isDz] using hd)
          have HV := Lib.hid (show (valL (u.take (k + 1)) : Int) = 10 * (valL (u.take k) : Int) + (byteAt u k - 48) from by
            rw [take_snoc u k hkl, valL_snoc]
            unfold byteAt at hz ⊢
            unfold dv
            omega)
          by_cases hk : k = 5
          · subst hk
            have hz := HNo.out (okA_six u (by omega) HT.out)
            subst hz
            clear HNo HYes
            go_wp2_with (first | (go_at_call 27; (with_reducible refine (digit8_c _ _).mono ?_); rintro e w' ⟨rfl, rfl⟩) | ((with_reducible show Code.wp _ (Code.region 7 _ true) _ _ _); (with_reducible refine wp_more_tailq_m (id := 7) 9 ?_ ?_ ?_); kernel_rfl; kernel_rfl; (try simp only [List.take_succ_cons, List.take_zero, List.drop_succ_cons, List.drop_zero]); (repeat (any_goals (first | go_big_quiet_step ((first | (go_at_call 27; (with_reducible apply quiet_same_b); (with_reducible exact digit8_c _ _); with_reducible assumption) | (go_at_call 27; (with_reducible apply quiet_call_same); with_reducible exact digit8_c _ _))) | quiet_step ((first | (go_at_call 27; (with_reducible apply quiet_same_b); (with_reducible exact digit8_c _ _); with_reducible assumption) | (go_at_call 27; (with_reducible apply quiet_call_same); with_reducible exact digit8_c _ _)))))); (with_reducible refine wpQuiet_nil ?_); intro r) | ((with_reducible show Code.wp _ (Code.region 7 _ true) _ _ _); (with_reducible refine wp_more_tailq (id := 7) 9 ?_ ?_ ?_); kernel_rfl; kernel_rfl; (try simp only [List.take_succ_cons, List.take_zero, List.drop_succ_cons, List.drop_zero]); (repeat (any_goals (first | go_big_quiet_step ((first | (go_at_call 27; (with_reducible apply quiet_same_b); (with_reducible exact digit8_c _ _); with_reducible assumption) | (go_at_call 27; (with_reducible apply quiet_call_same); with_reducible exact digit8_c _ _))) | quiet_step ((first | (go_at_call 27; (with_reducible apply quiet_same_b); (with_reducible exact digit8_c _ _); with_reducible assumption) | (go_at_call 27; (with_reducible apply quiet_call_same); with_reducible exact digit8_c _ _)))))); (with_reducible refine wpQuiet_nil ?_); intro r) | ((with_reducible show Code.wp _ (Code.region 22 _ true) _ _ _); (with_reducible refine wp_more_tailq_m (id := 22) 10 ?_ ?_ ?_); kernel_rfl; kernel_rfl; (try simp only [List.take_succ_cons, List.take_zero, List.drop_succ_cons, List.drop_zero]); (repeat (any_goals (first | go_big_quiet_step ((first | (go_at_call 27; (with_reducible apply quiet_same_b); (with_reducible exact digit8_c _ _); with_reducible assumption) | (go_at_call 27; (with_reducible apply quiet_call_same); with_reducible exact digit8_c _ _))) | quiet_step ((first | (go_at_call 27; (with_reducible apply quiet_same_b); (with_reducible exact digit8_c _ _); with_reducible assumption) | (go_at_call 27; (with_reducible apply quiet_call_same); with_reducible exact digit8_c _ _)))))); (with_reducible refine wpQuiet_nil ?_); intro r) | ((with_reducible show Code.wp _ (Code.region 22 _ true) _ _ _); (with_reducible refine wp_more_tailq (id := 22) 10 ?_ ?_ ?_); kernel_rfl; kernel_rfl; (try simp only [List.take_succ_cons, List.take_zero, List.drop_succ_cons, List.drop_zero]); (repeat (any_goals (first | go_big_quiet_step ((first | (go_at_call 27; (with_reducible apply quiet_same_b); (with_reducible exact digit8_c _ _); with_reducible assumption) | (go_at_call 27; (with_reducible apply quiet_call_same); with_reducible exact digit8_c _ _))) | quiet_step ((first | (go_at_call 27; (with_reducible apply quiet_same_b); (with_reducible exact digit8_c _ _); with_reducible assumption) | (go_at_call 27; (with_reducible apply quiet_call_same); with_reducible exact digit8_c _ _)))))); (with_reducible refine wpQuiet_nil ?_); intro r))
            go_returns
            exact ⟨rfl, (by repeat (first | exact More.refl _ | refine More.alloc ?_ _ | refine More.more ?_ _ | refine More.drew ?_ | refine More.drewN ?_ _))⟩
          · go_wp2_with (first | (go_at_call 27; (with_reducible refine (digit8_c _ _).mono ?_); rintro e w' ⟨rfl, rfl⟩) | ((with_reducible show Code.wp _ (Code.region 7 _ true) _ _ _); (with_reducible refine wp_more_tailq_m (id := 7) 9 ?_ ?_ ?_); kernel_rfl; kernel_rfl; (try simp only [List.take_succ_cons, List.take_zero, List.drop_succ_cons, List.drop_zero]); (repeat (any_goals (first | go_big_quiet_step ((first | (go_at_call 27; (with_reducible apply quiet_same_b); (with_reducible exact digit8_c _ _); with_reducible assumption) | (go_at_call 27; (with_reducible apply quiet_call_same); with_reducible exact digit8_c _ _))) | quiet_step ((first | (go_at_call 27; (with_reducible apply quiet_same_b); (with_reducible exact digit8_c _ _); with_reducible assumption) | (go_at_call 27; (with_reducible apply quiet_call_same); with_reducible exact digit8_c _ _)))))); (with_reducible refine wpQuiet_nil ?_); intro r) | ((with_reducible show Code.wp _ (Code.region 7 _ true) _ _ _); (with_reducible refine wp_more_tailq (id := 7) 9 ?_ ?_ ?_); kernel_rfl; kernel_rfl; (try simp only [List.take_succ_cons, List.take_zero, List.drop_succ_cons, List.drop_zero]); (repeat (any_goals (first | go_big_quiet_step ((first | (go_at_call 27; (with_reducible apply quiet_same_b); (with_reducible exact digit8_c _ _); with_reducible assumption) | (go_at_call 27; (with_reducible apply quiet_call_same); with_reducible exact digit8_c _ _))) | quiet_step ((first | (go_at_call 27; (with_reducible apply quiet_same_b); (with_reducible exact digit8_c _ _); with_reducible assumption) | (go_at_call 27; (with_reducible apply quiet_call_same); with_reducible exact digit8_c _ _)))))); (with_reducible refine wpQuiet_nil ?_); intro r) | ((with_reducible show Code.wp _ (Code.region 22 _ true) _ _ _); (with_reducible refine wp_more_tailq_m (id := 22) 10 ?_ ?_ ?_); kernel_rfl; kernel_rfl; (try simp only [List.take_succ_cons, List.take_zero, List.drop_succ_cons, List.drop_zero]); (repeat (any_goals (first | go_big_quiet_step ((first | (go_at_call 27; (with_reducible apply quiet_same_b); (with_reducible exact digit8_c _ _); with_reducible assumption) | (go_at_call 27; (with_reducible apply quiet_call_same); with_reducible exact digit8_c _ _))) | quiet_step ((first | (go_at_call 27; (with_reducible apply quiet_same_b); (with_reducible exact digit8_c _ _); with_reducible assumption) | (go_at_call 27; (with_reducible apply quiet_call_same); with_reducible exact digit8_c _ _)))))); (with_reducible refine wpQuiet_nil ?_); intro r) | ((with_reducible show Code.wp _ (Code.region 22 _ true) _ _ _); (with_reducible refine wp_more_tailq (id := 22) 10 ?_ ?_ ?_); kernel_rfl; kernel_rfl; (try simp only [List.take_succ_cons, List.take_zero, List.drop_succ_cons, List.drop_zero]); (repeat (any_goals (first | go_big_quiet_step ((first | (go_at_call 27; (with_reducible apply quiet_same_b); (with_reducible exact digit8_c _ _); with_reducible assumption) | (go_at_call 27; (with_reducible apply quiet_call_same); with_reducible exact digit8_c _ _))) | quiet_step ((first | (go_at_call 27; (with_reducible apply quiet_same_b); (with_reducible exact digit8_c _ _); with_reducible assumption) | (go_at_call 27; (with_reducible apply quiet_call_same); with_reducible exact digit8_c _ _)))))); (with_reducible refine wpQuiet_nil ?_); intro r))
            go_roundw
            case rel => exact ⟨k + 1, by omega, by omega, by rw [take_drop_all u (k + 1) (u.length - k - 1) (by omega)], rfl, HT.out, _, by rw [HV.out]⟩
            case measure => simp [intOf]; omega
        · have hdf : isDz (byteAt u k) = false := by simpa using hd
          have HF := Lib.hid (show isD (u.getD k 0) = false from by rw [← isDz_at]; exact hdf)
          clear hd
          obtain ⟨n, hn⟩ : ∃ n, u.length - k = n := ⟨_, rfl⟩
          have hn1 : 1 ≤ n := by omega
          by_cases hk0 : k = 0
          · subst hk0
            have hz := HNo.out (okA_none u (fun _ => HF.out))
            subst hz
            clear HNo HYes
            go_wp2_with (first | (go_at_call 27; (with_reducible refine (digit8_c _ _).mono ?_); rintro e w' ⟨rfl, rfl⟩))
            go_returns
            exact ⟨rfl, (by repeat (first | exact More.refl _ | refine More.alloc ?_ _ | refine More.more ?_ _ | refine More.drew ?_ | refine More.drewN ?_ _))⟩
          have hk0' : 1 ≤ k := by omega
          have hk0b : ((k : Int) == 0) = false := beq_eq_false_iff_ne.2 (by omega)
          clear hk0
          by_cases hp : byteAt u k = 46
          · obtain ⟨g1, g2, g3⟩ := okA_point u k hkl hk0' hk5 HA.out ((byteAt_is u k 46).1 hp)
            have G1 := Lib.hid g1
            have G2 := Lib.hid g2
            have G3 := Lib.hid g3
            have hbl : (u.drop (k + 1)).length = n - 1 := by rw [List.length_drop]; omega
            clear g1 g2 g3
            by_cases hl1 : n = 1
            · have hz := HNo.out (by rw [G3.out]; exact digs_false (.inl (by omega)))
              subst hz
              subst hl1
              clear HNo HYes
              go_wp2_with (first | (go_at_call 27; (with_reducible refine (digit8_c _ _).mono ?_); rintro e w' ⟨rfl, rfl⟩))
              go_returns
              exact ⟨rfl, (by repeat (first | exact More.refl _ | refine More.alloc ?_ _ | refine More.more ?_ _ | refine More.drew ?_ | refine More.drewN ?_ _))⟩
            have hl1b : ((n : Int) == 1) = false := beq_eq_false_iff_ne.2 (by omega)
            by_cases hl7 : 7 < n
            · have hz := HNo.out (by rw [G3.out]; exact digs_false (.inr (.inl (by omega))))
              subst hz
              clear HNo HYes
              go_wp2_with (first | (go_at_call 27; (with_reducible refine (digit8_c _ _).mono ?_); rintro e w' ⟨rfl, rfl⟩))
              go_returns
              exact ⟨rfl, (by repeat (first | exact More.refl _ | refine More.alloc ?_ _ | refine More.more ?_ _ | refine More.drew ?_ | refine More.drewN ?_ _))⟩
            have hdz : isDz 46 = false := rfl
            go_wp2_with (first | (go_at_call 27; (with_reducible refine (digit8_c _ _).mono ?_); rintro e w' ⟨rfl, rfl⟩))
            clear hdf HF hbl
            go_loopw [7] (fun x wr => ∃ j : Nat, j + 1 ≤ n ∧ x = .int .i64 ((j : Int) + 1) ∧ ((u.drop (k + 1)).take j).all isD = true ∧ ∃ s2, wr = more ((W.alloc (.cells #[.int .i64 0, .int .i64 0] 56)).alloc (.cells #[.int .i64 (valL (u.take k ++ (u.drop (k + 1)).take j)), .int .i64 j] 56)) s2) (fun x _ => n - (intOf x).toNat)
            case atStart => exact ⟨0, by omega, rfl, rfl, s, by rw [List.take_zero, List.append_nil]; rfl⟩
            case round =>
              obtain ⟨j, hjn, rfl, hja, s2, rfl⟩ := hrel
              have HJ := Lib.hid hja
              clear hja
              have hall : (u.take k ++ (u.drop (k + 1)).take j).all isD = true := by rw [List.all_append, HA.out, HJ.out]; rfl
              have hlen : (u.take k ++ (u.drop (k + 1)).take j).length ≤ 11 := by rw [List.length_append, List.length_take, List.length_take]; omega
              have hvb2 := valL_small _ hall hlen
              clear hall hlen
              by_cases hj : j + 1 < n
              · have hjl : j < (u.drop (k + 1)).length := by rw [List.length_drop]; omega
                have hby2 : byteAt (u.drop k) (j + 1) = byteAt (u.drop (k + 1)) j := by rw [byteAt_drop, byteAt_drop]; congr 1; omega
                have hbd2 := byteAt_bd (u.drop (k + 1)) j
                by_cases hd : isDz (byteAt (u.drop (k + 1)) j) = true
                · have hz : 48 ≤ byteAt (u.drop (k + 1)) j ∧ byteAt (u.drop (k + 1)) j ≤ 57 := by simpa [isDz] using hd
                  have HT := Lib.hid (show ((u.drop (k + 1)).take (j + 1)).all isD = true from by rw [all_next _ j hjl, HJ.out]; simpa [isDz] using hd)
                  have HV := Lib.hid (show (valL (u.take k ++ (u.drop (k + 1)).take (j + 1)) : Int) = 10 * (valL (u.take k ++ (u.drop (k + 1)).take j) : Int) + (byteAt (u.drop (k + 1)) j - 48) from by
                    rw [take_snoc _ j hjl, ← List.append_assoc, valL_snoc]
                    unfold byteAt at hz ⊢
                    unfold dv
                    omega)
                  clear hjl
                  go_wp2_with (first | (go_at_call 27; (with_reducible refine (digit8_c _ _).mono ?_); rintro e w' ⟨rfl, rfl⟩) | ((with_reducible show Code.wp _ (Code.region 7 _ true) _ _ _); (with_reducible refine wp_more_tailq_m (id := 7) 9 ?_ ?_ ?_); kernel_rfl; kernel_rfl; (try simp only [List.take_succ_cons, List.take_zero, List.drop_succ_cons, List.drop_zero]); (repeat (any_goals (first | go_big_quiet_step ((first | (go_at_call 27; (with_reducible apply quiet_same_b); (with_reducible exact digit8_c _ _); with_reducible assumption) | (go_at_call 27; (with_reducible apply quiet_call_same); with_reducible exact digit8_c _ _))) | quiet_step ((first | (go_at_call 27; (with_reducible apply quiet_same_b); (with_reducible exact digit8_c _ _); with_reducible assumption) | (go_at_call 27; (with_reducible apply quiet_call_same); with_reducible exact digit8_c _ _)))))); (with_reducible refine wpQuiet_nil ?_); intro r) | ((with_reducible show Code.wp _ (Code.region 7 _ true) _ _ _); (with_reducible refine wp_more_tailq (id := 7) 9 ?_ ?_ ?_); kernel_rfl; kernel_rfl; (try simp only [List.take_succ_cons, List.take_zero, List.drop_succ_cons, List.drop_zero]); (repeat (any_goals (first | go_big_quiet_step ((first | (go_at_call 27; (with_reducible apply quiet_same_b); (with_reducible exact digit8_c _ _); with_reducible assumption) | (go_at_call 27; (with_reducible apply quiet_call_same); with_reducible exact digit8_c _ _))) | quiet_step ((first | (go_at_call 27; (with_reducible apply quiet_same_b); (with_reducible exact digit8_c _ _); with_reducible assumption) | (go_at_call 27; (with_reducible apply quiet_call_same); with_reducible exact digit8_c _ _)))))); (with_reducible refine wpQuiet_nil ?_); intro r) | ((with_reducible show Code.wp _ (Code.region 22 _ true) _ _ _); (with_reducible refine wp_more_tailq_m (id := 22) 10 ?_ ?_ ?_); kernel_rfl; kernel_rfl; (try simp only [List.take_succ_cons, List.take_zero, List.drop_succ_cons, List.drop_zero]); (repeat (any_goals (first | go_big_quiet_step ((first | (go_at_call 27; (with_reducible apply quiet_same_b); (with_reducible exact digit8_c _ _); with_reducible assumption) | (go_at_call 27; (with_reducible apply quiet_call_same); with_reducible exact digit8_c _ _))) | quiet_step ((first | (go_at_call 27; (with_reducible apply quiet_same_b); (with_reducible exact digit8_c _ _); with_reducible assumption) | (go_at_call 27; (with_reducible apply quiet_call_same); with_reducible exact digit8_c _ _)))))); (with_reducible refine wpQuiet_nil ?_); intro r) | ((with_reducible show Code.wp _ (Code.region 22 _ true) _ _ _); (with_reducible refine wp_more_tailq (id := 22) 10 ?_ ?_ ?_); kernel_rfl; kernel_rfl; (try simp only [List.take_succ_cons, List.take_zero, List.drop_succ_cons, List.drop_zero]); (repeat (any_goals (first | go_big_quiet_step ((first | (go_at_call 27; (with_reducible apply quiet_same_b); (with_reducible exact digit8_c _ _); with_reducible assumption) | (go_at_call 27; (with_reducible apply quiet_call_same); with_reducible exact digit8_c _ _))) | quiet_step ((first | (go_at_call 27; (with_reducible apply quiet_same_b); (with_reducible exact digit8_c _ _); with_reducible assumption) | (go_at_call 27; (with_reducible apply quiet_call_same); with_reducible exact digit8_c _ _)))))); (with_reducible refine wpQuiet_nil ?_); intro r))
                  go_roundw
                  case rel => exact ⟨j + 1, by omega, by go_num, HT.out, _, by rw [HV.out]; rfl⟩
                  case measure => simp [intOf]; omega
                · have hdf : isDz (byteAt (u.drop (k + 1)) j) = false := by simpa using hd
                  have hz := HNo.out (by
                    rw [G3.out]
                    apply digs_false
                    right; right
                    apply all_stops _ j hjl
                    simp only [isDz, Bool.and_eq_false_iff, decide_eq_false_iff_not] at hdf
                    omega)
                  subst hz
                  clear HNo HYes hd hjl
                  go_wp2_with (first | (go_at_call 27; (with_reducible refine (digit8_c _ _).mono ?_); rintro e w' ⟨rfl, rfl⟩))
                  go_returns
                  exact ⟨rfl, (by repeat (first | exact More.refl _ | refine More.alloc ?_ _ | refine More.more ?_ _ | refine More.drew ?_ | refine More.drewN ?_ _))⟩
              · have hjn' : j + 1 = n := by omega
                have hle : (u.drop (k + 1)).length = j := by rw [List.length_drop]; omega
                have htk : (u.drop (k + 1)).take j = u.drop (k + 1) := List.take_of_length_le (by omega)
                have hda : (u.drop (k + 1)).all isD = true := by rw [← htk]; exact HJ.out
                have hok : okA u = true := by
                  rw [G3.out]
                  unfold digs
                  rw [hda, hle]
                  simp
                  omega
                have HY := Lib.hid (show ∀ c s : Nat, canon (valL (u.take k ++ (u.drop (k + 1)).take j)) j = (c, s) → P = _ from fun c s e => HYes.out c s hok (by rw [G1.out, G2.out, hle, ← htk]; exact e))
                clear HNo HYes hok hda htk hle
                have hC0 : valL (u.take k ++ (u.drop (k + 1)).take j) ≤ 100000000000 := by omega
                have hS0 : j ≤ 6 := by omega
                obtain ⟨C0, hC⟩ : ∃ C0, valL (u.take k ++ (u.drop (k + 1)).take j) = C0 := ⟨_, rfl⟩
                rw [hC] at HY hC0 hvb2 ⊢
                clear hC
                go_wp2_with fail
                go_loopw [] (fun wr => ∃ c s3 : Nat, s3 ≤ 6 ∧ c ≤ 100000000000 ∧ canon c s3 = canon C0 j ∧ ∃ r, wr = more ((W.alloc (.cells #[.int .i64 0, .int .i64 0] 56)).alloc (.cells #[.int .i64 c, .int .i64 s3] 56)) r) (fun wr => cellNat wr (W.heap.size + 1) 1)
                case atStart => exact ⟨C0, j, hS0, hC0, rfl, _, rfl⟩
                case round =>
                  obtain ⟨c, s3, hs3, hc3, hcan, r, rfl⟩ := hrel
                  have HC := Lib.hid hcan
                  clear hcan
                  by_cases h0 : s3 = 0
                  · subst h0
                    have hP := HY.out c 0 (by rw [← HC.out]; rfl)
                    have hR := decRight_mk (c := (c : Int)) (s := 0) (by omega) (by omega) (by omega) (by omega) (.inl rfl)
                    have hR' := decRight_mk (c := -(c : Int)) (s := 0) (by omega) (by omega) (by omega) (by omega) (.inl rfl)
                    by_cases hcz : c = 0
                    · subst hcz
                      subst hP
                      clear HY HC
                      go_wp2_with (first | (go_at_call 35; (with_reducible refine (rright8_c _ _).mono ?_); rintro e w' ⟨rfl, r, rfl⟩) | (go_at_call 35; (with_reducible refine (rright8_c ⟨_, _⟩ _).mono ?_); rintro e w' ⟨rfl, r, rfl⟩))
                      go_returns
                      exact ⟨rfl, (by repeat (first | exact More.refl _ | refine More.alloc ?_ _ | refine More.more ?_ _ | refine More.drew ?_ | refine More.drewN ?_ _))⟩
                    · have hczb : ((c : Int) == 0) = false := beq_eq_false_iff_ne.2 (by omega)
                      rw [if_neg (fun h => hcz h.2)] at hP
                      subst hP
                      clear HY HC
                      go_wp2_with (first | (go_at_call 35; (with_reducible refine (rright8_c _ _).mono ?_); rintro e w' ⟨rfl, r, rfl⟩) | (go_at_call 35; (with_reducible refine (rright8_c ⟨_, _⟩ _).mono ?_); rintro e w' ⟨rfl, r, rfl⟩))
                      go_returns
                      exact ⟨rfl, (by repeat (first | exact More.refl _ | refine More.alloc ?_ _ | refine More.more ?_ _ | refine More.drew ?_ | refine More.drewN ?_ _))⟩
                  · have h0' : 1 ≤ s3 := by omega
                    have hmod : (c : Int).tmod 10 = (c : Int) % 10 := Int.tmod_eq_emod_of_nonneg (by omega)
                    have hdiv : (c : Int).tdiv 10 = (c : Int) / 10 := Int.tdiv_eq_ediv_of_nonneg (by omega)
                    by_cases h10 : c % 10 = 0
                    · have h10b : ((c : Int) % 10 == 0) = true := by simp; omega
                      have HS := Lib.hid (show canon (c / 10) (s3 - 1) = canon c s3 from canon_step h0' h10)
                      clear h10
                      go_wp2_with fail
                      go_roundw
                      case rel => exact ⟨c / 10, s3 - 1, by omega, by omega, by rw [HS.out]; exact HC.out, _, by rw [show ((s3 - 1 : Nat) : Int) = (s3 : Int) - 1 from by omega]; rfl⟩
                      case measure => rw [cellNat_two, cellNat_two]; omega
                    · have h10b : ((c : Int) % 10 == 0) = false := beq_eq_false_iff_ne.2 (by omega)
                      have hP := HY.out c s3 (by rw [← HC.out]; exact canon_end (.inr h10))
                      have hR := decRight_mk (c := (c : Int)) (s := (s3 : Int)) (by omega) (by omega) (by omega) (by omega) (.inr (by omega))
                      have hR' := decRight_mk (c := -(c : Int)) (s := (s3 : Int)) (by omega) (by omega) (by omega) (by omega) (.inr (by rw [Int.neg_tmod]; omega))
                      have hcz : ¬ c = 0 := by omega
                      have hczb : ((c : Int) == 0) = false := beq_eq_false_iff_ne.2 (by omega)
                      rw [if_neg (fun h => hcz h.2)] at hP
                      subst hP
                      clear HY HC h10
                      go_wp2_with (first | (go_at_call 35; (with_reducible refine (rright8_c _ _).mono ?_); rintro e w' ⟨rfl, r, rfl⟩) | (go_at_call 35; (with_reducible refine (rright8_c ⟨_, _⟩ _).mono ?_); rintro e w' ⟨rfl, r, rfl⟩))
                      go_returns
                      exact ⟨rfl, (by repeat (first | exact More.refl _ | refine More.alloc ?_ _ | refine More.more ?_ _ | refine More.drew ?_ | refine More.drewN ?_ _))⟩
          · have hz := HNo.out (okA_bad u k hkl HA.out HF.out (fun e => hp ((byteAt_is u k 46).2 e)))
            subst hz
            have hpb : (byteAt u k != 46) = true := bne_iff_ne.2 hp
            clear HNo HYes hp
            go_wp2_with (first | (go_at_call 27; (with_reducible refine (digit8_c _ _).mono ?_); rintro e w' ⟨rfl, rfl⟩))
            go_returns
            exact ⟨rfl, (by repeat (first | exact More.refl _ | refine More.alloc ?_ _ | refine More.more ?_ _ | refine More.drew ?_ | refine More.drewN ?_ _))⟩
      · have hkl2 : u.length = k := by omega
        have hut : u.take k = u := List.take_of_length_le (by omega)
        by_cases hk0 : k = 0
        · subst hk0
          have hz := HNo.out (okA_none u (fun h => by omega))
          subst hz
          clear HNo HYes
          exfalso
          omega
        have hk0' : 1 ≤ k := by omega
        have hk0b : ((k : Int) == 0) = false := beq_eq_false_iff_ne.2 (by omega)
        obtain ⟨g1, g2, g3⟩ := okA_end u (by omega) (by omega) (by rw [← hut]; exact HA.out)
        have HY := Lib.hid (show ∀ c s : Nat, canon (valL (u.take k)) 0 = (c, s) → P = _ from fun c s e => HYes.out c s g1 (by rw [g2, g3, List.append_nil, ← hut]; exact e))
        clear HNo HYes g1 g2 g3 hut
        have hC0 : valL (u.take k) ≤ 100000000000 := by omega
        have hS0 : 0 ≤ 6 := by omega
        obtain ⟨C0, hC⟩ : ∃ C0, valL (u.take k) = C0 := ⟨_, rfl⟩
        rw [hC] at HY hC0 hvb ⊢
        clear hC
        have hdn : (u.drop k).length = 0 := by rw [List.length_drop]; omega
        go_wp2_with fail
        refine wp_loop_rounds 1 ?_
        rw [rounds_succ]
        have hP := HY.out C0 0 rfl
        have hR := decRight_mk (c := (C0 : Int)) (s := 0) (by omega) (by omega) (by omega) (by omega) (.inl rfl)
        have hR' := decRight_mk (c := -(C0 : Int)) (s := 0) (by omega) (by omega) (by omega) (by omega) (.inl rfl)
        by_cases hcz : C0 = 0
        · subst hcz
          subst hP
          clear HY
          go_wp2_with (first | (go_at_call 35; (with_reducible refine (rright8_c _ _).mono ?_); rintro e w' ⟨rfl, r, rfl⟩) | (go_at_call 35; (with_reducible refine (rright8_c ⟨_, _⟩ _).mono ?_); rintro e w' ⟨rfl, r, rfl⟩))
          go_returns
          exact ⟨rfl, (by repeat (first | exact More.refl _ | refine More.alloc ?_ _ | refine More.more ?_ _ | refine More.drew ?_ | refine More.drewN ?_ _))⟩
        · have hczb : ((C0 : Int) == 0) = false := beq_eq_false_iff_ne.2 (by omega)
          rw [if_neg (fun h => hcz h.2)] at hP
          subst hP
          clear HY
          go_wp2_with (first | (go_at_call 35; (with_reducible refine (rright8_c _ _).mono ?_); rintro e w' ⟨rfl, r, rfl⟩) | (go_at_call 35; (with_reducible refine (rright8_c ⟨_, _⟩ _).mono ?_); rintro e w' ⟨rfl, r, rfl⟩))
          go_returns
          exact ⟨rfl, (by repeat (first | exact More.refl _ | refine More.alloc ?_ _ | refine More.more ?_ _ | refine More.drew ?_ | refine More.drewN ?_ _))⟩

end Go.Proofs.YthhipepdkpoomaaDoor

