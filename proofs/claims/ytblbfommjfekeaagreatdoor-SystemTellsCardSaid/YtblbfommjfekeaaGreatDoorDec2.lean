/-
  The contracts of package dec, the second part: intervals, order.
-/
import Derived.Test.YtblbfommjfekeaaGreatDoorDec
namespace Go.Proofs.YtblbfommjfekeaaGreatDoor
set_option linter.unusedVariables false
open Go.ChangeShapes Go.WideShapes Go.ChangeAt Go.RowKit

def decIv (d : Dec) : Iv := if decRight d = true then ivOf ((d.c * 65536).fdiv (p10 d.s.toNat)) (-((-(d.c * 65536)).fdiv (p10 d.s.toNat))) else ivNone
def decLess (a b : Dec) : Bool := decRight a && decRight b && decide (a.c * p10 b.s.toNat < b.c * p10 a.s.toNat)

theorem fdiv_le (a b : Int) (m : Int) (hb : 1 ≤ b) (h0 : -m ≤ a) (h1 : a ≤ m) : -m ≤ a.fdiv b ∧ a.fdiv b ≤ m := by
  rw [Int.fdiv_eq_ediv_of_nonneg a (by omega)]
  have e := Int.mul_ediv_add_emod a b
  have r0 := Int.emod_nonneg a (show b ≠ 0 by omega)
  have r1 := Int.emod_lt_of_pos a (show 0 < b by omega)
  generalize a / b = q at *
  generalize a % b = r at *
  have hm : 0 ≤ m := by omega
  constructor
  · apply Classical.byContradiction
    intro hc
    have h2 : q + 1 ≤ -m := by omega
    have h3 : b * q ≤ b * (-m - 1) := Int.mul_le_mul_of_nonneg_left (by omega) (by omega)
    have h4 : b * (-m - 1) = -(b * m) - b := by grind
    have h5 : 1 * m ≤ b * m := Int.mul_le_mul_of_nonneg_right hb hm
    omega
  · apply Classical.byContradiction
    intro hc
    have h3 : b * (m + 1) ≤ b * q := Int.mul_le_mul_of_nonneg_left (by omega) (by omega)
    have h4 : b * (m + 1) = b * m + b := by grind
    have h5 : 1 * m ≤ b * m := Int.mul_le_mul_of_nonneg_right hb hm
    omega
theorem cmul_bd (c p : Int) (h0 : -100000000000 ≤ c) (h1 : c ≤ 100000000000) (hp : 1 ≤ p) (hq : p ≤ 1000000) : -100000000000000000 ≤ c * p ∧ c * p ≤ 100000000000000000 := by
  have e1 : c * p ≤ 100000000000 * p := Int.mul_le_mul_of_nonneg_right h1 (by omega)
  have e2 : -100000000000 * p ≤ c * p := Int.mul_le_mul_of_nonneg_right h0 (by omega)
  omega

set_option maxHeartbeats 4000000 in
theorem decIv_c (d : Dec) (W : World) :
    Calls Tryz.prog 32 #[decV d] W fun e w' => e = .returned (ivV (decIv d)) ∧ More W w' := by
  obtain ⟨c, s⟩ := d
  unfold decIv
  cases hr : decRight ⟨c, s⟩ with
  | false =>
    rw [if_neg (by simp)]
    go_enter Tryz.func32, Tryz.ntmps32
    go_wp2_with (first | (go_at_call 11; (with_reducible refine (none_c _).mono ?_); rintro e w' ⟨rfl, r, rfl⟩) | (go_at_call 30; (with_reducible refine (of_c _ _ _).mono ?_); rintro e w' ⟨rfl, r, rfl⟩) | (go_at_call 80; (with_reducible refine (decRight_c _ _).mono ?_); rintro e w' ⟨rfl, r, rfl⟩) | (go_at_call 80; (with_reducible refine (decRight_c ⟨_, _⟩ _).mono ?_); rintro e w' ⟨rfl, r, rfl⟩) | (go_at_call 81; (with_reducible refine (power_c _ (by omega) (by omega) _).mono ?_); rintro e w' ⟨rfl, rfl⟩) | (go_at_call 82; (with_reducible refine (floor_c _ _ (by omega) (by omega) (by omega) _).mono ?_); rintro e w' ⟨rfl, rfl⟩) | ((with_reducible show Code.wp _ (Code.region 3 _ true) _ _ _); (with_reducible refine wp_more_quick_m (id := 3) ?_ ?_ ?_); kernel_rfl; kernel_rfl; (try simp only [List.take_succ_cons, List.take_zero, List.drop_succ_cons, List.drop_zero]); (repeat (any_goals (first | go_big_quiet_step ((first | (go_at_call 81; (with_reducible apply quiet_call_same); with_reducible exact power_c _ (by omega) (by omega) _))) | quiet_step ((first | (go_at_call 81; (with_reducible apply quiet_call_same); with_reducible exact power_c _ (by omega) (by omega) _)))))); (with_reducible refine wpQuiet_nil ?_); intro r) | ((with_reducible show Code.wp _ (Code.region 3 _ true) _ _ _); (with_reducible refine wp_more_quick (id := 3) ?_ ?_ ?_); kernel_rfl; kernel_rfl; (try simp only [List.take_succ_cons, List.take_zero, List.drop_succ_cons, List.drop_zero]); (repeat (any_goals (first | go_big_quiet_step ((first | (go_at_call 81; (with_reducible apply quiet_call_same); with_reducible exact power_c _ (by omega) (by omega) _))) | quiet_step ((first | (go_at_call 81; (with_reducible apply quiet_call_same); with_reducible exact power_c _ (by omega) (by omega) _)))))); (with_reducible refine wpQuiet_nil ?_); intro r))
    go_returns
    exact ⟨rfl, (by repeat (first | exact More.refl _ | refine More.alloc ?_ _ | refine More.more ?_ _ | refine More.drew ?_ | refine More.drewN ?_ _))⟩
  | true =>
    rw [if_pos rfl]
    obtain ⟨⟨h1, h2⟩, h3, h4, _⟩ := decRight_bd hr
    have hp := p10_bd s.toNat (by omega)
    have hf := fdiv_le (c * 65536) (p10 s.toNat) 6553600000000000 hp.1 (by omega) (by omega)
    have hg := fdiv_le (-(c * 65536)) (p10 s.toNat) 6553600000000000 hp.1 (by omega) (by omega)
    go_enter Tryz.func32, Tryz.ntmps32
    go_wp2_with (first | (go_at_call 11; (with_reducible refine (none_c _).mono ?_); rintro e w' ⟨rfl, r, rfl⟩) | (go_at_call 30; (with_reducible refine (of_c _ _ _).mono ?_); rintro e w' ⟨rfl, r, rfl⟩) | (go_at_call 80; (with_reducible refine (decRight_c _ _).mono ?_); rintro e w' ⟨rfl, r, rfl⟩) | (go_at_call 80; (with_reducible refine (decRight_c ⟨_, _⟩ _).mono ?_); rintro e w' ⟨rfl, r, rfl⟩) | (go_at_call 81; (with_reducible refine (power_c _ (by omega) (by omega) _).mono ?_); rintro e w' ⟨rfl, rfl⟩) | (go_at_call 82; (with_reducible refine (floor_c _ _ (by omega) (by omega) (by omega) _).mono ?_); rintro e w' ⟨rfl, rfl⟩) | ((with_reducible show Code.wp _ (Code.region 3 _ true) _ _ _); (with_reducible refine wp_more_quick_m (id := 3) ?_ ?_ ?_); kernel_rfl; kernel_rfl; (try simp only [List.take_succ_cons, List.take_zero, List.drop_succ_cons, List.drop_zero]); (repeat (any_goals (first | go_big_quiet_step ((first | (go_at_call 81; (with_reducible apply quiet_call_same); with_reducible exact power_c _ (by omega) (by omega) _))) | quiet_step ((first | (go_at_call 81; (with_reducible apply quiet_call_same); with_reducible exact power_c _ (by omega) (by omega) _)))))); (with_reducible refine wpQuiet_nil ?_); intro r) | ((with_reducible show Code.wp _ (Code.region 3 _ true) _ _ _); (with_reducible refine wp_more_quick (id := 3) ?_ ?_ ?_); kernel_rfl; kernel_rfl; (try simp only [List.take_succ_cons, List.take_zero, List.drop_succ_cons, List.drop_zero]); (repeat (any_goals (first | go_big_quiet_step ((first | (go_at_call 81; (with_reducible apply quiet_call_same); with_reducible exact power_c _ (by omega) (by omega) _))) | quiet_step ((first | (go_at_call 81; (with_reducible apply quiet_call_same); with_reducible exact power_c _ (by omega) (by omega) _)))))); (with_reducible refine wpQuiet_nil ?_); intro r))
    go_returns
    exact ⟨rfl, (by repeat (first | exact More.refl _ | refine More.alloc ?_ _ | refine More.more ?_ _ | refine More.drew ?_ | refine More.drewN ?_ _))⟩

set_option maxHeartbeats 4000000 in
theorem decLess_c (a b : Dec) (W : World) :
    Calls Tryz.prog 154 #[decV a, decV b] W fun e w' => e = .returned (.bool (decLess a b)) ∧ More W w' := by
  obtain ⟨c, s⟩ := a
  obtain ⟨c', s'⟩ := b
  unfold decLess
  cases hr : decRight ⟨c, s⟩ with
  | false =>
    go_enter Tryz.func154, Tryz.ntmps154
    go_wp2_with (first | (go_at_call 80; (with_reducible refine (decRight_c _ _).mono ?_); rintro e w' ⟨rfl, r, rfl⟩) | (go_at_call 80; (with_reducible refine (decRight_c ⟨_, _⟩ _).mono ?_); rintro e w' ⟨rfl, r, rfl⟩) | (go_at_call 81; (with_reducible refine (power_c _ (by omega) (by omega) _).mono ?_); rintro e w' ⟨rfl, rfl⟩) | ((with_reducible show Code.wp _ (Code.region 1 _ true) _ _ _); (with_reducible refine wp_more_quick_m (id := 1) ?_ ?_ ?_); kernel_rfl; kernel_rfl; (try simp only [List.take_succ_cons, List.take_zero, List.drop_succ_cons, List.drop_zero]); (repeat (any_goals (first | go_big_quiet_step ((first | (go_at_call 80; (with_reducible apply quiet_call_b); (with_reducible exact decRight_c _ _); with_reducible assumption) | (go_at_call 80; (with_reducible apply quiet_call); with_reducible exact decRight_c _ _) | (go_at_call 80; (with_reducible apply quiet_call_b); (with_reducible exact decRight_c ⟨_, _⟩ _); with_reducible assumption) | (go_at_call 80; (with_reducible apply quiet_call); with_reducible exact decRight_c ⟨_, _⟩ _) | (go_at_call 81; (with_reducible apply quiet_call_same); with_reducible exact power_c _ (by omega) (by omega) _))) | quiet_step ((first | (go_at_call 80; (with_reducible apply quiet_call_b); (with_reducible exact decRight_c _ _); with_reducible assumption) | (go_at_call 80; (with_reducible apply quiet_call); with_reducible exact decRight_c _ _) | (go_at_call 80; (with_reducible apply quiet_call_b); (with_reducible exact decRight_c ⟨_, _⟩ _); with_reducible assumption) | (go_at_call 80; (with_reducible apply quiet_call); with_reducible exact decRight_c ⟨_, _⟩ _) | (go_at_call 81; (with_reducible apply quiet_call_same); with_reducible exact power_c _ (by omega) (by omega) _)))))); (with_reducible refine wpQuiet_nil ?_); intro r) | ((with_reducible show Code.wp _ (Code.region 1 _ true) _ _ _); (with_reducible refine wp_more_quick (id := 1) ?_ ?_ ?_); kernel_rfl; kernel_rfl; (try simp only [List.take_succ_cons, List.take_zero, List.drop_succ_cons, List.drop_zero]); (repeat (any_goals (first | go_big_quiet_step ((first | (go_at_call 80; (with_reducible apply quiet_call_b); (with_reducible exact decRight_c _ _); with_reducible assumption) | (go_at_call 80; (with_reducible apply quiet_call); with_reducible exact decRight_c _ _) | (go_at_call 80; (with_reducible apply quiet_call_b); (with_reducible exact decRight_c ⟨_, _⟩ _); with_reducible assumption) | (go_at_call 80; (with_reducible apply quiet_call); with_reducible exact decRight_c ⟨_, _⟩ _) | (go_at_call 81; (with_reducible apply quiet_call_same); with_reducible exact power_c _ (by omega) (by omega) _))) | quiet_step ((first | (go_at_call 80; (with_reducible apply quiet_call_b); (with_reducible exact decRight_c _ _); with_reducible assumption) | (go_at_call 80; (with_reducible apply quiet_call); with_reducible exact decRight_c _ _) | (go_at_call 80; (with_reducible apply quiet_call_b); (with_reducible exact decRight_c ⟨_, _⟩ _); with_reducible assumption) | (go_at_call 80; (with_reducible apply quiet_call); with_reducible exact decRight_c ⟨_, _⟩ _) | (go_at_call 81; (with_reducible apply quiet_call_same); with_reducible exact power_c _ (by omega) (by omega) _)))))); (with_reducible refine wpQuiet_nil ?_); intro r))
    go_returns
    exact ⟨rfl, (by repeat (first | exact More.refl _ | refine More.alloc ?_ _ | refine More.more ?_ _ | refine More.drew ?_ | refine More.drewN ?_ _))⟩
  | true =>
    cases hr' : decRight ⟨c', s'⟩ with
    | false =>
      go_enter Tryz.func154, Tryz.ntmps154
      go_wp2_with (first | (go_at_call 80; (with_reducible refine (decRight_c _ _).mono ?_); rintro e w' ⟨rfl, r, rfl⟩) | (go_at_call 80; (with_reducible refine (decRight_c ⟨_, _⟩ _).mono ?_); rintro e w' ⟨rfl, r, rfl⟩) | (go_at_call 81; (with_reducible refine (power_c _ (by omega) (by omega) _).mono ?_); rintro e w' ⟨rfl, rfl⟩) | ((with_reducible show Code.wp _ (Code.region 1 _ true) _ _ _); (with_reducible refine wp_more_quick_m (id := 1) ?_ ?_ ?_); kernel_rfl; kernel_rfl; (try simp only [List.take_succ_cons, List.take_zero, List.drop_succ_cons, List.drop_zero]); (repeat (any_goals (first | go_big_quiet_step ((first | (go_at_call 80; (with_reducible apply quiet_call_b); (with_reducible exact decRight_c _ _); with_reducible assumption) | (go_at_call 80; (with_reducible apply quiet_call); with_reducible exact decRight_c _ _) | (go_at_call 80; (with_reducible apply quiet_call_b); (with_reducible exact decRight_c ⟨_, _⟩ _); with_reducible assumption) | (go_at_call 80; (with_reducible apply quiet_call); with_reducible exact decRight_c ⟨_, _⟩ _) | (go_at_call 81; (with_reducible apply quiet_call_same); with_reducible exact power_c _ (by omega) (by omega) _))) | quiet_step ((first | (go_at_call 80; (with_reducible apply quiet_call_b); (with_reducible exact decRight_c _ _); with_reducible assumption) | (go_at_call 80; (with_reducible apply quiet_call); with_reducible exact decRight_c _ _) | (go_at_call 80; (with_reducible apply quiet_call_b); (with_reducible exact decRight_c ⟨_, _⟩ _); with_reducible assumption) | (go_at_call 80; (with_reducible apply quiet_call); with_reducible exact decRight_c ⟨_, _⟩ _) | (go_at_call 81; (with_reducible apply quiet_call_same); with_reducible exact power_c _ (by omega) (by omega) _)))))); (with_reducible refine wpQuiet_nil ?_); intro r) | ((with_reducible show Code.wp _ (Code.region 1 _ true) _ _ _); (with_reducible refine wp_more_quick (id := 1) ?_ ?_ ?_); kernel_rfl; kernel_rfl; (try simp only [List.take_succ_cons, List.take_zero, List.drop_succ_cons, List.drop_zero]); (repeat (any_goals (first | go_big_quiet_step ((first | (go_at_call 80; (with_reducible apply quiet_call_b); (with_reducible exact decRight_c _ _); with_reducible assumption) | (go_at_call 80; (with_reducible apply quiet_call); with_reducible exact decRight_c _ _) | (go_at_call 80; (with_reducible apply quiet_call_b); (with_reducible exact decRight_c ⟨_, _⟩ _); with_reducible assumption) | (go_at_call 80; (with_reducible apply quiet_call); with_reducible exact decRight_c ⟨_, _⟩ _) | (go_at_call 81; (with_reducible apply quiet_call_same); with_reducible exact power_c _ (by omega) (by omega) _))) | quiet_step ((first | (go_at_call 80; (with_reducible apply quiet_call_b); (with_reducible exact decRight_c _ _); with_reducible assumption) | (go_at_call 80; (with_reducible apply quiet_call); with_reducible exact decRight_c _ _) | (go_at_call 80; (with_reducible apply quiet_call_b); (with_reducible exact decRight_c ⟨_, _⟩ _); with_reducible assumption) | (go_at_call 80; (with_reducible apply quiet_call); with_reducible exact decRight_c ⟨_, _⟩ _) | (go_at_call 81; (with_reducible apply quiet_call_same); with_reducible exact power_c _ (by omega) (by omega) _)))))); (with_reducible refine wpQuiet_nil ?_); intro r))
      go_returns
      exact ⟨rfl, (by repeat (first | exact More.refl _ | refine More.alloc ?_ _ | refine More.more ?_ _ | refine More.drew ?_ | refine More.drewN ?_ _))⟩
    | true =>
      obtain ⟨⟨h1, h2⟩, h3, h4, _⟩ := decRight_bd hr
      obtain ⟨⟨k1, k2⟩, k3, k4, _⟩ := decRight_bd hr'
      have hp := p10_bd s.toNat (by omega)
      have hp' := p10_bd s'.toNat (by omega)
      have hm := cmul_bd c (p10 s'.toNat) h1 h2 hp'.1 hp'.2
      have hm' := cmul_bd c' (p10 s.toNat) k1 k2 hp.1 hp.2
      go_enter Tryz.func154, Tryz.ntmps154
      go_wp2_with (first | (go_at_call 80; (with_reducible refine (decRight_c _ _).mono ?_); rintro e w' ⟨rfl, r, rfl⟩) | (go_at_call 80; (with_reducible refine (decRight_c ⟨_, _⟩ _).mono ?_); rintro e w' ⟨rfl, r, rfl⟩) | (go_at_call 81; (with_reducible refine (power_c _ (by omega) (by omega) _).mono ?_); rintro e w' ⟨rfl, rfl⟩) | ((with_reducible show Code.wp _ (Code.region 1 _ true) _ _ _); (with_reducible refine wp_more_quick_m (id := 1) ?_ ?_ ?_); kernel_rfl; kernel_rfl; (try simp only [List.take_succ_cons, List.take_zero, List.drop_succ_cons, List.drop_zero]); (repeat (any_goals (first | go_big_quiet_step ((first | (go_at_call 80; (with_reducible apply quiet_call_b); (with_reducible exact decRight_c _ _); with_reducible assumption) | (go_at_call 80; (with_reducible apply quiet_call); with_reducible exact decRight_c _ _) | (go_at_call 80; (with_reducible apply quiet_call_b); (with_reducible exact decRight_c ⟨_, _⟩ _); with_reducible assumption) | (go_at_call 80; (with_reducible apply quiet_call); with_reducible exact decRight_c ⟨_, _⟩ _) | (go_at_call 81; (with_reducible apply quiet_call_same); with_reducible exact power_c _ (by omega) (by omega) _))) | quiet_step ((first | (go_at_call 80; (with_reducible apply quiet_call_b); (with_reducible exact decRight_c _ _); with_reducible assumption) | (go_at_call 80; (with_reducible apply quiet_call); with_reducible exact decRight_c _ _) | (go_at_call 80; (with_reducible apply quiet_call_b); (with_reducible exact decRight_c ⟨_, _⟩ _); with_reducible assumption) | (go_at_call 80; (with_reducible apply quiet_call); with_reducible exact decRight_c ⟨_, _⟩ _) | (go_at_call 81; (with_reducible apply quiet_call_same); with_reducible exact power_c _ (by omega) (by omega) _)))))); (with_reducible refine wpQuiet_nil ?_); intro r) | ((with_reducible show Code.wp _ (Code.region 1 _ true) _ _ _); (with_reducible refine wp_more_quick (id := 1) ?_ ?_ ?_); kernel_rfl; kernel_rfl; (try simp only [List.take_succ_cons, List.take_zero, List.drop_succ_cons, List.drop_zero]); (repeat (any_goals (first | go_big_quiet_step ((first | (go_at_call 80; (with_reducible apply quiet_call_b); (with_reducible exact decRight_c _ _); with_reducible assumption) | (go_at_call 80; (with_reducible apply quiet_call); with_reducible exact decRight_c _ _) | (go_at_call 80; (with_reducible apply quiet_call_b); (with_reducible exact decRight_c ⟨_, _⟩ _); with_reducible assumption) | (go_at_call 80; (with_reducible apply quiet_call); with_reducible exact decRight_c ⟨_, _⟩ _) | (go_at_call 81; (with_reducible apply quiet_call_same); with_reducible exact power_c _ (by omega) (by omega) _))) | quiet_step ((first | (go_at_call 80; (with_reducible apply quiet_call_b); (with_reducible exact decRight_c _ _); with_reducible assumption) | (go_at_call 80; (with_reducible apply quiet_call); with_reducible exact decRight_c _ _) | (go_at_call 80; (with_reducible apply quiet_call_b); (with_reducible exact decRight_c ⟨_, _⟩ _); with_reducible assumption) | (go_at_call 80; (with_reducible apply quiet_call); with_reducible exact decRight_c ⟨_, _⟩ _) | (go_at_call 81; (with_reducible apply quiet_call_same); with_reducible exact power_c _ (by omega) (by omega) _)))))); (with_reducible refine wpQuiet_nil ?_); intro r))
      go_returns
      exact ⟨rfl, (by repeat (first | exact More.refl _ | refine More.alloc ?_ _ | refine More.more ?_ _ | refine More.drew ?_ | refine More.drewN ?_ _))⟩

end Go.Proofs.YtblbfommjfekeaaGreatDoor

