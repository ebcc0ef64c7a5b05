/-
  The numbers that are handed in; what is the document's number; chapter 8's example.
-/
import Derived.Test.YtnkiikdlmlaklaaPair
namespace Go.Proofs.Ytnkiikdlmlaklaa
set_option linter.unusedVariables false
open Go.ChangeShapes Go.WideShapes Go.ChangeAt Go.RowKit

abbrev Z0 := Unit
abbrev Cp := Pt

set_option maxHeartbeats 4000000 in
theorem number0_c (x y : Int) (b : Z0) (hx : -9223372036854775808 ≤ x) (hx' : x ≤ 9223372036854775807) (hy : -9223372036854775808 ≤ y) (hy' : y ≤ 9223372036854775807) (W : World) :
    Calls Try.prog 17 #[.int .i64 x, .int .i64 y, .int .i64 0] W fun e w' => e = .returned (cxV ⟨x % 81 - 40, false, y % 81 - 40, false⟩) ∧ W = w' := by
  have p1 := Int.emod_nonneg x (show (81 : Int) ≠ 0 by omega)
  have p2 := Int.emod_lt_of_pos x (show (0 : Int) < 81 by omega)
  have p3 := Int.emod_nonneg y (show (81 : Int) ≠ 0 by omega)
  have p4 := Int.emod_lt_of_pos y (show (0 : Int) < 81 by omega)
  go_enter Try.func17, Try.ntmps17
  go_wp2_with (first | (go_at_call 18; (with_reducible refine (pick_c _ _ (by omega) (by omega) (by omega) (by omega) _).mono ?_); rintro e w' ⟨rfl, rfl⟩))
  go_returns
  exact ⟨rfl, rfl⟩

open Ieee in
theorem nearest_sound (neg : Bool) (mag : Nat) (place : Int) (s : Bool) (t : Nat) : double.read (double.nearest neg mag place) ≠ .nan s t := by
  have key : ∃ r, r ≤ 9218868437227405312 ∧ double.nearest neg mag place = double.word neg r := by
    unfold Format.nearest
    by_cases h : mag = 0
    · rw [if_pos h]; exact ⟨0, by omega, rfl⟩
    · rw [if_neg h]
      dsimp only
      exact ⟨_, by rw [inf_d]; exact Nat.min_le_right _ _, rfl⟩
  obtain ⟨r, hr, e⟩ := key
  rw [e]
  obtain ⟨r1, r2⟩ := read_word neg r (by omega)
  unfold Format.read
  dsimp only
  rw [r1, r2, binade_d, inf_d]
  intro h
  split at h
  · cases h
  · split at h
    · cases h
    · split at h
      · cases h
      · omega
open Ieee in
theorem half_some {n : Int} (h : -4503599627370495 ≤ n ∧ n ≤ 4503599627370495) : ∃ r, double.add (ww n false) 4602678819172646912 = some r := by
  obtain ⟨k, e1⟩ := read_fb (zn n false) n.natAbs (by omega)
  have e2 : double.read 4602678819172646912 = .number false 4503599627370496 (-53) := by decide +kernel
  unfold Format.add ww
  rw [e1, e2]
  exact ⟨_, rfl⟩
open Ieee in
theorem third_some (n : Int) : ∃ r, double.div (ww n false) 4613937818241073152 = some r := by
  have e2 : double.read 4613937818241073152 = .number false 6755399441055744 (-51) := by decide +kernel
  unfold Format.div
  rw [e2]
  cases h : double.read (ww n false) with
  | nan s t => exact absurd h (nearest_sound _ _ _ s t)
  | infinity s => exact ⟨_, rfl⟩
  | number s m e => exact ⟨_, rfl⟩

def numA (x b : Int) : Nat := if b % 9 = 5 then ww x false else if b % 9 = 7 then ww ((x % 81 - 40) * 30000) (zn (x % 81 - 40) false ^^ zn 30000 false) else ww (x % 81 - 40) false
def numB (y b : Int) : Nat := if b % 9 = 6 then (Ieee.double.add (ww (y % 81 - 40) false) 4602678819172646912).getD 0 else if b % 9 = 7 then ww ((y % 81 - 40) * 30000) (zn (y % 81 - 40) false ^^ zn 30000 false) else if b % 9 = 8 then (Ieee.double.div (ww y false) 4613937818241073152).getD 0 else ww (y % 81 - 40) false
theorem okA (x b : Int) : OkW (numA x b) := by
  unfold numA
  split
  · exact okW_ww _ _
  · split
    · exact okW_ww _ _
    · exact okW_ww _ _
theorem okB (y b : Int) : OkW (numB y b) := by
  have p3 := Int.emod_nonneg y (show (81 : Int) ≠ 0 by omega)
  have p4 := Int.emod_lt_of_pos y (show (0 : Int) < 81 by omega)
  unfold numB
  split
  · obtain ⟨r, h⟩ := half_some (n := y % 81 - 40) (by omega)
    rw [h]
    exact Ieee.double.add_lt h
  · split
    · exact okW_ww _ _
    · split
      · obtain ⟨r, h⟩ := third_some y
        rw [h]
        exact Ieee.double.div_lt h
      · exact okW_ww _ _

set_option maxHeartbeats 4000000 in
theorem number_c (x y b : Int) (hx : -9223372036854775808 ≤ x) (hx' : x ≤ 9223372036854775807) (hy : -9223372036854775808 ≤ y) (hy' : y ≤ 9223372036854775807) (hb : -9223372036854775808 ≤ b) (hb' : b ≤ 9223372036854775807) (W : World) :
    Calls Try.prog 17 #[.int .i64 x, .int .i64 y, .int .i64 b] W fun e w' => e = .returned (cwV ⟨numA x b, numB y b⟩) ∧ W = w' := by
  have p1 := Int.emod_nonneg x (show (81 : Int) ≠ 0 by omega)
  have p2 := Int.emod_lt_of_pos x (show (0 : Int) < 81 by omega)
  have p3 := Int.emod_nonneg y (show (81 : Int) ≠ 0 by omega)
  have p4 := Int.emod_lt_of_pos y (show (0 : Int) < 81 by omega)
  have p5 := Int.emod_nonneg b (show (9 : Int) ≠ 0 by omega)
  have p6 := Int.emod_lt_of_pos b (show (0 : Int) < 9 by omega)
  have m1 := fmul (P := Try.prog) (a := x % 81 - 40) (c := 30000) false false (by omega) (by omega) (by omega)
  have m2 := fmul (P := Try.prog) (a := y % 81 - 40) (c := 30000) false false (by omega) (by omega) (by omega)
  rw [show ww 30000 false = 4673975551164153856 by decide +kernel] at m1 m2
  obtain ⟨r, hr⟩ := half_some (n := y % 81 - 40) (by omega)
  obtain ⟨q, hq⟩ := third_some y
  have m3 : ∀ T w, (binOp .add T (.float .f64 (ww (y % 81 - 40) false)) (.float .f64 4602678819172646912)).run Try.prog w = .ok (.float .f64 r) w := fun T w => run_float_arith w .add T .f64 _ _ _ hr
  have m4 : ∀ T w, (binOp .quo T (.float .f64 (ww y false)) (.float .f64 4613937818241073152)).run Try.prog w = .ok (.float .f64 q) w := fun T w => run_float_arith w .quo T .f64 _ _ _ hq
  unfold numA numB
  rw [hr, hq]
  clear hr hq
  have hb9 : b % 9 = 5 ∨ b % 9 = 6 ∨ b % 9 = 7 ∨ b % 9 = 8 ∨ (b % 9 ≠ 5 ∧ b % 9 ≠ 6 ∧ b % 9 ≠ 7 ∧ b % 9 ≠ 8) := by omega
  rcases hb9 with h | h | h | h | ⟨h1, h2, h3, h4⟩
  · simp only [h, Int.reduceEq, reduceIte, Option.getD_some]
    go_enter Try.func17, Try.ntmps17
    go_wp2_with (first | (go_at_call 18; (with_reducible refine (pick_c _ _ (by omega) (by omega) (by omega) (by omega) _).mono ?_); rintro e w' ⟨rfl, rfl⟩))
    go_returns
    exact ⟨rfl, rfl⟩
  · simp only [h, Int.reduceEq, reduceIte, Option.getD_some]
    go_enter Try.func17, Try.ntmps17
    go_wp2_with (first | (go_at_call 18; (with_reducible refine (pick_c _ _ (by omega) (by omega) (by omega) (by omega) _).mono ?_); rintro e w' ⟨rfl, rfl⟩))
    go_returns
    exact ⟨rfl, rfl⟩
  · simp only [h, Int.reduceEq, reduceIte, Option.getD_some]
    go_enter Try.func17, Try.ntmps17
    go_wp2_with (first | (go_at_call 18; (with_reducible refine (pick_c _ _ (by omega) (by omega) (by omega) (by omega) _).mono ?_); rintro e w' ⟨rfl, rfl⟩))
    go_returns
    exact ⟨rfl, rfl⟩
  · simp only [h, Int.reduceEq, reduceIte, Option.getD_some]
    go_enter Try.func17, Try.ntmps17
    go_wp2_with (first | (go_at_call 18; (with_reducible refine (pick_c _ _ (by omega) (by omega) (by omega) (by omega) _).mono ?_); rintro e w' ⟨rfl, rfl⟩))
    go_returns
    exact ⟨rfl, rfl⟩
  · simp only [h1, h2, h3, h4, reduceIte]
    go_enter Try.func17, Try.ntmps17
    go_wp2_with (first | (go_at_call 18; (with_reducible refine (pick_c _ _ (by omega) (by omega) (by omega) (by omega) _).mono ?_); rintro e w' ⟨rfl, rfl⟩))
    go_returns
    exact ⟨rfl, rfl⟩

set_option maxHeartbeats 4000000 in
theorem lplain_c (z : Cp) (h1 : -4503599627370495 ≤ z.x) (h2 : z.x ≤ 4503599627370495) (h3 : -4503599627370495 ≤ z.y) (h4 : z.y ≤ 4503599627370495) (W : World) :
    Calls Try.prog 39 #[cxP z] W fun e w' => e = .returned (.bool true) ∧ W = w' := by
  obtain ⟨x, y⟩ := z
  dsimp only at h1 h2 h3 h4 ⊢
  have e1 := eq_ww (a := x) (b := 0) false false (by omega) (by decide)
  have e2 := eq_ww (a := y) (b := 0) false false (by omega) (by decide)
  have q : ∀ T w, (binOp .quo T (.float .f64 4607182418800017408) (.float .f64 (ww 0 false))).run Try.prog w = .ok (.float .f64 9218868437227405312) w := fun T w => run_float_arith w .quo T .f64 _ _ _ (by decide +kernel)
  have l : (Ieee.double.order 9218868437227405312 0 == some .lt) = false := by decide +kernel
  rw [← lit_zero] at e1 e2
  by_cases h5 : x = 0 <;> by_cases h6 : y = 0
  · subst h5 h6
    rw [decide_eq_true rfl] at e1 e2
    go_enter Try.func39, Try.ntmps39
    go_wp2_with fail
    go_returns
    exact ⟨rfl, rfl⟩
  · subst h5
    rw [decide_eq_true rfl] at e1
    rw [decide_eq_false h6] at e2
    go_enter Try.func39, Try.ntmps39
    go_wp2_with fail
    go_returns
    exact ⟨rfl, rfl⟩
  · subst h6
    rw [decide_eq_false h5] at e1
    rw [decide_eq_true rfl] at e2
    go_enter Try.func39, Try.ntmps39
    go_wp2_with fail
    go_returns
    exact ⟨rfl, rfl⟩
  · rw [decide_eq_false h5] at e1
    rw [decide_eq_false h6] at e2
    go_enter Try.func39, Try.ntmps39
    go_wp2_with fail
    go_returns
    exact ⟨rfl, rfl⟩

def samePt (p q : Pt) : Bool := decide (p.x = q.x) && decide (p.y = q.y)

set_option maxHeartbeats 4000000 in
theorem same_c (z : Cp) (p : Pt) (ok : Bool) (h1 : -4503599627370495 ≤ z.x) (h2 : z.x ≤ 4503599627370495) (h3 : -4503599627370495 ≤ z.y) (h4 : z.y ≤ 4503599627370495) (k1 : -4503599627370495 ≤ p.x) (k2 : p.x ≤ 4503599627370495) (k3 : -4503599627370495 ≤ p.y) (k4 : p.y ≤ 4503599627370495) (W : World) :
    Calls Try.prog 22 #[cxP z, ptV p, .bool ok] W fun e w' => e = .returned (.bool (samePt ⟨z.x, z.y⟩ (if ok then p else ⟨0, 0⟩))) ∧ More W w' := by
  obtain ⟨x, y⟩ := z
  obtain ⟨u, v⟩ := p
  dsimp only at h1 h2 h3 h4 k1 k2 k3 k4 ⊢
  unfold samePt
  cases ok
  · simp only [Bool.false_eq_true, if_false]
    have e1 := eq_ww (a := x) (b := 0) false false (by omega) (by omega)
    have e2 := eq_ww (a := y) (b := 0) false false (by omega) (by omega)
    by_cases h5 : x = 0 <;> by_cases h6 : y = 0 <;> simp only [h5, h6, decide_true, decide_false] at e1 e2 ⊢ <;> clear h5 h6
    all_goals
      go_enter Try.func22, Try.ntmps22
      go_wp2_with (first | (go_at_call 38; (with_reducible refine (complex_c _ _).mono ?_); rintro e w' ⟨rfl, r, rfl⟩) | (go_at_call 38; (with_reducible refine (complex_c ⟨_, _⟩ _).mono ?_); rintro e w' ⟨rfl, r, rfl⟩) | (go_at_call 39; (with_reducible refine (lplain_c _ (by (try dsimp only); omega) (by (try dsimp only); omega) (by (try dsimp only); omega) (by (try dsimp only); omega) _).mono ?_); rintro e w' ⟨rfl, rfl⟩) | (go_at_call 39; (with_reducible refine (lplain_c ⟨_, _⟩ (by (try dsimp only); omega) (by (try dsimp only); omega) (by (try dsimp only); omega) (by (try dsimp only); omega) _).mono ?_); rintro e w' ⟨rfl, rfl⟩))
      go_returns
      exact ⟨rfl, (by repeat (first | exact More.refl _ | refine More.alloc ?_ _ | refine More.more ?_ _ | refine More.drew ?_ | refine More.drewN ?_ _))⟩
  · simp only [if_true]
    have e1 := eq_ww (a := x) (b := u) false false (by omega) (by omega)
    have e2 := eq_ww (a := y) (b := v) false false (by omega) (by omega)
    by_cases h5 : x = u <;> by_cases h6 : y = v <;> simp only [h5, h6, decide_true, decide_false] at e1 e2 ⊢ <;> clear h5 h6
    all_goals
      go_enter Try.func22, Try.ntmps22
      go_wp2_with (first | (go_at_call 38; (with_reducible refine (complex_c _ _).mono ?_); rintro e w' ⟨rfl, r, rfl⟩) | (go_at_call 38; (with_reducible refine (complex_c ⟨_, _⟩ _).mono ?_); rintro e w' ⟨rfl, r, rfl⟩) | (go_at_call 39; (with_reducible refine (lplain_c _ (by (try dsimp only); omega) (by (try dsimp only); omega) (by (try dsimp only); omega) (by (try dsimp only); omega) _).mono ?_); rintro e w' ⟨rfl, rfl⟩) | (go_at_call 39; (with_reducible refine (lplain_c ⟨_, _⟩ (by (try dsimp only); omega) (by (try dsimp only); omega) (by (try dsimp only); omega) (by (try dsimp only); omega) _).mono ?_); rintro e w' ⟨rfl, rfl⟩))
      go_returns
      exact ⟨rfl, (by repeat (first | exact More.refl _ | refine More.alloc ?_ _ | refine More.more ?_ _ | refine More.drew ?_ | refine More.drewN ?_ _))⟩

end Go.Proofs.Ytnkiikdlmlaklaa

