/-
  The contract of what the plain saying of chapter 2 makes of four pairs of ends: products, quotients.
-/
import Derived.Test.YtekhhekkepijoaaGc
namespace Go.Proofs.Ytekhhekkepijoaa
set_option linter.unusedVariables false
open Go.ChangeShapes Go.WideShapes Go.ChangeAt Go.RowKit

theorem int_eq {k : IntKind} {a b : Int} (h : a = b) : Value.int k a = .int k b := by rw [h]

set_option maxHeartbeats 4000000 in
theorem rends_mul (a b : Iv) (W : World) :
    Calls Try.prog 73 #[ivV a, ivV b, .bool false] W fun e w' => e = .returned (ivV (ivEnds (fun x y => mulN x y false) (fun x y => mulN x y true) a b)) ∧ More W w' := by
  go_enter Try.func73, Try.ntmps73
  go_wp2_with (first | (go_at_call 68; (with_reducible refine (rof_c _ _ _).mono ?_); rintro e w' ⟨rfl, r, rfl⟩) | (go_at_call 72; (with_reducible refine (rnone_c _).mono ?_); rintro e w' ⟨rfl, r, rfl⟩) | (go_at_call 74; (with_reducible refine (rmul_c _ _ _ _).mono ?_); rintro e w' ⟨rfl, rfl⟩) | (go_at_call 79; (with_reducible refine (rdiv_c _ _ _ _).mono ?_); rintro e w' ⟨rfl, rfl⟩))
  go_loop [7, 8, 9] (fun l h i => ∃ k : Nat, k ≤ 4 ∧ i = .int .i64 k ∧ l = .int .i64 (loTo (fun x y => mulN x y false) a b k) ∧ h = .int .i64 (hiTo (fun x y => mulN x y true) a b k) ∧ okTo (fun x y => mulN x y false) (fun x y => mulN x y true) a b k = true) (fun _ _ i => 4 - (intOf i).toNat)
  case atStart => exact ⟨0, by omega, rfl, rfl, rfl, rfl⟩
  case round =>
    obtain ⟨k, hk, rfl, rfl, rfl, hok⟩ := hrel
    have HOK := Lib.hid hok
    clear hok
    match k, hk, HOK with
    | 0, _, HOK =>
      go_wp2_with (first | (go_at_call 68; (with_reducible refine (rof_c _ _ _).mono ?_); rintro e w' ⟨rfl, r, rfl⟩) | (go_at_call 72; (with_reducible refine (rnone_c _).mono ?_); rintro e w' ⟨rfl, r, rfl⟩) | (go_at_call 74; (with_reducible refine (rmul_c _ _ _ _).mono ?_); rintro e w' ⟨rfl, rfl⟩) | (go_at_call 79; (with_reducible refine (rdiv_c _ _ _ _).mono ?_); rintro e w' ⟨rfl, rfl⟩))
      all_goals
        have hok := HOK.out
        simp only [okTo] at hok
        simp only [Bool.not_eq_true', Bool.not_eq_false', Bool.not_eq_true] at *
        first
        | (go_round; (case rel => exact ⟨1, by omega, rfl, int_eq (by first | rfl | (simp only [loTo, hiTo] at *; omega)), int_eq (by first | rfl | (simp only [loTo, hiTo] at *; omega)), by simp [okTo, *]⟩); (case measure => simp [intOf]))
        | (go_returns; refine ⟨?_, (by repeat (first | exact More.refl _ | refine More.alloc ?_ _ | refine More.more ?_ _ | refine More.drew ?_ | refine More.drewN ?_ _))⟩; rw [ends_no (k := 1) (by omega) (by simp [okTo, *])])
    | 1, _, HOK =>
      go_wp2_with (first | (go_at_call 68; (with_reducible refine (rof_c _ _ _).mono ?_); rintro e w' ⟨rfl, r, rfl⟩) | (go_at_call 72; (with_reducible refine (rnone_c _).mono ?_); rintro e w' ⟨rfl, r, rfl⟩) | (go_at_call 74; (with_reducible refine (rmul_c _ _ _ _).mono ?_); rintro e w' ⟨rfl, rfl⟩) | (go_at_call 79; (with_reducible refine (rdiv_c _ _ _ _).mono ?_); rintro e w' ⟨rfl, rfl⟩))
      all_goals
        have hok := HOK.out
        simp only [okTo, Bool.and_eq_true] at hok
        simp only [Bool.not_eq_true', Bool.not_eq_false', Bool.not_eq_true] at *
        first
        | (go_round; (case rel => exact ⟨2, by omega, rfl, int_eq (by first | rfl | (simp only [loTo, hiTo] at *; omega)), int_eq (by first | rfl | (simp only [loTo, hiTo] at *; omega)), by simp [okTo, *]⟩); (case measure => simp [intOf]))
        | (go_returns; refine ⟨?_, (by repeat (first | exact More.refl _ | refine More.alloc ?_ _ | refine More.more ?_ _ | refine More.drew ?_ | refine More.drewN ?_ _))⟩; rw [ends_no (k := 2) (by omega) (by simp [okTo, *])])
    | 2, _, HOK =>
      go_wp2_with (first | (go_at_call 68; (with_reducible refine (rof_c _ _ _).mono ?_); rintro e w' ⟨rfl, r, rfl⟩) | (go_at_call 72; (with_reducible refine (rnone_c _).mono ?_); rintro e w' ⟨rfl, r, rfl⟩) | (go_at_call 74; (with_reducible refine (rmul_c _ _ _ _).mono ?_); rintro e w' ⟨rfl, rfl⟩) | (go_at_call 79; (with_reducible refine (rdiv_c _ _ _ _).mono ?_); rintro e w' ⟨rfl, rfl⟩))
      all_goals
        have hok := HOK.out
        simp only [okTo, Bool.and_eq_true] at hok
        simp only [Bool.not_eq_true', Bool.not_eq_false', Bool.not_eq_true] at *
        first
        | (go_round; (case rel => exact ⟨3, by omega, rfl, int_eq (by first | rfl | (simp only [loTo, hiTo] at *; omega)), int_eq (by first | rfl | (simp only [loTo, hiTo] at *; omega)), by simp [okTo, *]⟩); (case measure => simp [intOf]))
        | (go_returns; refine ⟨?_, (by repeat (first | exact More.refl _ | refine More.alloc ?_ _ | refine More.more ?_ _ | refine More.drew ?_ | refine More.drewN ?_ _))⟩; rw [ends_no (k := 3) (by omega) (by simp [okTo, *])])
    | 3, _, HOK =>
      go_wp2_with (first | (go_at_call 68; (with_reducible refine (rof_c _ _ _).mono ?_); rintro e w' ⟨rfl, r, rfl⟩) | (go_at_call 72; (with_reducible refine (rnone_c _).mono ?_); rintro e w' ⟨rfl, r, rfl⟩) | (go_at_call 74; (with_reducible refine (rmul_c _ _ _ _).mono ?_); rintro e w' ⟨rfl, rfl⟩) | (go_at_call 79; (with_reducible refine (rdiv_c _ _ _ _).mono ?_); rintro e w' ⟨rfl, rfl⟩))
      all_goals
        have hok := HOK.out
        simp only [okTo, Bool.and_eq_true] at hok
        simp only [Bool.not_eq_true', Bool.not_eq_false', Bool.not_eq_true] at *
        first
        | (go_round; (case rel => exact ⟨4, by omega, rfl, int_eq (by first | rfl | (simp only [loTo, hiTo] at *; omega)), int_eq (by first | rfl | (simp only [loTo, hiTo] at *; omega)), by simp [okTo, *]⟩); (case measure => simp [intOf]))
        | (go_returns; refine ⟨?_, (by repeat (first | exact More.refl _ | refine More.alloc ?_ _ | refine More.more ?_ _ | refine More.drew ?_ | refine More.drewN ?_ _))⟩; rw [ends_no (k := 4) (by omega) (by simp [okTo, *])])
    | 4, _, HOK =>
      go_wp2_with (first | (go_at_call 68; (with_reducible refine (rof_c _ _ _).mono ?_); rintro e w' ⟨rfl, r, rfl⟩) | (go_at_call 72; (with_reducible refine (rnone_c _).mono ?_); rintro e w' ⟨rfl, r, rfl⟩) | (go_at_call 74; (with_reducible refine (rmul_c _ _ _ _).mono ?_); rintro e w' ⟨rfl, rfl⟩) | (go_at_call 79; (with_reducible refine (rdiv_c _ _ _ _).mono ?_); rintro e w' ⟨rfl, rfl⟩))
      go_returns
      refine ⟨?_, (by repeat (first | exact More.refl _ | refine More.alloc ?_ _ | refine More.more ?_ _ | refine More.drew ?_ | refine More.drewN ?_ _))⟩
      rw [ends_yes HOK.out]

set_option maxHeartbeats 4000000 in
theorem rends_div (a b : Iv) (W : World) :
    Calls Try.prog 73 #[ivV a, ivV b, .bool true] W fun e w' => e = .returned (ivV (ivEnds (fun x y => divN x y false) (fun x y => divN x y true) a b)) ∧ More W w' := by
  go_enter Try.func73, Try.ntmps73
  go_wp2_with (first | (go_at_call 68; (with_reducible refine (rof_c _ _ _).mono ?_); rintro e w' ⟨rfl, r, rfl⟩) | (go_at_call 72; (with_reducible refine (rnone_c _).mono ?_); rintro e w' ⟨rfl, r, rfl⟩) | (go_at_call 74; (with_reducible refine (rmul_c _ _ _ _).mono ?_); rintro e w' ⟨rfl, rfl⟩) | (go_at_call 79; (with_reducible refine (rdiv_c _ _ _ _).mono ?_); rintro e w' ⟨rfl, rfl⟩))
  go_loop [7, 8, 9] (fun l h i => ∃ k : Nat, k ≤ 4 ∧ i = .int .i64 k ∧ l = .int .i64 (loTo (fun x y => divN x y false) a b k) ∧ h = .int .i64 (hiTo (fun x y => divN x y true) a b k) ∧ okTo (fun x y => divN x y false) (fun x y => divN x y true) a b k = true) (fun _ _ i => 4 - (intOf i).toNat)
  case atStart => exact ⟨0, by omega, rfl, rfl, rfl, rfl⟩
  case round =>
    obtain ⟨k, hk, rfl, rfl, rfl, hok⟩ := hrel
    have HOK := Lib.hid hok
    clear hok
    match k, hk, HOK with
    | 0, _, HOK =>
      go_wp2_with (first | (go_at_call 68; (with_reducible refine (rof_c _ _ _).mono ?_); rintro e w' ⟨rfl, r, rfl⟩) | (go_at_call 72; (with_reducible refine (rnone_c _).mono ?_); rintro e w' ⟨rfl, r, rfl⟩) | (go_at_call 74; (with_reducible refine (rmul_c _ _ _ _).mono ?_); rintro e w' ⟨rfl, rfl⟩) | (go_at_call 79; (with_reducible refine (rdiv_c _ _ _ _).mono ?_); rintro e w' ⟨rfl, rfl⟩))
      all_goals
        have hok := HOK.out
        simp only [okTo] at hok
        simp only [Bool.not_eq_true', Bool.not_eq_false', Bool.not_eq_true] at *
        first
        | (go_round; (case rel => exact ⟨1, by omega, rfl, int_eq (by first | rfl | (simp only [loTo, hiTo] at *; omega)), int_eq (by first | rfl | (simp only [loTo, hiTo] at *; omega)), by simp [okTo, *]⟩); (case measure => simp [intOf]))
        | (go_returns; refine ⟨?_, (by repeat (first | exact More.refl _ | refine More.alloc ?_ _ | refine More.more ?_ _ | refine More.drew ?_ | refine More.drewN ?_ _))⟩; rw [ends_no (k := 1) (by omega) (by simp [okTo, *])])
    | 1, _, HOK =>
      go_wp2_with (first | (go_at_call 68; (with_reducible refine (rof_c _ _ _).mono ?_); rintro e w' ⟨rfl, r, rfl⟩) | (go_at_call 72; (with_reducible refine (rnone_c _).mono ?_); rintro e w' ⟨rfl, r, rfl⟩) | (go_at_call 74; (with_reducible refine (rmul_c _ _ _ _).mono ?_); rintro e w' ⟨rfl, rfl⟩) | (go_at_call 79; (with_reducible refine (rdiv_c _ _ _ _).mono ?_); rintro e w' ⟨rfl, rfl⟩))
      all_goals
        have hok := HOK.out
        simp only [okTo, Bool.and_eq_true] at hok
        simp only [Bool.not_eq_true', Bool.not_eq_false', Bool.not_eq_true] at *
        first
        | (go_round; (case rel => exact ⟨2, by omega, rfl, int_eq (by first | rfl | (simp only [loTo, hiTo] at *; omega)), int_eq (by first | rfl | (simp only [loTo, hiTo] at *; omega)), by simp [okTo, *]⟩); (case measure => simp [intOf]))
        | (go_returns; refine ⟨?_, (by repeat (first | exact More.refl _ | refine More.alloc ?_ _ | refine More.more ?_ _ | refine More.drew ?_ | refine More.drewN ?_ _))⟩; rw [ends_no (k := 2) (by omega) (by simp [okTo, *])])
    | 2, _, HOK =>
      go_wp2_with (first | (go_at_call 68; (with_reducible refine (rof_c _ _ _).mono ?_); rintro e w' ⟨rfl, r, rfl⟩) | (go_at_call 72; (with_reducible refine (rnone_c _).mono ?_); rintro e w' ⟨rfl, r, rfl⟩) | (go_at_call 74; (with_reducible refine (rmul_c _ _ _ _).mono ?_); rintro e w' ⟨rfl, rfl⟩) | (go_at_call 79; (with_reducible refine (rdiv_c _ _ _ _).mono ?_); rintro e w' ⟨rfl, rfl⟩))
      all_goals
        have hok := HOK.out
        simp only [okTo, Bool.and_eq_true] at hok
        simp only [Bool.not_eq_true', Bool.not_eq_false', Bool.not_eq_true] at *
        first
        | (go_round; (case rel => exact ⟨3, by omega, rfl, int_eq (by first | rfl | (simp only [loTo, hiTo] at *; omega)), int_eq (by first | rfl | (simp only [loTo, hiTo] at *; omega)), by simp [okTo, *]⟩); (case measure => simp [intOf]))
        | (go_returns; refine ⟨?_, (by repeat (first | exact More.refl _ | refine More.alloc ?_ _ | refine More.more ?_ _ | refine More.drew ?_ | refine More.drewN ?_ _))⟩; rw [ends_no (k := 3) (by omega) (by simp [okTo, *])])
    | 3, _, HOK =>
      go_wp2_with (first | (go_at_call 68; (with_reducible refine (rof_c _ _ _).mono ?_); rintro e w' ⟨rfl, r, rfl⟩) | (go_at_call 72; (with_reducible refine (rnone_c _).mono ?_); rintro e w' ⟨rfl, r, rfl⟩) | (go_at_call 74; (with_reducible refine (rmul_c _ _ _ _).mono ?_); rintro e w' ⟨rfl, rfl⟩) | (go_at_call 79; (with_reducible refine (rdiv_c _ _ _ _).mono ?_); rintro e w' ⟨rfl, rfl⟩))
      all_goals
        have hok := HOK.out
        simp only [okTo, Bool.and_eq_true] at hok
        simp only [Bool.not_eq_true', Bool.not_eq_false', Bool.not_eq_true] at *
        first
        | (go_round; (case rel => exact ⟨4, by omega, rfl, int_eq (by first | rfl | (simp only [loTo, hiTo] at *; omega)), int_eq (by first | rfl | (simp only [loTo, hiTo] at *; omega)), by simp [okTo, *]⟩); (case measure => simp [intOf]))
        | (go_returns; refine ⟨?_, (by repeat (first | exact More.refl _ | refine More.alloc ?_ _ | refine More.more ?_ _ | refine More.drew ?_ | refine More.drewN ?_ _))⟩; rw [ends_no (k := 4) (by omega) (by simp [okTo, *])])
    | 4, _, HOK =>
      go_wp2_with (first | (go_at_call 68; (with_reducible refine (rof_c _ _ _).mono ?_); rintro e w' ⟨rfl, r, rfl⟩) | (go_at_call 72; (with_reducible refine (rnone_c _).mono ?_); rintro e w' ⟨rfl, r, rfl⟩) | (go_at_call 74; (with_reducible refine (rmul_c _ _ _ _).mono ?_); rintro e w' ⟨rfl, rfl⟩) | (go_at_call 79; (with_reducible refine (rdiv_c _ _ _ _).mono ?_); rintro e w' ⟨rfl, rfl⟩))
      go_returns
      refine ⟨?_, (by repeat (first | exact More.refl _ | refine More.alloc ?_ _ | refine More.more ?_ _ | refine More.drew ?_ | refine More.drewN ?_ _))⟩
      rw [ends_yes HOK.out]

end Go.Proofs.Ytekhhekkepijoaa

