/-
  The contracts of the plain saying of chapter 9, the second part.
-/
import Derived.Test.YtgikjbmaahblpaaGreatDoorRef8
namespace Go.Proofs.YtgikjbmaahblpaaGreatDoor
set_option linter.unusedVariables false
open Go.ChangeShapes Go.WideShapes Go.ChangeAt Go.RowKit

set_option maxHeartbeats 4000000 in
theorem rright8_c (d : Dec) (W : World) :
    Calls Tryz.prog 51 #[decV d] W fun e w' => e = .returned (.bool (decRight d)) ∧ More W w' := by
  obtain ⟨c, s⟩ := d
  by_cases h : -100000000000 ≤ c ∧ c ≤ 100000000000 ∧ 0 ≤ s ∧ s ≤ 6
  · obtain ⟨h1, h2, h3, h4⟩ := h
    rw [decRight_fine h1 h2 h3 h4]
    by_cases h0 : s = 0
    · subst h0
      go_enter Tryz.func51, Tryz.ntmps51
      go_wp2_with fail
      go_returns
      exact ⟨rfl, (by repeat (first | exact More.refl _ | refine More.alloc ?_ _ | refine More.more ?_ _ | refine More.drew ?_ | refine More.drewN ?_ _))⟩
    · have h5 : (s == 0) = false := by simpa using h0
      have h6 : decide (s = 0) = false := by simpa using h0
      rw [h6]
      clear h0
      go_enter Tryz.func51, Tryz.ntmps51
      go_wp2_with fail
      all_goals
        go_returns
        refine ⟨?_, (by repeat (first | exact More.refl _ | refine More.alloc ?_ _ | refine More.more ?_ _ | refine More.drew ?_ | refine More.drewN ?_ _))⟩
        rfl
  · have hf : decRight ⟨c, s⟩ = false := by
      unfold decRight
      simp only [Bool.and_eq_false_iff, decide_eq_false_iff_not]
      omega
    rw [hf]
    by_cases h1 : c < -100000000000
    · clear h hf
      go_enter Tryz.func51, Tryz.ntmps51
      go_wp2_with fail
      go_returns
      exact ⟨rfl, (by repeat (first | exact More.refl _ | refine More.alloc ?_ _ | refine More.more ?_ _ | refine More.drew ?_ | refine More.drewN ?_ _))⟩
    by_cases h2 : c > 100000000000
    · clear h hf
      go_enter Tryz.func51, Tryz.ntmps51
      go_wp2_with fail
      go_returns
      exact ⟨rfl, (by repeat (first | exact More.refl _ | refine More.alloc ?_ _ | refine More.more ?_ _ | refine More.drew ?_ | refine More.drewN ?_ _))⟩
    by_cases h3 : s < 0
    · clear h hf
      go_enter Tryz.func51, Tryz.ntmps51
      go_wp2_with fail
      go_returns
      exact ⟨rfl, (by repeat (first | exact More.refl _ | refine More.alloc ?_ _ | refine More.more ?_ _ | refine More.drew ?_ | refine More.drewN ?_ _))⟩
    have h4 : 6 < s := by omega
    clear h hf
    go_enter Tryz.func51, Tryz.ntmps51
    go_wp2_with fail
    go_returns
    exact ⟨rfl, (by repeat (first | exact More.refl _ | refine More.alloc ?_ _ | refine More.more ?_ _ | refine More.drew ?_ | refine More.drewN ?_ _))⟩

abbrev U8 := Int
def isDz (n : Int) : Bool := decide (48 ≤ n) && decide (n ≤ 57)
theorem isDz_at (l : List UInt8) (k : Nat) : isDz (byteAt l k) = isD (l.getD k 0) := by
  unfold isDz isD byteAt
  congr 1 <;> (rw [decide_eq_decide]; omega)

set_option maxHeartbeats 4000000 in
theorem ten_c (n : Int) (h0 : 0 ≤ n) (h1 : n ≤ 6) (W : World) :
    Calls Tryz.prog 52 #[.int .i64 n] W fun e w' => e = .returned (.int .i64 (p10 n.toNat)) ∧ W = w' := by
  obtain ⟨m, rfl⟩ := Int.eq_ofNat_of_zero_le h0
  go_enter Tryz.func52, Tryz.ntmps52
  go_wp2_with fail
  go_loop [0, 3] (fun i p => ∃ k : Nat, k ≤ m ∧ i = .int .i64 ((m : Int) - k) ∧ p = .int .i64 (p10 k)) (fun i _ => (intOf i).toNat)
  case atStart => exact ⟨0, by omega, by go_num, rfl⟩
  case round =>
    obtain ⟨k, hk, rfl, rfl⟩ := hrel
    have hb := p10_bd k (by omega)
    by_cases hkm : k < m
    · have HN := Lib.hid (p10_next k)
      go_wp2_with fail
      go_round
      case rel => exact ⟨k + 1, by omega, by go_num, by rw [HN.out, Int.mul_comm]⟩
      case measure => simp [intOf]; omega
    · have : k = m := by omega
      subst this
      go_wp2_with fail
      go_ret
      exact ⟨rfl, rfl⟩

end Go.Proofs.YtgikjbmaahblpaaGreatDoor

