/-
  The contracts of the plain saying of chapter 9, the second part.
-/
import Derived.Test.YthhipepdkpoomaaDoorRef8
namespace Go.Proofs.YthhipepdkpoomaaDoor
set_option linter.unusedVariables false
open Go.ChangeShapes Go.WideShapes Go.ChangeAt Go.RowKit

set_option maxHeartbeats 4000000 in
theorem rright8_c (d : Dec) (W : World) :
    Calls Tryd.prog 35 #[decV d] W fun e w' => e = .returned (.bool (decRight d)) ∧ More W w' := by
  obtain ⟨c, s⟩ := d
  by_cases h : -100000000000 ≤ c ∧ c ≤ 100000000000 ∧ 0 ≤ s ∧ s ≤ 6
  · obtain ⟨h1, h2, h3, h4⟩ := h
    rw [decRight_fine h1 h2 h3 h4]
    by_cases h0 : s = 0
    · subst h0
      go_enter Tryd.func35, Tryd.ntmps35
      go_wp2_with fail
      go_returns
      exact ⟨rfl, (by repeat (first | exact More.refl _ | refine More.alloc ?_ _ | refine More.more ?_ _ | refine More.drew ?_ | refine More.drewN ?_ _))⟩
    · have h5 : (s == 0) = false := by simpa using h0
      have h6 : decide (s = 0) = false := by simpa using h0
      rw [h6]
      clear h0
      go_enter Tryd.func35, Tryd.ntmps35
      go_wp2_with fail
      all_goals
        go_returns
        refine ⟨?_, (by repeat (first | exact More.refl _ | refine More.alloc ?_ _ | refine More.more ?_ _ | refine More.drew ?_ | refine More.drewN ?_ _))⟩
        rfl
  · have hf : decRight ⟨c, s⟩ = false := by
      unfold decRight
      simp only [Bool.and_eq_false_iff, decide_eq_false_iff_not]
      omega
    rw [hf]
    by_cases h1 : c < -100000000000
    · clear h hf
      go_enter Tryd.func35, Tryd.ntmps35
      go_wp2_with fail
      go_returns
      exact ⟨rfl, (by repeat (first | exact More.refl _ | refine More.alloc ?_ _ | refine More.more ?_ _ | refine More.drew ?_ | refine More.drewN ?_ _))⟩
    by_cases h2 : c > 100000000000
    · clear h hf
      go_enter Tryd.func35, Tryd.ntmps35
      go_wp2_with fail
      go_returns
      exact ⟨rfl, (by repeat (first | exact More.refl _ | refine More.alloc ?_ _ | refine More.more ?_ _ | refine More.drew ?_ | refine More.drewN ?_ _))⟩
    by_cases h3 : s < 0
    · clear h hf
      go_enter Tryd.func35, Tryd.ntmps35
      go_wp2_with fail
      go_returns
      exact ⟨rfl, (by repeat (first | exact More.refl _ | refine More.alloc ?_ _ | refine More.more ?_ _ | refine More.drew ?_ | refine More.drewN ?_ _))⟩
    have h4 : 6 < s := by omega
    clear h hf
    go_enter Tryd.func35, Tryd.ntmps35
    go_wp2_with fail
    go_returns
    exact ⟨rfl, (by repeat (first | exact More.refl _ | refine More.alloc ?_ _ | refine More.more ?_ _ | refine More.drew ?_ | refine More.drewN ?_ _))⟩

abbrev U8 := Int
def isDz (n : Int) : Bool := decide (48 ≤ n) && decide (n ≤ 57)
theorem isDz_at (l : List UInt8) (k : Nat) : isDz (byteAt l k) = isD (l.getD k 0) := by
  unfold isDz isD byteAt
  congr 1 <;> (rw [decide_eq_decide]; omega)
set_option maxHeartbeats 4000000 in
theorem digit8_c (n : U8) (W : World) :
    Calls Tryd.prog 27 #[.int .u8 n] W fun e w' => e = .returned (.bool (isDz n)) ∧ W = w' := by
  unfold isDz
  by_cases h1 : 48 ≤ n <;> by_cases h2 : n ≤ 57
  all_goals
    go_enter Tryd.func27, Tryd.ntmps27
    go_wp2_with fail
    go_ret
    exact ⟨by simp [h1, h2], rfl⟩

end Go.Proofs.YthhipepdkpoomaaDoor

