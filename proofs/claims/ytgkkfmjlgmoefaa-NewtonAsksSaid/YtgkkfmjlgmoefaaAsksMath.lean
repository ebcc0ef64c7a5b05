/-
  Where a function is asked: within the beginning alone, at most four times a round.
-/
import Derived.Test.YtgkkfmjlgmoefaaRoots
namespace Go.Proofs.Ytgkkfmjlgmoefaa
set_option linter.unusedVariables false

theorem inside_trans {a b c : Iv} (h : ivInside a b = true) (k : ivInside b c = true) : ivInside a c = true := by
  obtain ⟨h1, h2, h3, h4⟩ := inside_iff.1 h
  obtain ⟨k1, k2, k3, k4⟩ := inside_iff.1 k
  exact inside_iff.2 ⟨h1, k2, by omega, by omega⟩
theorem inside_self {a : Iv} (h : ivRight a = true) : ivInside a a = true := inside_iff.2 ⟨h, h, by omega⟩
theorem first_asks {x : Iv} (hr : ivRight x = true) : ∀ z ∈ [ivPoint (ivMid x), x], ivInside z x = true := by
  intro z hz
  have m := mid_in hr
  have b := right_bd hr
  simp only [List.mem_cons, List.not_mem_nil, or_false] at hz
  rcases hz with rfl | rfl
  · rw [point_form (by omega)]
    exact inside_iff.2 ⟨right_of.2 (by omega), hr, by dsimp only; omega⟩
  · exact inside_self hr
theorem half_asks {F : Enc} {x : Iv} (hr : ivRight x = true) : (∀ z ∈ nHalfAsks F x, ivInside z x = true) ∧ (nHalfAsks F x).length ≤ 2 := by
  obtain ⟨es, p1, p2, -⟩ := split_form hr
  have i1 : ivInside (ivSplit x).1 x = true := by rw [es]; exact inside_iff.2 ⟨p1.1, p1.2.1, p1.2.2⟩
  have i2 : ivInside (ivSplit x).2 x = true := by rw [es]; exact inside_iff.2 ⟨p2.1, p2.2.1, p2.2.2⟩
  unfold nHalfAsks
  split
  · refine ⟨fun z hz => ?_, by simp⟩
    simp only [List.mem_cons, List.not_mem_nil, or_false] at hz
    rw [hz]
    exact i1
  · refine ⟨fun z hz => ?_, by simp⟩
    simp only [List.mem_cons, List.not_mem_nil, or_false] at hz
    rcases hz with rfl | rfl
    · exact i1
    · exact i2
theorem half_in {F : Enc} {x : Iv} (hr : ivRight x = true) (hh : ivRight (nHalf F x) = true) : ivInside (nHalf F x) x = true := by
  obtain ⟨es, p1, p2, -⟩ := split_form hr
  have i1 : ivInside (ivSplit x).1 x = true := by rw [es]; exact inside_iff.2 ⟨p1.1, p1.2.1, p1.2.2⟩
  have i2 : ivInside (ivSplit x).2 x = true := by rw [es]; exact inside_iff.2 ⟨p2.1, p2.2.1, p2.2.2⟩
  unfold nHalf at hh ⊢
  split
  · exact i2
  · split
    · exact i1
    · rename_i h1 h2
      rw [if_neg h1, if_neg h2] at hh
      cases hh
theorem asks_in (F : Enc) : ∀ (k : Nat) (x : Iv), ivRight x = true → (∀ z ∈ nLoopAsks F k x, ivInside z x = true) ∧ (nLoopAsks F k x).length ≤ 4 * k
  | 0, x, _ => ⟨fun z hz => by simp [nLoopAsks] at hz, by simp [nLoopAsks]⟩
  | k + 1, x, hr => by
    have f := first_asks hr
    obtain ⟨g1, g2⟩ := half_asks (F := F) hr
    cases hn : ivRight (nNext F x)
    · cases hh : ivRight (nHalf F x)
      · rw [(loop_none (y := false) hn hh).2]
        refine ⟨fun z hz => ?_, by simp; omega⟩
        rcases List.mem_append.1 hz with hz | hz
        · exact f z hz
        · exact g1 z hz
      · obtain ⟨i1, i2⟩ := asks_in F k _ hh
        have j := half_in hr hh
        rw [(loop_half (y := false) hn hh).2]
        refine ⟨fun z hz => ?_, by simp only [List.length_append, List.length_cons, List.length_nil]; omega⟩
        rcases List.mem_append.1 hz with hz | hz
        · exact f z hz
        · rcases List.mem_append.1 hz with hz | hz
          · exact g1 z hz
          · exact inside_trans (i1 z hz) j
    · cases hu : ivRight (ivMeet x (nNext F x))
      · rw [(loop_no (y := false) hn hu).2]
        exact ⟨f, by simp; omega⟩
      · by_cases he : ivMeet x (nNext F x) = x
        · rw [(loop_end (y := false) hn hu he).2]
          exact ⟨f, by simp; omega⟩
        · obtain ⟨i1, i2⟩ := asks_in F k _ hu
          obtain ⟨me, ml⟩ := meet_yes hr hn hu
          have j : ivInside (ivMeet x (nNext F x)) x = true := inside_iff.2 ⟨hu, hr, by rw [me]; dsimp only; omega⟩
          rw [(loop_on (y := false) hn hu he).2]
          refine ⟨fun z hz => ?_, by simp only [List.length_append, List.length_cons, List.length_nil]; omega⟩
          rcases List.mem_append.1 hz with hz | hz
          · exact f z hz
          · exact inside_trans (i1 z hz) j
theorem asks_some (F : Enc) (k : Nat) (x : Iv) (hr : ivRight x = true) : 0 < (nLoopAsks F (k + 1) x).length := by
  rw [nLoopAsks]
  simp
/-- As the law asks. -/
theorem asks_law {F : Enc} {t : Iv} {most : Int} (hr : ivRight t = true) (hm : 0 ≤ most ∧ most ≤ 40) :
    (nAsks F t most).any (fun z => !ivInside z t) = false ∧ ((nAsks F t most).length : Int) ≤ 4 * most ∧ (0 < ((nAsks F t most).length : Int) ↔ 0 < most) := by
  have e : nAsks F t most = nLoopAsks F (nMost most) t := by unfold nAsks; rw [if_pos hr]
  have en : ((nMost most : Nat) : Int) = most := by unfold nMost; omega
  rw [e]
  obtain ⟨h1, h2⟩ := asks_in F (nMost most) t hr
  refine ⟨?_, by omega, ?_⟩
  · rw [List.any_eq_false]
    intro z hz
    rw [h1 z hz]
    simp
  · obtain h0 | ⟨k, hk⟩ : nMost most = 0 ∨ ∃ k, nMost most = k + 1 := by
      cases nMost most with
      | zero => exact .inl rfl
      | succ k => exact .inr ⟨k, rfl⟩
    · rw [h0, nLoopAsks]
      simp
      omega
    · have := asks_some F k t hr
      rw [hk]
      omega
end Go.Proofs.Ytgkkfmjlgmoefaa

