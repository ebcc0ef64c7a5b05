/-
  Decimals in plain words, the third part: a text read byte by byte.
-/
import Derived.Test.YthhipepdkpoomaaDoorPrintMath
namespace Go.Proofs.YthhipepdkpoomaaDoor
set_option linter.unusedVariables false
open Go.RowKit Go.Lib

theorem digs_false {l : List UInt8} {m : Int} (h : l.length = 0 ∨ m < (l.length : Int) ∨ l.all isD = false) : digs l m = false := by
  unfold digs
  rcases h with h | h | h
  · rw [h]; rfl
  · have : decide ((l.length : Int) ≤ m) = false := decide_eq_false (by omega)
    rw [this]
    simp
  · rw [h]; simp
theorem parts_at (u : List UInt8) (k : Nat) (ha : (u.take k).all isD = true) : dotA u = u.take k ++ dotA (u.drop k) ∧ dotB u = dotB (u.drop k) ∧ hasDot u = hasDot (u.drop k) := by
  have h := dot_digits (u.take k) (u.drop k) ha
  rw [List.take_append_drop] at h
  exact h
theorem okA_of {u : List UInt8} (h : digs (dotA u) 5 = false) : okA u = false := by unfold okA; rw [h]; rfl
/-- Six digits. -/
theorem okA_six (u : List UInt8) (h : 6 ≤ u.length) (ha : (u.take 6).all isD = true) : okA u = false := by
  apply okA_of
  apply digs_false
  obtain ⟨e, _⟩ := parts_at u 6 ha
  right; left
  rw [e, List.length_append, List.length_take]
  omega
theorem drop_cons (u : List UInt8) (k : Nat) (h : k < u.length) : u.drop k = u.getD k 0 :: u.drop (k + 1) := by
  rw [List.drop_eq_getElem_cons h, List.getD_eq_getElem?_getD, List.getElem?_eq_getElem h]
  rfl
theorem byteAt_drop (u : List UInt8) (k j : Nat) : byteAt (u.drop k) j = byteAt u (k + j) := by
  unfold byteAt
  rw [List.getD_eq_getElem?_getD, List.getD_eq_getElem?_getD, List.getElem?_drop]
theorem byteAt_is (u : List UInt8) (k : Nat) (b : UInt8) : byteAt u k = (b.toNat : Int) ↔ u.getD k 0 = b := by
  unfold byteAt
  constructor
  · intro h
    exact UInt8.toNat_inj.1 (by omega)
  · intro h
    rw [h]
/-- No digit at all. -/
theorem okA_none (u : List UInt8) (h : 0 < u.length → isD (u.getD 0 0) = false) : okA u = false := by
  apply okA_of
  cases u with
  | nil => rfl
  | cons x r =>
    have hx : isD x = false := h (by simp)
    by_cases hd : x = 46
    · subst hd
      apply digs_false
      left
      simp [dotA]
    · apply digs_false
      right; right
      simp [dotA, hd, hx]
/-- A byte that is no digit and no point, behind digits. -/
theorem okA_bad (u : List UInt8) (k : Nat) (hk : k < u.length) (ha : (u.take k).all isD = true) (hd : isD (u.getD k 0) = false) (hp : u.getD k 0 ≠ 46) : okA u = false := by
  apply okA_of
  obtain ⟨e, _⟩ := parts_at u k ha
  apply digs_false
  right; right
  rw [e, drop_cons u k hk, List.all_append]
  have : dotA (u.getD k 0 :: u.drop (k + 1)) = u.getD k 0 :: dotA (u.drop (k + 1)) := by simp [dotA, -List.getD_eq_getElem?_getD, hp]
  rw [this, List.all_cons, hd]
  simp
/-- Nothing behind the digits. -/
theorem okA_end (u : List UInt8) (h1 : 1 ≤ u.length) (h5 : u.length ≤ 5) (ha : u.all isD = true) : okA u = true ∧ dotA u = u ∧ dotB u = [] := okA_plain u ha h1 h5
/-- A point behind the digits. -/
theorem okA_point (u : List UInt8) (k : Nat) (hk : k < u.length) (h1 : 1 ≤ k) (h5 : k ≤ 5) (ha : (u.take k).all isD = true) (hp : u.getD k 0 = 46) :
    dotA u = u.take k ∧ dotB u = u.drop (k + 1) ∧ okA u = digs (u.drop (k + 1)) 6 := by
  obtain ⟨e1, e2, e3⟩ := parts_at u k ha
  have hc := drop_cons u k hk
  rw [hp] at hc
  rw [hc] at e1 e2 e3
  have f1 : dotA (46 :: u.drop (k + 1)) = [] := by simp [dotA]
  have f2 : dotB (46 :: u.drop (k + 1)) = u.drop (k + 1) := by simp [dotB]
  have f3 : hasDot (46 :: u.drop (k + 1)) = true := by simp [hasDot]
  rw [f1, List.append_nil] at e1
  rw [f2] at e2
  rw [f3] at e3
  refine ⟨e1, e2, ?_⟩
  unfold okA
  rw [e1, e2, e3]
  have : digs (u.take k) 5 = true := by
    unfold digs
    rw [ha, List.length_take]
    simp
    omega
  rw [this]
  simp

theorem readP_no {l : List UInt8} (h : okA (unsg l) = false) : readP l = (⟨0, 0⟩, false) := by
  unfold readP
  rw [if_neg (by simp [h])]
theorem okA_digits {u : List UInt8} (h : okA u = true) : (dotB u).all isD = true := by
  unfold okA at h
  simp only [Bool.and_eq_true, Bool.or_eq_true, Bool.not_eq_true'] at h
  rcases h.2 with h2 | h2
  · rw [(dot_none u h2).2]; rfl
  · simp only [digs, Bool.and_eq_true] at h2
    exact h2.2
/-- What is read, by a number and its scale without zeros at the end. -/
theorem readP_yes {l : List UInt8} (h : okA (unsg l) = true) (c s : Nat) (e : canon (valL (dotA (unsg l) ++ dotB (unsg l))) (dotB (unsg l)).length = (c, s)) :
    readP l = if isNeg l = true ∧ c = 0 then (⟨0, 0⟩, false) else (⟨if isNeg l = true then -(c : Int) else (c : Int), (s : Int)⟩, true) := by
  have ht := canon_text (dotA (unsg l)) (dotB (unsg l)) (okA_digits h)
  rw [e] at ht
  injection ht with h1 h2
  unfold readP
  rw [if_pos h, ← h1, ← h2]
theorem canon_end {c s : Nat} (h : s = 0 ∨ c % 10 ≠ 0) : canon c s = (c, s) := by
  cases s with
  | zero => rfl
  | succ s =>
    unfold canon
    rw [if_neg (by omega)]
theorem canon_step {c s : Nat} (h0 : 0 < s) (h : c % 10 = 0) : canon (c / 10) (s - 1) = canon c s := by
  obtain ⟨k, rfl⟩ : ∃ k, s = k + 1 := ⟨s - 1, by omega⟩
  conv => rhs; unfold canon
  rw [if_pos h]
  rfl
end Go.Proofs.YthhipepdkpoomaaDoor

