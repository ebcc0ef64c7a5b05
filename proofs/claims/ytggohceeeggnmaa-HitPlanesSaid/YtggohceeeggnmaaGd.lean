/-
  Texts as lists of bytes, as the walk meets them; the library's table of powers of ten, as the contracts ask for it.
  Decimals in plain words: their texts as lists of bytes, read and printed.
  Words and numbers in plain words: a text's tokens, or its first error and where it is.
  Where tokens stand: each in its line, at its column; in order, each line's ends. How great a place may be.
-/
import Derived.Test.YtggohceeeggnmaaRows
import Derived.Test.YtggohceeeggnmaaGa
import Derived.Lib.LaidTab
import Derived.Lib.ItoaNum
import Derived.WalkLawsBesides
import Derived.Lib.Bytealg
import Derived.Lib.TrimByte
import Derived.Lib.Repeat

namespace Go.Proofs.Ytggohceeeggnmaa
set_option linter.unusedVariables false
open Go.RowKit

/-- The text of these bytes; a text's bytes. -/
def bsOf (l : List UInt8) : ByteArray := ⟨l.toArray⟩
def lsOf (s : ByteArray) : List UInt8 := s.data.toList

@[go_sem, simp] theorem ls_bs (l : List UInt8) : lsOf (bsOf l) = l := by simp [lsOf, bsOf]
@[go_sem, simp] theorem ls_mk (a : Array UInt8) : lsOf ⟨a⟩ = a.toList := rfl
@[go_sem, simp] theorem size_bs (l : List UInt8) : (bsOf l).size = l.length := by simp [bsOf, ByteArray.size]
@[go_sem, simp] theorem list_bs (l : List UInt8) : (bsOf l).toList = l := by simp [bsOf]
@[go_sem, simp] theorem data_bs (l : List UInt8) : (bsOf l).data.toList = l := by simp [bsOf]
@[go_sem, simp] theorem append_bs (l m : List UInt8) : bsOf l ++ bsOf m = bsOf (l ++ m) := ByteArray.mk_append_mk l m
@[go_sem, simp] theorem mk_append_bs (a : Array UInt8) (l : List UInt8) : (⟨a⟩ : ByteArray) ++ bsOf l = bsOf (a.toList ++ l) := append_bs a.toList l
@[go_sem, simp] theorem bs_append_mk (a : Array UInt8) (l : List UInt8) : bsOf l ++ (⟨a⟩ : ByteArray) = bsOf (l ++ a.toList) := append_bs l a.toList
@[go_sem, simp] theorem ls_append (s t : ByteArray) : lsOf (s ++ t) = lsOf s ++ lsOf t := by simp [lsOf]
@[go_sem, simp] theorem extract_bs (l : List UInt8) (i j : Nat) : (bsOf l).extract i j = bsOf ((l.drop i).take (j - i)) := ByteArray.extract_mk l i j
/-- The byte at a place, as a number. -/
def byteAt (l : List UInt8) (k : Nat) : Int := ((l.getD k 0).toNat : Int)
@[go_sem, simp] theorem get_bs (l : List UInt8) (k : Nat) (h : k < (bsOf l).size) : (((bsOf l)[k]'h).toNat : Int) = byteAt l k := by
  have h1 : k < l.length := by simpa using h
  unfold byteAt
  rw [List.getD_eq_getElem?_getD, List.getElem?_eq_getElem h1]
  simp [bsOf, ByteArray.getElem_eq_getElem_data]

end Go.Proofs.Ytggohceeeggnmaa

namespace Go.Proofs.Ytggohceeeggnmaa
set_option linter.unusedVariables false
open Go.RowKit

/-! ### Digits -/
/-! ### What the library's calls do -/
/-! ### Zeros at the end -/
/-! ### Read -/
structure Dec where
  c : Int
  s : Int
end Go.Proofs.Ytggohceeeggnmaa

namespace Go.Proofs.Ytggohceeeggnmaa
set_option linter.unusedVariables false
open Go.RowKit

/-! ### Bytes -/
def isRm (b : UInt8) : Bool := b != 10

/-- A token: its kind, its text, its place. -/
structure Tk where
  kind : Nat
  text : List UInt8
  line : Nat
  col : Nat
/-- Do tokens stand behind the last End? -/
def unended (acc : List Tk) : Bool := match acc.getLast? with | some t => t.kind != 3 | none => false
def endUp (acc : List Tk) (L C : Nat) : List Tk := if unended acc then acc ++ [⟨3, [], L, C⟩] else acc

/-! ### One step, as it is told by what stands there -/
theorem drop_id {p : UInt8 → Bool} {b : UInt8} {r : List UInt8} (h : p b = false) : (b :: r).dropWhile p = b :: r ∧ (b :: r).takeWhile p = [] := by
  have h' : ¬ p b = true := by rw [h]; simp
  exact ⟨List.dropWhile_cons_of_neg h', List.takeWhile_cons_of_neg h'⟩
/-! ### How long the rest is -/
/-! ### The bytes as numbers, as the walk asks -/
end Go.Proofs.Ytggohceeeggnmaa

namespace Go.Proofs.Ytggohceeeggnmaa
set_option linter.unusedVariables false
open Go.RowKit

/-! ### Places are small -/
/-! ### Lines -/
def linesF : List UInt8 → List UInt8 → List (List UInt8)
  | cur, [] => [cur]
  | cur, b :: r => if b = 10 then cur :: linesF [] r else linesF (cur ++ [b]) r
theorem linesF_len (cur r : List UInt8) : 1 ≤ (linesF cur r).length := by
  induction r generalizing cur with
  | nil => simp [linesF]
  | cons b r ih =>
    unfold linesF
    split
    · simp
    · exact ih _
theorem linesF_app : ∀ (t p r : List UInt8), t.all isRm = true → linesF p (t ++ r) = linesF (p ++ t) r
  | [], p, r, _ => by simp
  | b :: t, p, r, h => by
    simp only [List.all_cons, Bool.and_eq_true] at h
    have hb : ¬ b = 10 := by simpa [isRm] using h.1
    rw [List.cons_append]
    conv => lhs; unfold linesF
    rw [if_neg hb, linesF_app t _ r h.2, List.append_assoc]
    rfl
theorem linesF_head (p r : List UInt8) : (linesF p r)[0]? = some (p ++ r.takeWhile isRm) := by
  induction r generalizing p with
  | nil => simp [linesF]
  | cons b r ih =>
    unfold linesF
    by_cases hb : b = 10
    · subst hb
      rw [if_pos rfl, (drop_id (p := isRm) (b := 10) rfl).2]
      simp
    · have h : isRm b = true := by simpa [isRm] using hb
      rw [if_neg hb, ih, List.takeWhile_cons_of_pos h]
      simp

/-! ### What is asked of a token behind what was last -/
def Fits (lines : List (List UInt8)) (st : Nat × Nat × Bool) (t : Tk) : Prop :=
  1 ≤ t.line ∧ t.line ≤ lines.length ∧ 1 ≤ t.col ∧ (st.1 < t.line ∨ t.line = st.1 ∧ st.2.1 < t.col) ∧ (st.1 < t.line → st.2.2 = true) ∧
  ∃ row, lines[t.line - 1]? = some row ∧ (t.kind = 3 → t.col = row.length + 1 ∧ t.text = []) ∧ (t.kind ≠ 3 → t.col - 1 + t.text.length ≤ row.length ∧ (row.drop (t.col - 1)).take t.text.length = t.text ∧ 0 < t.text.length)
def after (t : Tk) : Nat × Nat × Bool := (t.line, t.col, t.kind == 3)
def Run (lines : List (List UInt8)) : Nat × Nat × Bool → List Tk → Nat × Nat × Bool → Prop
  | st, [], st' => st = st'
  | st, t :: r, st' => Fits lines st t ∧ Run lines (after t) r st'
theorem Run.snoc {lines : List (List UInt8)} {st' : Nat × Nat × Bool} {t : Tk} : ∀ {l : List Tk} {st : Nat × Nat × Bool}, Run lines st l st' → Fits lines st' t → Run lines st (l ++ [t]) (after t)
  | [], st, h, ht => by
    obtain rfl : st = st' := h
    exact ⟨ht, rfl⟩
  | a :: l, st, h, ht => ⟨h.1, Run.snoc h.2 ht⟩
theorem unended_snoc (acc : List Tk) (t : Tk) : unended (acc ++ [t]) = (t.kind != 3) := by simp [unended]

/-- What holds at a place of the scan. -/
structure At (lines : List (List UInt8)) (r : List UInt8) (L C : Nat) (acc : List Tk) : Prop where
  run : ∃ done p lL lC, lines = done ++ linesF p r ∧ L = done.length + 1 ∧ C = p.length + 1 ∧ Run lines (0, 0, true) acc (lL, lC, !unended acc) ∧ (lL < L ∨ lL = L ∧ lC < C) ∧ (lL < L → unended acc = false)

theorem At.skip {lines : List (List UInt8)} {t r : List UInt8} {L C : Nat} {acc : List Tk} (h : At lines (t ++ r) L C acc) (ht : t.all isRm = true) : At lines r L (C + t.length) acc := by
  obtain ⟨done, p, lL, lC, h1, h2, h3, h4, h5, h6⟩ := h.run
  rw [linesF_app t p r ht] at h1
  exact ⟨done, p ++ t, lL, lC, h1, h2, by rw [List.length_append]; omega, h4, by omega, h6⟩
theorem At.row {lines : List (List UInt8)} {r : List UInt8} {L C : Nat} {acc : List Tk} (h : At lines r L C acc) : ∃ row, L ≤ lines.length ∧ 1 ≤ L ∧ lines[L - 1]? = some (row ++ r.takeWhile isRm) ∧ C = row.length + 1 := by
  obtain ⟨done, p, lL, lC, h1, h2, h3, h4, h5, h6⟩ := h.run
  have hl := linesF_len p r
  refine ⟨p, by rw [h1, List.length_append]; omega, by omega, ?_, h3⟩
  rw [h1, h2, Nat.add_sub_cancel, List.getElem?_append_right (Nat.le_refl _), Nat.sub_self]
  exact linesF_head p r
/-- A token that is not an End, and its bytes are passed. -/
theorem At.token {lines : List (List UInt8)} {t r : List UInt8} {L C k : Nat} {acc : List Tk} (h : At lines (t ++ r) L C acc) (ht : t.all isRm = true) (h0 : 0 < t.length) (hk : k ≠ 3) : At lines r L (C + t.length) (acc ++ [⟨k, t, L, C⟩]) := by
  obtain ⟨row, g1, g2, g3, g4⟩ := h.row
  obtain ⟨done, p, lL, lC, h1, h2, h3, h4, h5, h6⟩ := (h.skip ht).run
  obtain ⟨_, _, lL', lC', _, _, _, k4, k5, k6⟩ := h.run
  have hfit : Fits lines (lL', lC', !unended acc) ⟨k, t, L, C⟩ := by
    refine ⟨g2, g1, by simp only; omega, by simp only; omega, fun hl => by rw [k6 hl]; rfl, _, g3, fun h => absurd h hk, fun _ => ?_⟩
    simp only
    have e : (t ++ r).takeWhile isRm = t ++ r.takeWhile isRm := List.takeWhile_append_of_pos (by simpa using ht)
    rw [e]
    refine ⟨by simp only [List.length_append]; omega, ?_, h0⟩
    rw [show C - 1 = row.length by omega, List.drop_append_of_le_length (Nat.le_refl _), List.drop_of_length_le (Nat.le_refl _), List.nil_append, List.take_append_of_le_length (Nat.le_refl _), List.take_of_length_le (Nat.le_refl _)]
  have hun : unended (acc ++ [⟨k, t, L, C⟩]) = true := by rw [unended_snoc]; simpa using hk
  refine ⟨done, p, L, C, h1, h2, h3, ?_, .inr ⟨rfl, by omega⟩, fun hl => absurd hl (by omega)⟩
  rw [hun]
  have := k4.snoc hfit
  have e : after ⟨k, t, L, C⟩ = (L, C, !true) := by unfold after; simp [hk]
  rw [e] at this
  exact this
/-- A line's end. -/
theorem At.ends {lines : List (List UInt8)} {r : List UInt8} {L C : Nat} {acc : List Tk} (h : At lines r L C acc) (hr : r.takeWhile isRm = []) : ∃ lL lC, Run lines (0, 0, true) (endUp acc L C) (lL, lC, true) ∧ lL ≤ L ∧ unended (endUp acc L C) = false := by
  obtain ⟨row, g1, g2, g3, g4⟩ := h.row
  obtain ⟨done, p, lL, lC, h1, h2, h3, h4, h5, h6⟩ := h.run
  unfold endUp
  cases hu : unended acc with
  | false =>
    rw [hu] at h4
    rw [if_neg (by simp)]
    exact ⟨lL, lC, h4, by omega, hu⟩
  | true =>
    rw [if_pos rfl]
    rw [hr, List.append_nil] at g3
    have hfit : Fits lines (lL, lC, !unended acc) ⟨3, [], L, C⟩ := by
      refine ⟨g2, g1, by simp only; omega, by simp only; omega, fun hl => ?_, row, g3, fun _ => ⟨g4, rfl⟩, fun h => absurd rfl h⟩
      have := h6 hl
      rw [hu] at this
      cases this
    exact ⟨L, C, h4.snoc hfit, Nat.le_refl _, by rw [unended_snoc]; rfl⟩
theorem At.line {lines : List (List UInt8)} {r : List UInt8} {L C : Nat} {acc : List Tk} (h : At lines (10 :: r) L C acc) : At lines r (L + 1) 1 (endUp acc L C) := by
  obtain ⟨lL, lC, k1, k2, k3⟩ := h.ends (drop_id (p := isRm) (b := 10) rfl).2
  obtain ⟨done, p, _, _, h1, h2, h3, _, _, _⟩ := h.run
  refine ⟨done ++ [p], [], lL, lC, by rw [h1]; simp [linesF], by simp [h2], rfl, by rw [k3]; exact k1, .inl (by omega), fun _ => k3⟩
end Go.Proofs.Ytggohceeeggnmaa
