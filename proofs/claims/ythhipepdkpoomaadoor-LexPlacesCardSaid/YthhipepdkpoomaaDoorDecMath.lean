/-
  Decimals in plain words: their texts as lists of bytes, read and printed.
-/
import Derived.Test.YthhipepdkpoomaaDoorStr
import Derived.Lib.Bytealg
import Derived.Lib.TrimByte
import Derived.Lib.Repeat
namespace Go.Proofs.YthhipepdkpoomaaDoor
set_option linter.unusedVariables false
open Go.RowKit

/-! ### Digits -/
def isD (b : UInt8) : Bool := decide (48 ≤ b.toNat) && decide (b.toNat ≤ 57)
def dv (b : UInt8) : Nat := b.toNat - 48
def valL (l : List UInt8) : Nat := l.foldl (fun n b => 10 * n + dv b) 0
theorem valL_nil : valL [] = 0 := rfl
theorem valL_snoc (l : List UInt8) (b : UInt8) : valL (l ++ [b]) = 10 * valL l + dv b := by simp [valL, List.foldl_append]
theorem dv_le (b : UInt8) (h : isD b = true) : dv b ≤ 9 := by simp [isD, dv] at *; omega
theorem snoc_ind {α : Type} {p : List α → Prop} (h0 : p []) (h1 : ∀ l b, p l → p (l ++ [b])) (l : List α) : p l := by
  have h : ∀ r : List α, p r.reverse := by
    intro r
    induction r with
    | nil => exact h0
    | cons b r ih => rw [List.reverse_cons]; exact h1 _ _ ih
  have := h l.reverse
  rwa [List.reverse_reverse] at this
theorem valL_lt (l : List UInt8) (h : l.all isD = true) : valL l < 10 ^ l.length := by
  induction l using snoc_ind with
  | h0 => simp [valL]
  | h1 l b ih =>
    rw [List.all_append, Bool.and_eq_true] at h
    have := ih h.1
    have hb : dv b ≤ 9 := dv_le b (by simpa using h.2)
    rw [valL_snoc, List.length_append, List.length_singleton, Nat.pow_succ]
    omega
theorem valL_app (l m : List UInt8) : valL (l ++ m) = valL l * 10 ^ m.length + valL m := by
  induction m using snoc_ind with
  | h0 => simp [valL]
  | h1 m b ih =>
    rw [← List.append_assoc, valL_snoc, valL_snoc, ih, List.length_append, List.length_singleton, Nat.pow_succ]
    grind

/-- 1 to m digits, and nothing else. -/
def digs (l : List UInt8) (m : Int) : Bool := decide (1 ≤ l.length) && decide ((l.length : Int) ≤ m) && l.all isD

/-! ### What the library's calls do -/
def isNeg (l : List UInt8) : Bool := l.head? == some 45
def unsg (l : List UInt8) : List UInt8 := if isNeg l then l.tail else l
def hasDot (l : List UInt8) : Bool := l.contains 46
def dotA (l : List UInt8) : List UInt8 := l.takeWhile (· != 46)
def dotB (l : List UInt8) : List UInt8 := (l.dropWhile (· != 46)).tail
def noZ (l : List UInt8) : List UInt8 := Lib.trimRightB l 48

theorem isNeg_lib (l : List UInt8) : Lib.hasPrefix l [45] = isNeg l := by
  cases l with
  | nil => rfl
  | cons a r => simp [Lib.hasPrefix, isNeg, List.isPrefixOf]; exact BEq.comm
theorem unsg_lib (l : List UInt8) : Lib.trimPrefix l [45] = unsg l := by
  unfold Lib.trimPrefix unsg
  rw [isNeg_lib]
  simp

theorem index_dot : ∀ l : List UInt8, Lib.indexByte l 46 = if hasDot l = true then ((dotA l).length : Int) else -1
  | [] => rfl
  | b :: r => by
    have ih := index_dot r
    unfold Lib.indexByte
    by_cases hb : b = 46
    · subst hb
      simp [hasDot, dotA]
    · have h1 : (b == 46) = false := by simpa using hb
      have h2 : hasDot (b :: r) = hasDot r := by
        simp only [hasDot, List.contains_cons]
        have : ((46 : UInt8) == b) = false := by simpa using fun h => hb h.symm
        rw [this, Bool.false_or]
      have h3 : dotA (b :: r) = b :: dotA r := by simp [dotA, hb]
      rw [h1, ih, h2, h3]
      by_cases hd : hasDot r = true
      · rw [if_pos hd, if_pos hd]
        have : (((dotA r).length : Int) == -1) = false := by simp
        rw [this]
        simp
      · rw [if_neg hd, if_neg hd]
        rfl
theorem dot_parts : ∀ l : List UInt8, hasDot l = true → l = dotA l ++ 46 :: dotB l
  | [], h => by cases h
  | b :: r, h => by
    by_cases hb : b = 46
    · subst hb
      simp [dotA, dotB]
    · have h2 : hasDot r = true := by
        simp only [hasDot, List.contains_cons] at h ⊢
        have : ((46 : UInt8) == b) = false := by simpa using fun h => hb h.symm
        rwa [this, Bool.false_or] at h
      have h3 : dotA (b :: r) = b :: dotA r := by simp [dotA, hb]
      have h4 : dotB (b :: r) = dotB r := by simp [dotB, hb]
      rw [h3, h4, List.cons_append, ← dot_parts r h2]
theorem dot_none : ∀ l : List UInt8, hasDot l = false → dotA l = l ∧ dotB l = []
  | [], _ => ⟨rfl, rfl⟩
  | b :: r, h => by
    simp only [hasDot, List.contains_cons, Bool.or_eq_false_iff] at h
    have hb : ¬ b = 46 := fun e => by subst e; simp at h
    have h2 := dot_none r h.2
    have h3 : dotA (b :: r) = b :: dotA r := by simp [dotA, hb]
    have h4 : dotB (b :: r) = dotB r := by simp [dotB, hb]
    rw [h3, h4, h2.1, h2.2]
    exact ⟨rfl, rfl⟩
theorem cut_at (a b : List UInt8) (x : UInt8) (l : List UInt8) (e : l = a ++ x :: b) : l.take a.length = a ∧ l.drop (a.length + 1) = b ∧ a.length + 1 ≤ l.length := by
  subst e
  refine ⟨by simp, ?_, by simp⟩
  rw [List.drop_append, List.drop_eq_nil_of_le (by omega)]
  simp
theorem dot_take (l : List UInt8) (h : hasDot l = true) : l.take (dotA l).length = dotA l ∧ l.drop ((dotA l).length + 1) = dotB l ∧ (dotA l).length + 1 ≤ l.length :=
  cut_at _ _ 46 l (dot_parts l h)
/-- Digits ahead change nothing of what stands behind. -/
theorem dot_digits : ∀ (a l : List UInt8), a.all isD = true → dotA (a ++ l) = a ++ dotA l ∧ dotB (a ++ l) = dotB l ∧ hasDot (a ++ l) = hasDot l
  | [], l, _ => ⟨rfl, rfl, rfl⟩
  | b :: r, l, h => by
    simp only [List.all_cons, Bool.and_eq_true] at h
    have hb : ¬ b = 46 := fun e => by subst e; exact absurd h.1 (by decide)
    have h2 := dot_digits r l h.2
    have h3 : dotA (b :: (r ++ l)) = b :: dotA (r ++ l) := by simp [dotA, hb]
    have h4 : dotB (b :: (r ++ l)) = dotB (r ++ l) := by simp [dotB, hb]
    have h5 : hasDot (b :: (r ++ l)) = hasDot (r ++ l) := by
      simp only [hasDot, List.contains_cons]
      have : ((46 : UInt8) == b) = false := by simpa using fun h => hb h.symm
      rw [this, Bool.false_or]
    rw [List.cons_append, List.cons_append, h3, h4, h5, h2.1, h2.2.1, h2.2.2]
    exact ⟨rfl, rfl, rfl⟩

/-! ### Zeros at the end -/
theorem noZ_snoc (l : List UInt8) (b : UInt8) : noZ (l ++ [b]) = if b = 48 then noZ l else l ++ [b] := by
  unfold noZ Lib.trimRightB
  rw [List.reverse_append, List.reverse_singleton, List.singleton_append]
  by_cases hb : b = 48
  · subst hb
    rw [if_pos rfl, List.dropWhile_cons_of_pos (by rfl)]
  · rw [if_neg hb, List.dropWhile_cons_of_neg (by simpa using hb)]
    simp
theorem noZ_all (l : List UInt8) (h : l.all isD = true) : (noZ l).all isD = true := by
  induction l using snoc_ind with
  | h0 => rfl
  | h1 l b ih =>
    rw [noZ_snoc]
    split
    · rw [List.all_append, Bool.and_eq_true] at h
      exact ih h.1
    · exact h
theorem noZ_len (l : List UInt8) : (noZ l).length ≤ l.length := by
  induction l using snoc_ind with
  | h0 => simp [noZ, Lib.trimRightB]
  | h1 l b ih =>
    rw [noZ_snoc]
    split
    · rw [List.length_append]; omega
    · omega
/-- A number and its scale, without zeros at the end behind the point. -/
def canon : Nat → Nat → Nat × Nat
  | c, 0 => (c, 0)
  | c, s + 1 => if c % 10 = 0 then canon (c / 10) s else (c, s + 1)
theorem canon_text (a b : List UInt8) (h : b.all isD = true) : canon (valL (a ++ b)) b.length = (valL (a ++ noZ b), (noZ b).length) := by
  induction b using snoc_ind with
  | h0 => simp [canon, noZ, Lib.trimRightB]
  | h1 b x ih =>
    rw [List.all_append, Bool.and_eq_true] at h
    have hx : isD x = true := by simpa using h.2
    have hd := dv_le x hx
    rw [noZ_snoc, ← List.append_assoc, valL_snoc, List.length_append, List.length_singleton]
    unfold canon
    by_cases h0 : x = 48
    · subst h0
      rw [if_pos rfl, if_pos (by simp [dv])]
      have : (10 * valL (a ++ b) + dv 48) / 10 = valL (a ++ b) := by simp [dv]
      rw [this]
      exact ih h.1
    · have hne : ¬ dv x = 0 := by
        simp [isD, dv] at hx ⊢
        intro hle
        exact h0 (UInt8.toNat_inj.1 (by show x.toNat = 48; omega))
      rw [if_neg h0, if_neg (by omega), ← List.append_assoc, valL_snoc]
      simp
theorem canon_fine : ∀ (c s : Nat), (canon c s).2 = 0 ∨ (canon c s).1 % 10 ≠ 0
  | c, 0 => .inl rfl
  | c, s + 1 => by
    unfold canon
    split
    · exact canon_fine _ _
    · exact .inr (by assumption)
theorem canon_le : ∀ (c s : Nat), (canon c s).2 ≤ s ∧ (canon c s).1 ≤ c ∧ (canon c s).1 * 10 ^ (s - (canon c s).2) = c
  | c, 0 => ⟨Nat.le_refl _, Nat.le_refl _, by simp [canon]⟩
  | c, s + 1 => by
    unfold canon
    split
    · obtain ⟨h1, h2, h3⟩ := canon_le (c / 10) s
      refine ⟨by omega, by omega, ?_⟩
      have : s + 1 - (canon (c / 10) s).2 = (s - (canon (c / 10) s).2) + 1 := by omega
      rw [this, Nat.pow_succ, ← Nat.mul_assoc, h3]
      omega
    · simp

/-! ### Read -/
def okA (u : List UInt8) : Bool := digs (dotA u) 5 && (!hasDot u || digs (dotB u) 6)
structure Dec where
  c : Int
  s : Int
def readP (l : List UInt8) : Dec × Bool :=
  if okA (unsg l) = true then
    (if isNeg l = true ∧ valL (dotA (unsg l) ++ noZ (dotB (unsg l))) = 0 then (⟨0, 0⟩, false)
     else (⟨if isNeg l = true then -(valL (dotA (unsg l) ++ noZ (dotB (unsg l))) : Int) else (valL (dotA (unsg l) ++ noZ (dotB (unsg l))) : Int), ((noZ (dotB (unsg l))).length : Int)⟩, true))
  else (⟨0, 0⟩, false)
end Go.Proofs.YthhipepdkpoomaaDoor

