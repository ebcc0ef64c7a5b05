/-
  The text of glasses as it is printed, and the tokens that are read from it: plain lists.
  The glasses that are handed in: plain numbers: what a decimal of so many digits behind the point is; a crown, a flint, and some of raw numbers.
  What is read of a text of glasses, and which glasses may be: plain lists.
  A glass's index in a light, its Abbe number, the lines; what the statements of chapter 11 ask of them: plain.
  Tokens end with an End; how long their texts are.
-/
import Derived.Test.YtekhhekkepijoaaGreatDoorGd
import Derived.Test.YtekhhekkepijoaaGreatDoorGb
import Derived.Test.YtekhhekkepijoaaGreatDoorGz5

namespace Go.Proofs.YtekhhekkepijoaaGreatDoor
set_option linter.unusedVariables false
open Go.RowKit

/-! ### A line of words and numbers, a blank between -/
/-! ### A number as it is printed -/
/-! ### Glasses -/
structure Gl where
  name : List UInt8
  b0 : Dec
  b1 : Dec
  b2 : Dec
  c0 : Dec
  c1 : Dec
  c2 : Dec
def OkName (t : List UInt8) : Prop := ∃ c w, t = c :: w ∧ isLet c = true ∧ w.all isW = true ∧ w.length ≤ 19
end Go.Proofs.YtekhhekkepijoaaGreatDoor

namespace Go.Proofs.YtekhhekkepijoaaGreatDoor
set_option linter.unusedVariables false
open Go.RowKit

/-- A decimal out of a number and its digits behind the point: zeros at its end away. -/
def decH : Int → Nat → Dec
  | c, 0 => ⟨c, 0⟩
  | c, s + 1 => if c.tmod 10 = 0 then decH (c.tdiv 10) s else ⟨c, (s + 1 : Nat)⟩
def crownG : Gl := ⟨[99, 114, 111, 119, 110], decH 103961 5, decH 23179 5, decH 101047 5, decH 600 5, decH 2002 5, decH 1035607 4⟩
def flintG : Gl := ⟨[102, 108, 105, 110, 116], decH 173760 5, decH 31375 5, decH 189878 5, decH 1319 5, decH 6231 5, decH 1552363 4⟩
def rawG (i : Nat) (n : Int) : Gl := ⟨103 :: Lib.decDigits i, decH (n % 200000) 5, decH (n.tdiv 7 % 50000) 5, ⟨0, 0⟩, decH (n.tdiv 11 % 3000) 5, decH (n.tdiv 13 % 9000) 5, decH (n.tdiv 17 % 200000 - 1000) 3⟩
/-- Of the first k of l. -/
def rawsG (l : List Int) (k : Nat) : List Gl := (List.range k).map fun i => rawG i (l.getD i 0)
def glassesG (l : List Int) : List Gl := crownG :: flintG :: rawsG l (min l.length 3)
theorem rawsG_succ (l : List Int) (k : Nat) : rawsG l (k + 1) = rawsG l k ++ [rawG k (l.getD k 0)] := by simp [rawsG, List.range_succ]
theorem rawsG_len (l : List Int) (k : Nat) : (rawsG l k).length = k := by simp [rawsG]
end Go.Proofs.YtekhhekkepijoaaGreatDoor

namespace Go.Proofs.YtekhhekkepijoaaGreatDoor
set_option linter.unusedVariables false
open Go.RowKit

def airT : List UInt8 := [97, 105, 114]
def hasName (t : List UInt8) (l : List Gl) : Bool := l.any fun g => g.name == t
theorem unended_drop {ts : List Tk} (hu : unended ts = false) (n : Nat) : unended (ts.drop n) = false := by
  by_cases h : ts.length ≤ n
  · rw [List.drop_of_length_le h]
    rfl
  · unfold unended at *
    have e : (ts.drop n).getLast? = ts.getLast? := by
      rw [List.getLast?_drop, if_neg h]
    rw [e]
    exact hu
/-! ### Glasses that are printed are read the same -/
/-! ### Which may be -/
end Go.Proofs.YtekhhekkepijoaaGreatDoor

namespace Go.Proofs.YtekhhekkepijoaaGreatDoor
set_option linter.unusedVariables false
open Go.RowKit

def ixG (g : Gl) (w : Iv) : Iv := if g.name = airT then ivPoint 65536 else ixOf (ivSqr w) (decIv g.b0) (decIv g.c0) (decIv g.b1) (decIv g.c1) (decIv g.b2) (decIv g.c2)
def lineP (k : Int) : Iv := if k = 0 then decIv ⟨5876, 4⟩ else if k = 1 then decIv ⟨4861, 4⟩ else if k = 2 then decIv ⟨6563, 4⟩ else ivNone
end Go.Proofs.YtekhhekkepijoaaGreatDoor

namespace Go.Proofs.YtekhhekkepijoaaGreatDoor
set_option linter.unusedVariables false
open Go.RowKit

theorem endUp_ends (acc : List Tk) (L C : Nat) : unended (endUp acc L C) = false := by
  unfold endUp
  split
  · unfold unended
    simp
  · rename_i h
    simpa using h
theorem endUp_text {acc : List Tk} {L C M : Nat} (h : ∀ t ∈ acc, t.text.length ≤ M) : ∀ t ∈ endUp acc L C, t.text.length ≤ M := endUp_all h (by simp)
theorem lexF_ends : ∀ (n : Nat) (r : List UInt8) (L C M : Nat) (acc : List Tk), r.length ≤ M → (∀ t ∈ acc, t.text.length ≤ M) → unended (lexF n r L C acc).toks = false ∧ ∀ t ∈ (lexF n r L C acc).toks, t.text.length ≤ M
  | 0, _, _, _, _, _, _, _ => by simp [lexF, unended]
  | n + 1, r, L, C, M, acc, hr, ha => by
    rw [lexF_blanks]
    have h1 := take_drop isBl r
    generalize C + (r.takeWhile isBl).length = D
    cases hd : r.dropWhile isBl with
    | nil =>
      rw [lexF_nil]
      exact ⟨endUp_ends _ _ _, endUp_text ha⟩
    | cons c q =>
      rw [hd, List.length_cons] at h1
      by_cases c10 : c = 10
      · subst c10
        rw [lexF_line]
        exact lexF_ends n q (L + 1) 1 M _ (by omega) (endUp_text ha)
      by_cases c35 : c = 35
      · subst c35
        rw [lexF_remark]
        have h2 := take_drop isRm (35 :: q)
        rw [List.length_cons] at h2
        generalize D + ((35 :: q).takeWhile isRm).length = D2
        cases hz : (35 :: q).dropWhile isRm with
        | nil =>
          rw [lexF_nil]
          exact ⟨endUp_ends _ _ _, endUp_text ha⟩
        | cons z y =>
          have hz2 : isRm z = false := by
            have := List.head?_dropWhile_not isRm (35 :: q)
            rw [hz] at this
            simpa using this
          have hz3 : z = 10 := by simpa [isRm] using hz2
          subst hz3
          rw [hz, List.length_cons] at h2
          rw [lexF_line]
          exact lexF_ends n y (L + 1) 1 M _ (by omega) (endUp_text ha)
      cases hc : isLet c with
      | true =>
        rw [lexF_word hc]
        have h2 := take_drop isW (c :: q)
        rw [List.length_cons] at h2
        split
        · simp [unended]
        · exact lexF_ends n _ L _ M _ (by omega) (snoc_all ha (by show ((c :: q).takeWhile isW).length ≤ M; omega))
      | false =>
        by_cases hn : c = 45 ∨ isD c = true
        · rw [lexF_number hn]
          have h2 := take_drop isNm q
          split
          · exact lexF_ends n _ L _ M _ (by omega) (snoc_all ha (by show (c :: q.takeWhile isNm).length ≤ M; rw [List.length_cons]; omega))
          · simp [unended]
        · have hb : isBl c = false := by
            have := List.head?_dropWhile_not isBl r
            rw [hd] at this
            simpa using this
          rw [lexF_other hb c10 c35 hc (fun h => hn (.inl h)) (by apply Bool.eq_false_iff.2; exact fun h => hn (.inr h))]
          simp [unended]
theorem lexP_ends (s : List UInt8) : unended (lexP s).toks = false ∧ ∀ t ∈ (lexP s).toks, t.text.length ≤ 4000 := by
  unfold lexP
  split
  · simp [unended]
  · exact lexF_ends _ _ _ _ _ _ (by omega) (by simp)

end Go.Proofs.YtekhhekkepijoaaGreatDoor
