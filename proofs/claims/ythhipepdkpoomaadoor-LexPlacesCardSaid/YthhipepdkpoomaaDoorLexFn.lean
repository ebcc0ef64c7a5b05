/-
  The small calls of package lex: bytes; a text that is read, as a block that its calls turn.
-/
import Derived.Test.YthhipepdkpoomaaDoorTok
import Derived.Test.YthhipepdkpoomaaDoorReadDec
namespace Go.Proofs.YthhipepdkpoomaaDoor
set_option linter.unusedVariables false
open Go.ChangeShapes Go.WideShapes Go.ChangeAt Go.RowKit

def isWz (n : Int) : Bool := isLz n || isDz n || decide (n = 45) || decide (n = 95)
def isNz (n : Int) : Bool := isDz n || decide (n = 46)
def isRz (n : Int) : Bool := !decide (n = 10)
theorem eq_at (l : List UInt8) (k m : Nat) (hm : m < 256) : decide (byteAt l k = (m : Int)) = (l.getD k 0 == UInt8.ofNat m) := by
  rw [Bool.eq_iff_iff, decide_eq_true_iff, beq_iff_eq]
  exact byte_eq hm
theorem isBlz_at (l : List UInt8) (k : Nat) : isBlz (byteAt l k) = isBl (l.getD k 0) := by
  unfold isBlz isBl
  rw [show (32 : Int) = ((32 : Nat) : Int) from rfl, show (9 : Int) = ((9 : Nat) : Int) from rfl, eq_at _ _ _ (by omega), eq_at _ _ _ (by omega)]
  rfl
theorem isWz_at (l : List UInt8) (k : Nat) : isWz (byteAt l k) = isW (l.getD k 0) := by
  unfold isWz isW
  rw [isLz_at, isDz_at, show (45 : Int) = ((45 : Nat) : Int) from rfl, show (95 : Int) = ((95 : Nat) : Int) from rfl, eq_at _ _ _ (by omega), eq_at _ _ _ (by omega)]
  rfl
theorem isNz_at (l : List UInt8) (k : Nat) : isNz (byteAt l k) = isNm (l.getD k 0) := by
  unfold isNz isNm
  rw [isDz_at, show (46 : Int) = ((46 : Nat) : Int) from rfl, eq_at _ _ _ (by omega)]
  rfl
theorem isRz_at (l : List UInt8) (k : Nat) : isRz (byteAt l k) = isRm (l.getD k 0) := by
  unfold isRz isRm
  rw [show (10 : Int) = ((10 : Nat) : Int) from rfl, eq_at _ _ _ (by omega)]
  rfl

set_option maxHeartbeats 4000000 in
theorem letter_c (n : U8) (W : World) :
    Calls Tryd.prog 17 #[.int .u8 n] W fun e w' => e = .returned (.bool (isLz n)) ∧ W = w' := by
  unfold isLz
  by_cases h1 : 97 ≤ n <;> by_cases h2 : n ≤ 122 <;> by_cases h3 : 65 ≤ n <;> by_cases h4 : n ≤ 90
  all_goals
    go_enter Tryd.func17, Tryd.ntmps17
    go_wp2_with fail
    go_ret
    exact ⟨by simp [h1, h2, h3, h4], rfl⟩

set_option maxHeartbeats 4000000 in
theorem ldigit_c (n : U8) (W : World) :
    Calls Tryd.prog 18 #[.int .u8 n] W fun e w' => e = .returned (.bool (isDz n)) ∧ W = w' := by
  unfold isDz
  by_cases h1 : 48 ≤ n <;> by_cases h2 : n ≤ 57
  all_goals
    go_enter Tryd.func18, Tryd.ntmps18
    go_wp2_with fail
    go_ret
    exact ⟨by simp [h1, h2], rfl⟩

set_option maxHeartbeats 4000000 in
theorem blank_c (n : U8) (W : World) :
    Calls Tryd.prog 15 #[.int .u8 n] W fun e w' => e = .returned (.bool (isBlz n)) ∧ W = w' := by
  unfold isBlz
  by_cases h1 : n = 32
  · subst h1
    go_enter Tryd.func15, Tryd.ntmps15
    go_wp2_with fail
    go_ret
    exact ⟨rfl, rfl⟩
  by_cases h2 : n = 9
  · subst h2
    go_enter Tryd.func15, Tryd.ntmps15
    go_wp2_with fail
    go_ret
    exact ⟨rfl, rfl⟩
  have g1 : (n == 32) = false := by simpa using h1
  have g2 : (n == 9) = false := by simpa using h2
  go_enter Tryd.func15, Tryd.ntmps15
  go_wp2_with fail
  go_ret
  exact ⟨by simp [h1, h2], rfl⟩

set_option maxHeartbeats 4000000 in
theorem inRemark_c (n : U8) (W : World) :
    Calls Tryd.prog 23 #[.int .u8 n] W fun e w' => e = .returned (.bool (isRz n)) ∧ W = w' := by
  unfold isRz
  by_cases h1 : n = 10
  · subst h1
    go_enter Tryd.func23, Tryd.ntmps23
    go_wp2_with fail
    go_ret
    exact ⟨rfl, rfl⟩
  have g1 : (n == 10) = false := by simpa using h1
  have g2 : (n != 10) = true := by simpa using h1
  go_enter Tryd.func23, Tryd.ntmps23
  go_wp2_with fail
  go_ret
  exact ⟨by simp [h1], rfl⟩

set_option maxHeartbeats 4000000 in
theorem inNumber_c (n : U8) (W : World) :
    Calls Tryd.prog 21 #[.int .u8 n] W fun e w' => e = .returned (.bool (isNz n)) ∧ W = w' := by
  unfold isNz
  cases h : isDz n
  · by_cases h1 : n = 46
    · subst h1
      go_enter Tryd.func21, Tryd.ntmps21
      go_wp2_with (first | (go_at_call 18; (with_reducible refine (ldigit_c _ _).mono ?_); rintro e w' ⟨rfl, rfl⟩))
      go_ret
      exact ⟨rfl, rfl⟩
    have g1 : (n == 46) = false := by simpa using h1
    go_enter Tryd.func21, Tryd.ntmps21
    go_wp2_with (first | (go_at_call 18; (with_reducible refine (ldigit_c _ _).mono ?_); rintro e w' ⟨rfl, rfl⟩))
    go_ret
    exact ⟨by simp [h1], rfl⟩
  · skip
    go_enter Tryd.func21, Tryd.ntmps21
    go_wp2_with (first | (go_at_call 18; (with_reducible refine (ldigit_c _ _).mono ?_); rintro e w' ⟨rfl, rfl⟩))
    go_ret
    exact ⟨by simp, rfl⟩

set_option maxHeartbeats 4000000 in
theorem inWord_c (n : U8) (W : World) :
    Calls Tryd.prog 19 #[.int .u8 n] W fun e w' => e = .returned (.bool (isWz n)) ∧ W = w' := by
  unfold isWz
  cases h : isLz n
  · cases h' : isDz n
    · by_cases h1 : n = 45
      · subst h1
        go_enter Tryd.func19, Tryd.ntmps19
        go_wp2_with (first | (go_at_call 17; (with_reducible refine (letter_c _ _).mono ?_); rintro e w' ⟨rfl, rfl⟩) | (go_at_call 18; (with_reducible refine (ldigit_c _ _).mono ?_); rintro e w' ⟨rfl, rfl⟩))
        go_ret
        exact ⟨rfl, rfl⟩
      by_cases h2 : n = 95
      · subst h2
        go_enter Tryd.func19, Tryd.ntmps19
        go_wp2_with (first | (go_at_call 17; (with_reducible refine (letter_c _ _).mono ?_); rintro e w' ⟨rfl, rfl⟩) | (go_at_call 18; (with_reducible refine (ldigit_c _ _).mono ?_); rintro e w' ⟨rfl, rfl⟩))
        go_ret
        exact ⟨rfl, rfl⟩
      have g1 : (n == 45) = false := by simpa using h1
      have g2 : (n == 95) = false := by simpa using h2
      go_enter Tryd.func19, Tryd.ntmps19
      go_wp2_with (first | (go_at_call 17; (with_reducible refine (letter_c _ _).mono ?_); rintro e w' ⟨rfl, rfl⟩) | (go_at_call 18; (with_reducible refine (ldigit_c _ _).mono ?_); rintro e w' ⟨rfl, rfl⟩))
      go_ret
      exact ⟨by simp [h1, h2], rfl⟩
    · skip
      go_enter Tryd.func19, Tryd.ntmps19
      go_wp2_with (first | (go_at_call 17; (with_reducible refine (letter_c _ _).mono ?_); rintro e w' ⟨rfl, rfl⟩) | (go_at_call 18; (with_reducible refine (ldigit_c _ _).mono ?_); rintro e w' ⟨rfl, rfl⟩))
      go_ret
      exact ⟨by simp, rfl⟩
  · skip
    go_enter Tryd.func19, Tryd.ntmps19
    go_wp2_with (first | (go_at_call 17; (with_reducible refine (letter_c _ _).mono ?_); rintro e w' ⟨rfl, rfl⟩) | (go_at_call 18; (with_reducible refine (ldigit_c _ _).mono ?_); rintro e w' ⟨rfl, rfl⟩))
    go_ret
    exact ⟨by simp, rfl⟩

set_option maxHeartbeats 4000000 in
theorem rletter_c (n : U8) (W : World) :
    Calls Tryd.prog 25 #[.int .u8 n] W fun e w' => e = .returned (.bool (isLz n)) ∧ W = w' := by
  unfold isLz
  by_cases h1 : 97 ≤ n <;> by_cases h2 : n ≤ 122 <;> by_cases h3 : 65 ≤ n <;> by_cases h4 : n ≤ 90
  all_goals
    go_enter Tryd.func25, Tryd.ntmps25
    go_wp2_with fail
    go_ret
    exact ⟨by simp [h1, h2, h3, h4], rfl⟩

set_option maxHeartbeats 4000000 in
theorem rinWord_c (n : U8) (W : World) :
    Calls Tryd.prog 26 #[.int .u8 n] W fun e w' => e = .returned (.bool (isWz n)) ∧ W = w' := by
  unfold isWz
  cases h : isLz n
  · cases h' : isDz n
    · by_cases h1 : n = 45
      · subst h1
        go_enter Tryd.func26, Tryd.ntmps26
        go_wp2_with (first | (go_at_call 25; (with_reducible refine (rletter_c _ _).mono ?_); rintro e w' ⟨rfl, rfl⟩) | (go_at_call 27; (with_reducible refine (digit8_c _ _).mono ?_); rintro e w' ⟨rfl, rfl⟩))
        go_ret
        exact ⟨rfl, rfl⟩
      by_cases h2 : n = 95
      · subst h2
        go_enter Tryd.func26, Tryd.ntmps26
        go_wp2_with (first | (go_at_call 25; (with_reducible refine (rletter_c _ _).mono ?_); rintro e w' ⟨rfl, rfl⟩) | (go_at_call 27; (with_reducible refine (digit8_c _ _).mono ?_); rintro e w' ⟨rfl, rfl⟩))
        go_ret
        exact ⟨rfl, rfl⟩
      have g1 : (n == 45) = false := by simpa using h1
      have g2 : (n == 95) = false := by simpa using h2
      go_enter Tryd.func26, Tryd.ntmps26
      go_wp2_with (first | (go_at_call 25; (with_reducible refine (rletter_c _ _).mono ?_); rintro e w' ⟨rfl, rfl⟩) | (go_at_call 27; (with_reducible refine (digit8_c _ _).mono ?_); rintro e w' ⟨rfl, rfl⟩))
      go_ret
      exact ⟨by simp [h1, h2], rfl⟩
    · skip
      go_enter Tryd.func26, Tryd.ntmps26
      go_wp2_with (first | (go_at_call 25; (with_reducible refine (rletter_c _ _).mono ?_); rintro e w' ⟨rfl, rfl⟩) | (go_at_call 27; (with_reducible refine (digit8_c _ _).mono ?_); rintro e w' ⟨rfl, rfl⟩))
      go_ret
      exact ⟨by simp, rfl⟩
  · skip
    go_enter Tryd.func26, Tryd.ntmps26
    go_wp2_with (first | (go_at_call 25; (with_reducible refine (rletter_c _ _).mono ?_); rintro e w' ⟨rfl, rfl⟩) | (go_at_call 27; (with_reducible refine (digit8_c _ _).mono ?_); rintro e w' ⟨rfl, rfl⟩))
    go_ret
    exact ⟨by simp, rfl⟩

set_option maxHeartbeats 4000000 in
theorem clonel_c (s : ByteArray) (hs : s.size ≤ 281474976710656) (W : World) :
    Calls Tryd.prog 36 #[.string s] W fun e w' => e = .returned (.string s) ∧ More W w' := by
  refine (Tryd.stringslite_Clone s W hs).mono ?_
  rintro e w' ⟨rfl, hb⟩
  exact ⟨rfl, more_of_below hb⟩

set_option maxHeartbeats 4000000 in
theorem clone_c (s : ByteArray) (hs : s.size ≤ 281474976710656) (W : World) :
    Calls Tryd.prog 29 #[.string s] W fun e w' => e = .returned (.string s) ∧ More W w' := by
  go_enter Tryd.func29, Tryd.ntmps29
  go_wp2_with (first | (go_at_call 36; (with_reducible refine (clonel_c _ (by (try simp only [size_bs]); omega) _).mono ?_); rintro e w' ⟨rfl, r, rfl⟩))
  go_returns
  exact ⟨rfl, (by repeat (first | exact More.refl _ | refine More.alloc ?_ _ | refine More.more ?_ _ | refine More.drew ?_ | refine More.drewN ?_ _))⟩

end Go.Proofs.YthhipepdkpoomaaDoor

