/-
  Decimals in plain words, the second part: how they are printed; what is printed is read the same.
-/
import Derived.Test.YthhipepdkpoomaaDoorDecMath
namespace Go.Proofs.YthhipepdkpoomaaDoor
set_option linter.unusedVariables false
open Go.RowKit Go.Lib

theorem decDigits_small {u : Nat} (h : u < 10) : decDigits u = [UInt8.ofNat (48 + u)] := decDigits_one h
theorem decDigits_big {u : Nat} (h : ¬ u < 10) : decDigits u = decDigits (u / 10) ++ [UInt8.ofNat (48 + u % 10)] := by rw [decDigits, dif_neg h]
theorem dig_byte (u : Nat) (h : u < 10) : isD (UInt8.ofNat (48 + u)) = true ∧ dv (UInt8.ofNat (48 + u)) = u := by
  have : u = 0 ∨ u = 1 ∨ u = 2 ∨ u = 3 ∨ u = 4 ∨ u = 5 ∨ u = 6 ∨ u = 7 ∨ u = 8 ∨ u = 9 := by omega
  rcases this with rfl | rfl | rfl | rfl | rfl | rfl | rfl | rfl | rfl | rfl <;> decide
theorem dig_all (u : Nat) : (decDigits u).all isD = true := by
  induction u using Nat.strongRecOn with
  | ind u ih =>
    by_cases h : u < 10
    · rw [decDigits_small h]
      simpa using (dig_byte u h).1
    · rw [decDigits_big h, List.all_append, ih (u / 10) (by omega)]
      simpa using (dig_byte (u % 10) (by omega)).1
theorem dig_val (u : Nat) : valL (decDigits u) = u := by
  induction u using Nat.strongRecOn with
  | ind u ih =>
    by_cases h : u < 10
    · rw [decDigits_small h]
      have := (dig_byte u h).2
      simpa [valL] using this
    · rw [decDigits_big h, valL_snoc, ih (u / 10) (by omega), (dig_byte (u % 10) (by omega)).2]
      omega
theorem dig_pos (u : Nat) : 1 ≤ (decDigits u).length := by rw [decDigits_length]; exact nDigits_pos u
theorem dig_len : ∀ (m u : Nat), u < 10 ^ (m + 1) → (decDigits u).length ≤ m + 1
  | 0, u, h => by rw [decDigits_small (by simpa using h)]; simp
  | m + 1, u, h => by
    by_cases h9 : u < 10
    · rw [decDigits_small h9]; simp
    · rw [decDigits_big h9, List.length_append, List.length_singleton]
      have := dig_len m (u / 10) (by rw [Nat.pow_succ] at h; omega)
      omega
theorem dig_len5 (u : Nat) : (decDigits u).length ≤ 5 ↔ u ≤ 99999 := by
  rw [decDigits_length]
  constructor
  · intro h
    have h1 := lt_pow_nDigits u
    have : (10 : Nat) ^ nDigits u ≤ 10 ^ 5 := Nat.pow_le_pow_right (by decide) h
    omega
  · intro h
    apply Classical.byContradiction
    intro hc
    have h1 : 10 ^ 5 ≤ 10 ^ (nDigits u - 1) := Nat.pow_le_pow_right (by decide) (by omega)
    have h2 : 10 ^ (nDigits u - 1) ≤ u := by
      have key : ∀ v, 10 ≤ v → 10 ^ (nDigits v - 1) ≤ v := by
        intro v
        induction v using Nat.strongRecOn with
        | ind v ih =>
          intro hv
          rw [nDigits_big (by omega)]
          by_cases h9 : v / 10 < 10
          · rw [nDigits_small h9]
            simp
            omega
          · have := ih (v / 10) (by omega) (by omega)
            have hp := nDigits_pos (v / 10)
            have e : nDigits (v / 10) + 1 - 1 = (nDigits (v / 10) - 1) + 1 := by omega
            rw [e, Nat.pow_succ]
            omega
      apply key
      apply Classical.byContradiction
      intro h10
      rw [nDigits_small (by omega)] at hc
      omega
    omega

/-- Zeros ahead, that one digit at least stands ahead of the point; what stands behind it. -/
def padL (n s : Nat) : List UInt8 := List.replicate (s + 1 - (decDigits n).length) 48 ++ decDigits n
def tailL (n s : Nat) : List UInt8 := (decDigits (n % 10 ^ s + 10 ^ s)).tail
theorem tail_snoc {α : Type} (l : List α) (b : α) (h : l ≠ []) : (l ++ [b]).tail = l.tail ++ [b] := by
  cases l with
  | nil => exact absurd rfl h
  | cons a r => rfl
theorem dig_ne (u : Nat) : decDigits u ≠ [] := fun h => by have := dig_pos u; rw [h] at this; simp at this
theorem tail_next (n s : Nat) : tailL n (s + 1) = tailL (n / 10) s ++ [UInt8.ofNat (48 + n % 10)] := by
  unfold tailL
  have hp : 0 < 10 ^ s := Nat.pow_pos (by decide)
  have e1 : n % 10 ^ (s + 1) = n % 10 + 10 * (n / 10 % 10 ^ s) := by
    rw [Nat.pow_succ, Nat.mul_comm (10 ^ s) 10, Nat.mod_mul]
  have e0 : n % 10 ^ (s + 1) + 10 ^ (s + 1) = n % 10 + 10 * (n / 10 % 10 ^ s + 10 ^ s) := by
    rw [e1, Nat.pow_succ]
    omega
  rw [e0, decDigits_big (by omega)]
  have e2 : (n % 10 + 10 * (n / 10 % 10 ^ s + 10 ^ s)) / 10 = n / 10 % 10 ^ s + 10 ^ s := by omega
  have e3 : (n % 10 + 10 * (n / 10 % 10 ^ s + 10 ^ s)) % 10 = n % 10 := by omega
  rw [e2, e3, tail_snoc _ _ (dig_ne _)]
theorem tail_zero (n : Nat) : tailL n 0 = [] := by
  unfold tailL
  have : n % 10 ^ 0 + 10 ^ 0 = 1 := by simp [Nat.mod_one]
  rw [this, decDigits_small (by decide)]
  rfl
theorem tail_len : ∀ (s n : Nat), (tailL n s).length = s
  | 0, n => by rw [tail_zero]; rfl
  | s + 1, n => by rw [tail_next, List.length_append, tail_len s]; rfl
theorem tail_all : ∀ (s n : Nat), (tailL n s).all isD = true
  | 0, n => by rw [tail_zero]; rfl
  | s + 1, n => by
    rw [tail_next, List.all_append, tail_all s]
    simpa using (dig_byte (n % 10) (by omega)).1
theorem pad_next (n s : Nat) : padL n (s + 1) = padL (n / 10) s ++ [UInt8.ofNat (48 + n % 10)] := by
  unfold padL
  by_cases h : n < 10
  · have e : n / 10 = 0 := by omega
    rw [decDigits_small h, e, decDigits_small (by decide)]
    have h2 : n % 10 = n := by omega
    rw [h2]
    show List.replicate (s + 1) 48 ++ [UInt8.ofNat (48 + n)] = List.replicate s 48 ++ [48] ++ [UInt8.ofNat (48 + n)]
    rw [List.replicate_succ']
  · rw [decDigits_big h, List.length_append, List.length_singleton, ← List.append_assoc]
    congr 3
    omega
theorem pad_parts : ∀ (s n : Nat), padL n s = decDigits (n / 10 ^ s) ++ tailL n s
  | 0, n => by
    have h := dig_pos n
    rw [tail_zero, Nat.pow_zero, Nat.div_one, List.append_nil]
    unfold padL
    have : 0 + 1 - (decDigits n).length = 0 := by omega
    rw [this]
    rfl
  | s + 1, n => by
    rw [pad_next, pad_parts s, tail_next, ← List.append_assoc, Nat.div_div_eq_div_mul, Nat.pow_succ, Nat.mul_comm (10 ^ s) 10]
theorem valL_zeros (k : Nat) (l : List UInt8) : valL (List.replicate k 48 ++ l) = valL l := by
  rw [valL_app]
  have : valL (List.replicate k 48) = 0 := by
    induction k with
    | zero => rfl
    | succ k ih => rw [List.replicate_succ', valL_snoc, ih]; rfl
  rw [this]
  omega
theorem parts_val (n s : Nat) : valL (decDigits (n / 10 ^ s) ++ tailL n s) = n := by
  rw [← pad_parts]
  unfold padL
  rw [valL_zeros, dig_val]

/-! ### Print -/
def decRight (d : Dec) : Bool := decide (-100000000000 ≤ d.c) && decide (d.c ≤ 100000000000) && decide (0 ≤ d.s) && decide (d.s ≤ 6) && (decide (d.s = 0) || !(d.c.tmod 10 == 0))
def headP (d : Dec) : Nat := d.c.natAbs / 10 ^ d.s.toNat
def printP (d : Dec) : List UInt8 :=
  if decRight d = true ∧ headP d ≤ 99999 then
    (if d.c < 0 then [45] else []) ++ (decDigits (headP d) ++ if d.s = 0 then [] else 46 :: tailL d.c.natAbs d.s.toNat)
  else []
theorem decRight_bd {c s : Int} (h : decRight ⟨c, s⟩ = true) : (-100000000000 ≤ c ∧ c ≤ 100000000000) ∧ 0 ≤ s ∧ s ≤ 6 ∧ (s = 0 ∨ c.tmod 10 ≠ 0) := by
  simp only [decRight, Bool.and_eq_true, Bool.or_eq_true, decide_eq_true_eq, Bool.not_eq_true', beq_eq_false_iff_ne] at h
  exact ⟨⟨h.1.1.1.1, h.1.1.1.2⟩, h.1.1.2, h.1.2, h.2⟩
theorem decRight_mk {c s : Int} (h1 : -100000000000 ≤ c) (h2 : c ≤ 100000000000) (h3 : 0 ≤ s) (h4 : s ≤ 6) (h5 : s = 0 ∨ c.tmod 10 ≠ 0) : decRight ⟨c, s⟩ = true := by
  simp only [decRight, Bool.and_eq_true, Bool.or_eq_true, decide_eq_true_eq, Bool.not_eq_true', beq_eq_false_iff_ne]
  exact ⟨⟨⟨⟨h1, h2⟩, h3⟩, h4⟩, h5⟩
theorem not_minus {l : List UInt8} (h : l.all isD = true) : isNeg l = false := by
  cases l with
  | nil => rfl
  | cons a r =>
    simp only [isNeg, List.head?_cons]
    simp only [List.all_cons, Bool.and_eq_true] at h
    by_cases ha : a = 45
    · subst ha; exact absurd h.1 (by decide)
    · simpa using ha
theorem no_dot {l : List UInt8} (h : l.all isD = true) : hasDot l = false := by
  cases hd : hasDot l with
  | false => rfl
  | true =>
    unfold hasDot at hd
    have hm : (46 : UInt8) ∈ l := by simpa using hd
    exact absurd (List.all_eq_true.1 h 46 hm) (by decide)
/-- A text of digits, a point and digits, read. -/
theorem okA_text (a b : List UInt8) (ha : a.all isD = true) (hb : b.all isD = true) (h1 : 1 ≤ a.length) (h5 : a.length ≤ 5) (h6 : 1 ≤ b.length) (h7 : b.length ≤ 6) :
    okA (a ++ 46 :: b) = true ∧ dotA (a ++ 46 :: b) = a ∧ dotB (a ++ 46 :: b) = b := by
  obtain ⟨e1, e2, e3⟩ := dot_digits a (46 :: b) ha
  have f1 : dotA (46 :: b) = [] := by simp [dotA]
  have f2 : dotB (46 :: b) = b := by simp [dotB]
  rw [f1, List.append_nil] at e1
  rw [f2] at e2
  refine ⟨?_, e1, e2⟩
  unfold okA
  rw [e1, e2]
  have d1 : digs a 5 = true := by simp [digs, ha, h1]; omega
  have d2 : digs b 6 = true := by simp [digs, hb, h6]; omega
  rw [d1, d2]
  simp
theorem okA_plain (a : List UInt8) (ha : a.all isD = true) (h1 : 1 ≤ a.length) (h5 : a.length ≤ 5) : okA a = true ∧ dotA a = a ∧ dotB a = [] := by
  have h := dot_none a (no_dot ha)
  refine ⟨?_, h.1, h.2⟩
  unfold okA
  rw [h.1, no_dot ha]
  have d1 : digs a 5 = true := by simp [digs, ha, h1]; omega
  rw [d1]
  rfl
theorem noZ_ends (l : List UInt8) (b : UInt8) (hb : b ≠ 48) : noZ (l ++ [b]) = l ++ [b] := by rw [noZ_snoc, if_neg hb]
theorem tail_ends (n s : Nat) (hs : 0 < s) (h : n % 10 ≠ 0) : noZ (tailL n s) = tailL n s := by
  obtain ⟨k, rfl⟩ : ∃ k, s = k + 1 := ⟨s - 1, by omega⟩
  rw [tail_next]
  apply noZ_ends
  have : n % 10 = 1 ∨ n % 10 = 2 ∨ n % 10 = 3 ∨ n % 10 = 4 ∨ n % 10 = 5 ∨ n % 10 = 6 ∨ n % 10 = 7 ∨ n % 10 = 8 ∨ n % 10 = 9 := by omega
  rcases this with e | e | e | e | e | e | e | e | e <;> (rw [e]; decide)
/-- What is printed is read the same. -/
theorem read_print (d : Dec) (h : decRight d = true) (h5 : headP d ≤ 99999) : readP (printP d) = (d, true) := by
  obtain ⟨c, s⟩ := d
  obtain ⟨_, h3, h4, hz⟩ := decRight_bd h
  obtain ⟨k, rfl⟩ := Int.eq_ofNat_of_zero_le h3
  have hp : printP ⟨c, (k : Int)⟩ = (if c < 0 then [45] else []) ++ (decDigits (c.natAbs / 10 ^ k) ++ if (k : Int) = 0 then [] else 46 :: tailL c.natAbs k) := by
    unfold printP
    rw [if_pos ⟨h, h5⟩]
    rfl
  have hh : c.natAbs / 10 ^ k ≤ 99999 := h5
  have ha := dig_all (c.natAbs / 10 ^ k)
  have h1 := dig_pos (c.natAbs / 10 ^ k)
  have hl := (dig_len5 _).2 hh
  have hv := parts_val c.natAbs k
  rw [hp]
  clear hp h5 hh
  have core : okA (decDigits (c.natAbs / 10 ^ k) ++ if (k : Int) = 0 then [] else 46 :: tailL c.natAbs k) = true ∧
      dotA (decDigits (c.natAbs / 10 ^ k) ++ if (k : Int) = 0 then [] else 46 :: tailL c.natAbs k) = decDigits (c.natAbs / 10 ^ k) ∧
      noZ (dotB (decDigits (c.natAbs / 10 ^ k) ++ if (k : Int) = 0 then [] else 46 :: tailL c.natAbs k)) = tailL c.natAbs k := by
    by_cases hk : k = 0
    · subst hk
      rw [if_pos (show ((0 : Nat) : Int) = 0 from rfl), List.append_nil]
      obtain ⟨g1, g2, g3⟩ := okA_plain _ ha h1 hl
      refine ⟨g1, g2, ?_⟩
      rw [g3, tail_zero]
      rfl
    · rw [if_neg (by omega)]
      obtain ⟨g1, g2, g3⟩ := okA_text _ (tailL c.natAbs k) ha (tail_all k _) h1 hl (by rw [tail_len]; omega) (by rw [tail_len]; omega)
      refine ⟨g1, g2, ?_⟩
      rw [g3]
      apply tail_ends _ _ (by omega)
      have hm : c.tmod 10 ≠ 0 := by omega
      have e : (c.tmod 10).natAbs = c.natAbs % 10 := Int.natAbs_tmod c 10
      omega
  have hn : isNeg (decDigits (c.natAbs / 10 ^ k) ++ if (k : Int) = 0 then [] else 46 :: tailL c.natAbs k) = false := by
    cases e : decDigits (c.natAbs / 10 ^ k) with
    | nil => exact absurd e (dig_ne _)
    | cons b r =>
      have := not_minus ha
      rw [e] at this
      exact this
  generalize (decDigits (c.natAbs / 10 ^ k) ++ if (k : Int) = 0 then [] else 46 :: tailL c.natAbs k) = T at *
  obtain ⟨g1, g2, g3⟩ := core
  have hlen : ((noZ (dotB T)).length : Int) = (k : Int) := by rw [g3, tail_len]
  by_cases hc : c < 0
  · rw [if_pos hc]
    have e1 : unsg ([45] ++ T) = T := rfl
    have e2 : isNeg ([45] ++ T) = true := rfl
    unfold readP
    rw [e1, e2, if_pos g1, hlen, g2, g3, hv, if_neg (by omega), if_pos rfl]
    congr 2
    omega
  · rw [if_neg hc, List.nil_append]
    have e1 : unsg T = T := by unfold unsg; rw [hn]; rfl
    unfold readP
    rw [e1, hn, if_pos g1, hlen, g2, g3, hv, if_neg (by simp), if_neg (by simp)]
    congr 2
    omega
end Go.Proofs.YthhipepdkpoomaaDoor

