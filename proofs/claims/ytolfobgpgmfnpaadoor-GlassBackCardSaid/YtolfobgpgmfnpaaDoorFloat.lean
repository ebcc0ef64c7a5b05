/-
  Whole numbers as floating-point numbers of 64 bits, in which they are exact: what a word of a whole number reads, what sums, products, comparisons of such give.
-/
import Derived.Laws.FloatArith
import Derived.Laws.ComplexArith
import Derived.Laws.Cover2
import Derived.Laws.Cover3
namespace Go.Proofs.YtolfobgpgmfnpaaDoor
set_option linter.unusedVariables false
set_option linter.unusedVariables false
open Ieee

/-- The word of a whole number with a sign (a 0 has one, too). -/
def fb (neg : Bool) (c : Nat) : Nat := double.nearest neg c 0
theorem binade_d : double.binade = 4503599627370496 := by decide +kernel
theorem inf_d : double.infRung = 9218868437227405312 := by decide +kernel
theorem sign_d : double.signWeight = 9223372036854775808 := by decide +kernel
theorem least_d : double.leastPlace = -1074 := by decide +kernel

theorem cut_zero (neg : Bool) (n : Nat) : Toward.even.cut neg n 0 = n := by
  unfold Toward.cut
  simp [Nat.mod_one]
theorem cut_exact (neg : Bool) (n d : Nat) (hn : n ≠ 0) (hd : d ≤ (n * 2 ^ d).log2 + 2) : Toward.even.cut neg (n * 2 ^ d) d = n := by
  unfold Toward.cut
  have hp : 0 < 2 ^ d := Nat.two_pow_pos d
  simp only [Nat.min_eq_left hd, Nat.one_shiftLeft, Nat.mul_div_cancel _ hp, Nat.mul_mod_left]
  simp
theorem log2_mul (c k : Nat) (h : c ≠ 0) : (c * 2 ^ k).log2 = c.log2 + k := by
  rw [Nat.log2_eq_iff (by have := Nat.two_pow_pos k; exact Nat.mul_ne_zero h (by omega))]
  have := Nat.log2_self_le h
  have h2 := @Nat.lt_log2_self c
  constructor
  · rw [Nat.pow_add]; exact Nat.mul_le_mul_right _ this
  · rw [show c.log2 + k + 1 = (c.log2 + 1) + k by omega, Nat.pow_add]
    exact Nat.mul_lt_mul_of_pos_right h2 (Nat.two_pow_pos k)
theorem log2_le {c : Nat} (h : c < 9007199254740992) : c.log2 ≤ 52 := by
  by_cases h0 : c = 0
  · subst h0; decide
  · have h1 := Nat.log2_self_le h0
    by_cases h2 : c.log2 ≤ 52
    · exact h2
    · have h3 : 2 ^ 53 ≤ 2 ^ c.log2 := Nat.pow_le_pow_right (by omega) (by omega)
      omega
/-- Whatever the place at which a whole number is told, the word is the same. -/
theorem nearest_form (neg : Bool) (c k : Nat) (h0 : c ≠ 0) (h : c < 9007199254740992) : double.nearest neg (c * 2 ^ k) (-(k : Int)) = double.word neg ((c.log2 + 1022) * 4503599627370496 + c * 2 ^ (52 - c.log2)) := by
  have hl := log2_le h
  have hm : c * 2 ^ k ≠ 0 := Nat.mul_ne_zero h0 (by have := Nat.two_pow_pos k; omega)
  have hlog := log2_mul c k h0
  unfold Format.nearest
  rw [if_neg hm, hlog, least_d, binade_d, inf_d]
  have e1 : max (-(k : Int) + ((c.log2 + k : Nat) : Int) - (double.fractionBits : Int)) (-1074) = (c.log2 : Int) - 52 := by
    have : (double.fractionBits : Int) = 52 := rfl
    omega
  rw [e1]
  dsimp only
  have e2 : ((c.log2 : Int) - 52 - -1074).toNat = c.log2 + 1022 := by omega
  rw [e2]
  have hk : c * 2 ^ (52 - c.log2) ≤ 9007199254740991 := by
    have h2 := @Nat.lt_log2_self c
    have h3 : c * 2 ^ (52 - c.log2) < 2 ^ (c.log2 + 1) * 2 ^ (52 - c.log2) := Nat.mul_lt_mul_of_pos_right h2 (Nat.two_pow_pos _)
    rw [← Nat.pow_add, show c.log2 + 1 + (52 - c.log2) = 53 by omega] at h3
    omega
  have e3 : Toward.even.cut neg ((c * 2 ^ k) <<< (-(k : Int) - ((c.log2 : Int) - 52)).toNat) ((c.log2 : Int) - 52 - -(k : Int)).toNat = c * 2 ^ (52 - c.log2) := by
    by_cases hkl : k ≤ 52 - c.log2
    · rw [show ((c.log2 : Int) - 52 - -(k : Int)).toNat = 0 by omega, cut_zero, show (-(k : Int) - ((c.log2 : Int) - 52)).toNat = 52 - c.log2 - k by omega, Nat.shiftLeft_eq, Nat.mul_assoc, ← Nat.pow_add, show k + (52 - c.log2 - k) = 52 - c.log2 by omega]
    · rw [show (-(k : Int) - ((c.log2 : Int) - 52)).toNat = 0 by omega, Nat.shiftLeft_eq, Nat.pow_zero, Nat.mul_one]
      obtain ⟨d, hd⟩ : ∃ d, k = (52 - c.log2) + d := ⟨k - (52 - c.log2), by omega⟩
      rw [show ((c.log2 : Int) - 52 - -(k : Int)).toNat = d by omega, show c * 2 ^ k = c * 2 ^ (52 - c.log2) * 2 ^ d by rw [hd, Nat.pow_add, Nat.mul_assoc]]
      refine cut_exact neg _ d (Nat.mul_ne_zero h0 (by have := Nat.two_pow_pos (52 - c.log2); omega)) ?_
      rw [Nat.mul_assoc, ← Nat.pow_add, log2_mul c _ h0]
      omega
  rw [e3]
  congr 1
  clear e1 e2 e3 hlog hm
  generalize c * 2 ^ (52 - c.log2) = m at *
  generalize c.log2 = L at *
  exact Nat.min_eq_left (by omega)
theorem write_fb (neg : Bool) (c k : Nat) (h : c < 9007199254740992) : double.write (.number neg (c * 2 ^ k) (-(k : Int))) = fb neg c := by
  unfold fb
  show double.nearest neg (c * 2 ^ k) (-(k : Int)) = double.nearest neg c 0
  by_cases h0 : c = 0
  · subst h0
    unfold Format.nearest
    simp
  · rw [nearest_form neg c k h0 h]
    have := nearest_form neg c 0 h0 h
    simp only [Nat.pow_zero, Nat.mul_one, Int.natCast_zero, Int.neg_zero] at this
    exact this.symm
theorem read_word (neg : Bool) (r : Nat) (h : r < 9223372036854775808) : (double.word neg r / double.signWeight % 2 == 1) = neg ∧ double.word neg r % double.signWeight = r := by
  rw [sign_d]
  unfold Format.word
  rw [sign_d]
  cases neg
  · simp only [if_false, Bool.false_eq_true]
    refine ⟨?_, by omega⟩
    rw [show r / 9223372036854775808 = 0 by omega]
    rfl
  · simp only [if_true]
    refine ⟨?_, by omega⟩
    rw [show (9223372036854775808 + r) / 9223372036854775808 = 1 by omega]
    rfl
/-- What the word of a whole number reads. -/
theorem read_fb (neg : Bool) (c : Nat) (h : c < 9007199254740992) : ∃ k : Nat, double.read (fb neg c) = .number neg (c * 2 ^ k) (-(k : Int)) := by
  by_cases h0 : c = 0
  · subst h0
    obtain ⟨k, hk⟩ : ∃ k : Nat, k = 1074 := ⟨_, rfl⟩
    refine ⟨k, ?_⟩
    have e : fb neg 0 = double.word neg 0 := by unfold fb Format.nearest; simp
    obtain ⟨r1, r2⟩ := read_word neg 0 (by omega)
    rw [e]
    unfold Format.read
    dsimp only
    rw [r1, r2, binade_d, least_d, if_pos (by omega), Nat.zero_mul, hk]
    rfl
  · have hl := log2_le h
    have e : fb neg c = double.word neg ((c.log2 + 1022) * 4503599627370496 + c * 2 ^ (52 - c.log2)) := by
      have := nearest_form neg c 0 h0 h
      simp only [Nat.pow_zero, Nat.mul_one, Int.natCast_zero, Int.neg_zero] at this
      exact this
    have g1 : 4503599627370496 ≤ c * 2 ^ (52 - c.log2) := by
      have h1 := Nat.log2_self_le h0
      have h3 := Nat.mul_le_mul_right (2 ^ (52 - c.log2)) h1
      rw [← Nat.pow_add, show c.log2 + (52 - c.log2) = 52 by omega] at h3
      omega
    have g2 : c * 2 ^ (52 - c.log2) < 9007199254740992 := by
      have h2 := @Nat.lt_log2_self c
      have h3 : c * 2 ^ (52 - c.log2) < 2 ^ (c.log2 + 1) * 2 ^ (52 - c.log2) := Nat.mul_lt_mul_of_pos_right h2 (Nat.two_pow_pos _)
      rw [← Nat.pow_add, show c.log2 + 1 + (52 - c.log2) = 53 by omega] at h3
      omega
    refine ⟨52 - c.log2, ?_⟩
    generalize c * 2 ^ (52 - c.log2) = m at *
    generalize c.log2 = L at *
    obtain ⟨r1, r2⟩ := read_word neg ((L + 1022) * 4503599627370496 + m) (by omega)
    rw [e]
    unfold Format.read
    dsimp only
    rw [r1, r2, binade_d, inf_d, least_d, if_neg (by omega), if_pos (by omega)]
    have e1 : ((L + 1022) * 4503599627370496 + m) % 4503599627370496 = m - 4503599627370496 := by omega
    have e2 : ((L + 1022) * 4503599627370496 + m) / 4503599627370496 = L + 1023 := by omega
    have a1 : 4503599627370496 + (m - 4503599627370496) = m := by omega
    have a2 : -1074 + ((L + 1023 - 1 : Nat) : Int) = -((52 - L : Nat) : Int) := by omega
    rw [e1, e2, a1, a2]

/-- The whole number of a sign and a size. -/
def sg (s : Bool) (m : Nat) : Int := if s then -(m : Int) else m
theorem signed_up (s : Bool) (m i n : Nat) : signed s (m * 2 ^ i) n = sg s m * 2 ^ (i + n) := by
  unfold signed sg
  rw [Nat.shiftLeft_eq, Nat.mul_assoc, ← Nat.pow_add]
  cases s <;> simp [Int.natCast_mul, Int.natCast_pow, Int.neg_mul]
theorem sum_fb (s t : Bool) (m n : Nat) (i j : Nat) : (Datum.number s (m * 2 ^ i) (-(i : Int))).sum (.number t (n * 2 ^ j) (-(j : Int))) =
    some (.number (if sg s m + sg t n = 0 then s && t else sg s m + sg t n < 0) ((sg s m + sg t n).natAbs * 2 ^ (max i j)) (-((max i j : Nat) : Int))) := by
  unfold Datum.sum
  dsimp only
  have e0 : min (-(i : Int)) (-(j : Int)) = -((max i j : Nat) : Int) := by omega
  have e1 : (-(i : Int) - -((max i j : Nat) : Int)).toNat = max i j - i := by omega
  have e2 : (-(j : Int) - -((max i j : Nat) : Int)).toNat = max i j - j := by omega
  rw [e0, e1, e2, signed_up, signed_up, show i + (max i j - i) = max i j by omega, show j + (max i j - j) = max i j by omega, ← Int.add_mul]
  generalize max i j = k
  have hp : (0 : Int) < 2 ^ k := Int.pow_pos (by omega)
  have z : (sg s m + sg t n) * 2 ^ k = 0 ↔ sg s m + sg t n = 0 := by
    constructor
    · intro h
      rcases Int.mul_eq_zero.1 h with h | h
      · exact h
      · omega
    · intro h; rw [h, Int.zero_mul]
  have l : (sg s m + sg t n) * 2 ^ k < 0 ↔ sg s m + sg t n < 0 := by
    constructor
    · intro h
      by_cases h' : sg s m + sg t n < 0
      · exact h'
      · have := Int.mul_nonneg (show 0 ≤ sg s m + sg t n by omega) (show 0 ≤ (2 : Int) ^ k by omega)
        omega
    · intro h
      have := Int.mul_pos (show 0 < -(sg s m + sg t n) by omega) hp
      rw [Int.neg_mul] at this
      omega
  have a : ((sg s m + sg t n) * 2 ^ k).natAbs = (sg s m + sg t n).natAbs * 2 ^ k := by
    rw [Int.natAbs_mul, Int.natAbs_pow]
    rfl
  simp only [z, l, a]
theorem add_fb (s t : Bool) (m n : Nat) (hm : m < 9007199254740992) (hn : n < 9007199254740992) (h : (sg s m + sg t n).natAbs < 9007199254740992) :
    double.add (fb s m) (fb t n) = some (fb (if sg s m + sg t n = 0 then s && t else sg s m + sg t n < 0) (sg s m + sg t n).natAbs) := by
  obtain ⟨i, e1⟩ := read_fb s m hm
  obtain ⟨j, e2⟩ := read_fb t n hn
  unfold Format.add
  rw [e1, e2, sum_fb, Option.map_some, write_fb _ _ _ h]
theorem sub_fb (s t : Bool) (m n : Nat) (hm : m < 9007199254740992) (hn : n < 9007199254740992) (h : (sg s m - sg t n).natAbs < 9007199254740992) :
    double.sub (fb s m) (fb t n) = some (fb (if sg s m - sg t n = 0 then s && !t else sg s m - sg t n < 0) (sg s m - sg t n).natAbs) := by
  obtain ⟨i, e1⟩ := read_fb s m hm
  obtain ⟨j, e2⟩ := read_fb t n hn
  have e : sg s m - sg t n = sg s m + sg (!t) n := by cases t <;> simp [sg] <;> omega
  unfold Format.sub
  rw [e1, e2]
  show ((Datum.number s (m * 2 ^ i) (-(i : Int))).sum (.number (!t) (n * 2 ^ j) (-(j : Int)))).map double.write = _
  rw [sum_fb, Option.map_some, e]
  rw [e] at h
  rw [write_fb _ _ _ h]
theorem mul_fb (s t : Bool) (m n : Nat) (hm : m < 9007199254740992) (hn : n < 9007199254740992) (h : m * n < 9007199254740992) : double.mul (fb s m) (fb t n) = some (fb (s ^^ t) (m * n)) := by
  obtain ⟨i, e1⟩ := read_fb s m hm
  obtain ⟨j, e2⟩ := read_fb t n hn
  unfold Format.mul
  rw [e1, e2]
  show some (double.write (.number (s ^^ t) (m * 2 ^ i * (n * 2 ^ j)) (-(i : Int) + -(j : Int)))) = _
  have e3 : m * 2 ^ i * (n * 2 ^ j) = m * n * 2 ^ (i + j) := by rw [Nat.pow_add]; grind
  rw [e3, show -(i : Int) + -(j : Int) = -((i + j : Nat) : Int) by omega, write_fb _ _ _ h]
theorem order_fb (s t : Bool) (m n : Nat) (hm : m < 9007199254740992) (hn : n < 9007199254740992) : double.order (fb s m) (fb t n) = some (compare (sg s m) (sg t n)) := by
  obtain ⟨i, e1⟩ := read_fb s m hm
  obtain ⟨j, e2⟩ := read_fb t n hn
  unfold Format.order
  rw [e1, e2]
  unfold Datum.order
  dsimp only
  have e0 : min (-(i : Int)) (-(j : Int)) = -((max i j : Nat) : Int) := by omega
  have e1 : (-(i : Int) - -((max i j : Nat) : Int)).toNat = max i j - i := by omega
  have e2 : (-(j : Int) - -((max i j : Nat) : Int)).toNat = max i j - j := by omega
  rw [e0, e1, e2, signed_up, signed_up, show i + (max i j - i) = max i j by omega, show j + (max i j - j) = max i j by omega]
  generalize max i j = k
  have hp : (0 : Int) < 2 ^ k := Int.pow_pos (by omega)
  congr 1
  rw [Int.compare_eq_ite_lt, Int.compare_eq_ite_lt]
  have l : ∀ a b : Int, a * 2 ^ k < b * 2 ^ k ↔ a < b := fun a b => ⟨fun h => Int.lt_of_mul_lt_mul_right h (by omega), fun h => Int.mul_lt_mul_of_pos_right h hp⟩
  simp only [l]

/-! Whole numbers whose 0 has no sign. -/
def fw (n : Int) : Nat := fb (n < 0) n.natAbs
theorem sg_self (n : Int) : sg (n < 0) n.natAbs = n := by
  unfold sg
  by_cases h : n < 0
  · simp [h]; omega
  · simp [h]; omega
theorem sg_natAbs (s : Bool) (m : Nat) : (sg s m).natAbs = m := by cases s <;> simp [sg]
/-- A word of a whole number that is not 0 has its sign; of 0 either. -/
theorem fb_fw (s : Bool) (m : Nat) (h : m = 0 → s = false) : fb s m = fw (sg s m) := by
  unfold fw
  rw [sg_natAbs]
  congr 1
  cases s
  · simp [sg]
  · have : m ≠ 0 := fun e => by have := h e; cases this
    simp [sg]; omega
theorem fw_add {a b : Int} (ha : -9007199254740991 ≤ a ∧ a ≤ 9007199254740991) (hb : -9007199254740991 ≤ b ∧ b ≤ 9007199254740991) (h : -9007199254740991 ≤ a + b ∧ a + b ≤ 9007199254740991) : double.add (fw a) (fw b) = some (fw (a + b)) := by
  have e := add_fb (a < 0) (b < 0) a.natAbs b.natAbs (by omega) (by omega) (by rw [sg_self, sg_self]; omega)
  rw [sg_self, sg_self] at e
  unfold fw
  rw [e]
  congr 2
  by_cases h0 : a + b = 0
  · rw [if_pos h0, h0]
    by_cases h1 : a < 0
    · have : ¬ b < 0 := by omega
      simp [this]
    · simp [h1]
  · rw [if_neg h0]
theorem fw_sub {a b : Int} (ha : -9007199254740991 ≤ a ∧ a ≤ 9007199254740991) (hb : -9007199254740991 ≤ b ∧ b ≤ 9007199254740991) (h : -9007199254740991 ≤ a - b ∧ a - b ≤ 9007199254740991) : double.sub (fw a) (fw b) = some (fw (a - b)) := by
  have e := sub_fb (a < 0) (b < 0) a.natAbs b.natAbs (by omega) (by omega) (by rw [sg_self, sg_self]; omega)
  rw [sg_self, sg_self] at e
  unfold fw
  rw [e]
  congr 2
  by_cases h0 : a - b = 0
  · obtain rfl : a = b := by omega
    rw [if_pos h0, h0]
    by_cases h1 : a < 0 <;> simp [h1]
  · rw [if_neg h0]
theorem fw_mul {a b : Int} (ha : -9007199254740991 ≤ a ∧ a ≤ 9007199254740991) (hb : -9007199254740991 ≤ b ∧ b ≤ 9007199254740991) (h : -9007199254740991 ≤ a * b ∧ a * b ≤ 9007199254740991) : double.mul (fw a) (fw b) = some (fb ((decide (a < 0)) ^^ (decide (b < 0))) (a * b).natAbs) := by
  have e := mul_fb (a < 0) (b < 0) a.natAbs b.natAbs (by omega) (by omega) (by rw [← Int.natAbs_mul]; omega)
  unfold fw
  rw [e, Int.natAbs_mul]
theorem fw_order {a b : Int} (ha : -9007199254740991 ≤ a ∧ a ≤ 9007199254740991) (hb : -9007199254740991 ≤ b ∧ b ≤ 9007199254740991) : double.order (fw a) (fw b) = some (compare a b) := by
  have e := order_fb (a < 0) (b < 0) a.natAbs b.natAbs (by omega) (by omega)
  rw [sg_self, sg_self] at e
  exact e
theorem fw_eq {a b : Int} (ha : -9007199254740991 ≤ a ∧ a ≤ 9007199254740991) (hb : -9007199254740991 ≤ b ∧ b ≤ 9007199254740991) : (double.order (fw a) (fw b) == some .eq) = decide (a = b) := by
  rw [fw_order ha hb]
  by_cases h : a = b
  · subst h; simp
  · simp [h]
/-- Back to a whole number. -/
theorem fb_toInt (s : Bool) (m : Nat) (h : m < 9007199254740992) (way : Toward) : (double.read (fb s m)).toInt way = some (sg s m) := by
  obtain ⟨k, e⟩ := read_fb s m h
  rw [e]
  unfold Datum.toInt Datum.integral
  dsimp only
  have e1 : ((-(k : Int)).toNat) = 0 := by omega
  have e2 : (-(-(k : Int))).toNat = k := by omega
  rw [e1, e2, Nat.shiftLeft_eq, Nat.pow_zero, Nat.mul_one]
  have c : way.cut s (m * 2 ^ k) k = m := by
    by_cases h0 : m = 0
    · subst h0
      unfold Toward.cut
      rw [Nat.zero_mul]
      cases way <;> simp [Nat.one_shiftLeft]
    · have hp : 0 < 2 ^ k := Nat.two_pow_pos k
      unfold Toward.cut
      simp only [Nat.min_eq_left (show k ≤ (m * 2 ^ k).log2 + 2 by rw [log2_mul m k h0]; omega), Nat.one_shiftLeft, Nat.mul_div_cancel _ hp, Nat.mul_mod_left]
      cases way <;> simp
  rw [c]
  have := signed_up s m 0 0
  simp only [Nat.pow_zero, Nat.mul_one, Nat.add_zero, Int.pow_zero, Int.mul_one] at this
  rw [this]
theorem fw_toInt {n : Int} (h : -9007199254740991 ≤ n ∧ n ≤ 9007199254740991) (way : Toward) : (double.read (fw n)).toInt way = some n := by
  have := fb_toInt (n < 0) n.natAbs (by omega) way
  rw [sg_self] at this
  exact this
theorem fw_val {n : Int} (h : -9007199254740991 ≤ n ∧ n ≤ 9007199254740991) : floatToIntVal .f64 (fw n) .i64 = some n := by
  unfold floatToIntVal
  show (match (double.read (fw n)).toInt .zero with | some n => _ | none => none) = _
  rw [fw_toInt h]
  exact if_pos (by simp [IntKind.min, IntKind.max, IntKind.signed, IntKind.bits]; omega)
theorem fw_ofInt (n : Int) : FloatKind.f64.nearest n = fw n := rfl
end Go.Proofs.YtolfobgpgmfnpaaDoor

