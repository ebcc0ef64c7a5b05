/-
  Words of whole numbers with a 0 of either sign; what a number is that is its own whole part; operations on complex numbers of such parts, as the walk meets them.
-/
import Derived.Test.YtolfobgpgmfnpaaDoorFloat
namespace Go.Proofs.YtolfobgpgmfnpaaDoor
set_option linter.unusedVariables false
open Ieee

/-- The sign of a whole number, of a 0 as told. -/
def zn (n : Int) (z : Bool) : Bool := if n = 0 then z else decide (n < 0)
def ww (n : Int) (z : Bool) : Nat := fb (zn n z) n.natAbs
theorem ww_fw (n : Int) : ww n false = fw n := by
  unfold ww fw zn
  by_cases h : n = 0
  · subst h; rfl
  · rw [if_neg h]
theorem sg_zn (n : Int) (z : Bool) : sg (zn n z) n.natAbs = n := by
  unfold zn sg
  by_cases h : n = 0
  · subst h; cases z <;> rfl
  · rw [if_neg h]
    by_cases h2 : n < 0 <;> simp [h2] <;> omega
theorem sg_ww (s : Bool) (c : Nat) : fb s c = ww (sg s c) s := by
  unfold ww
  rw [sg_natAbs]
  congr 1
  unfold zn sg
  cases s <;> simp <;> omega
theorem add_ww {a b : Int} (s t : Bool) (ha : -9007199254740991 ≤ a ∧ a ≤ 9007199254740991) (hb : -9007199254740991 ≤ b ∧ b ≤ 9007199254740991) (h : -9007199254740991 ≤ a + b ∧ a + b ≤ 9007199254740991) : double.add (ww a s) (ww b t) = some (ww (a + b) (zn a s && zn b t)) := by
  have e := add_fb (zn a s) (zn b t) a.natAbs b.natAbs (by omega) (by omega) (by rw [sg_zn, sg_zn]; omega)
  rw [sg_zn, sg_zn] at e
  exact e
theorem sub_ww {a b : Int} (s t : Bool) (ha : -9007199254740991 ≤ a ∧ a ≤ 9007199254740991) (hb : -9007199254740991 ≤ b ∧ b ≤ 9007199254740991) (h : -9007199254740991 ≤ a - b ∧ a - b ≤ 9007199254740991) : double.sub (ww a s) (ww b t) = some (ww (a - b) (zn a s && !zn b t)) := by
  have e := sub_fb (zn a s) (zn b t) a.natAbs b.natAbs (by omega) (by omega) (by rw [sg_zn, sg_zn]; omega)
  rw [sg_zn, sg_zn] at e
  exact e
theorem zn_mul (a b : Int) (s t : Bool) : zn (a * b) (zn a s ^^ zn b t) = (zn a s ^^ zn b t) := by
  unfold zn
  by_cases h0 : a * b = 0
  · rw [if_pos h0]
  · rw [if_neg h0]
    have ha : a ≠ 0 := fun h => h0 (by rw [h, Int.zero_mul])
    have hb : b ≠ 0 := fun h => h0 (by rw [h, Int.mul_zero])
    rw [if_neg ha, if_neg hb]
    by_cases h1 : a < 0 <;> by_cases h2 : b < 0
    · have := Int.mul_pos_of_neg_of_neg h1 h2
      simp [h1, h2]; omega
    · have := Int.mul_neg_of_neg_of_pos h1 (show 0 < b by omega)
      simp [h1, h2]; omega
    · have := Int.mul_neg_of_pos_of_neg (show 0 < a by omega) h2
      simp [h1, h2]; omega
    · have := Int.mul_pos (show 0 < a by omega) (show 0 < b by omega)
      simp [h1, h2]; omega
theorem mul_ww {a b : Int} (s t : Bool) (ha : -9007199254740991 ≤ a ∧ a ≤ 9007199254740991) (hb : -9007199254740991 ≤ b ∧ b ≤ 9007199254740991) (h : -9007199254740991 ≤ a * b ∧ a * b ≤ 9007199254740991) : double.mul (ww a s) (ww b t) = some (ww (a * b) (zn a s ^^ zn b t)) := by
  have e := mul_fb (zn a s) (zn b t) a.natAbs b.natAbs (by omega) (by omega) (by rw [← Int.natAbs_mul]; omega)
  rw [← Int.natAbs_mul] at e
  have g : ww (a * b) (zn a s ^^ zn b t) = fb (zn a s ^^ zn b t) (a * b).natAbs := by unfold ww; rw [zn_mul]
  rw [g]
  exact e
theorem order_ww {a b : Int} (s t : Bool) (ha : -9007199254740991 ≤ a ∧ a ≤ 9007199254740991) (hb : -9007199254740991 ≤ b ∧ b ≤ 9007199254740991) : double.order (ww a s) (ww b t) = some (compare a b) := by
  have e := order_fb (zn a s) (zn b t) a.natAbs b.natAbs (by omega) (by omega)
  rw [sg_zn, sg_zn] at e
  exact e
theorem int_ww {n : Int} (s : Bool) (h : -9007199254740991 ≤ n ∧ n ≤ 9007199254740991) (way : Toward) : (double.read (ww n s)).toInt way = some n := by
  have := fb_toInt (zn n s) n.natAbs (by omega) way
  rw [sg_zn] at this
  exact this
theorem val_ww {n : Int} (s : Bool) (h : -9007199254740991 ≤ n ∧ n ≤ 9007199254740991) : floatToIntVal .f64 (ww n s) .i64 = some n := by
  unfold floatToIntVal
  show (match (double.read (ww n s)).toInt .zero with | some n => _ | none => none) = _
  rw [int_ww s h]
  exact if_pos (by simp [IntKind.min, IntKind.max, IntKind.signed, IntKind.bits]; omega)
theorem ofInt_ww (n : Int) : floatOfInt .f64 n = ww n false := by rw [ww_fw]; rfl
theorem xor_sign (r : Nat) (h : r < 9223372036854775808) : r ^^^ 9223372036854775808 = 9223372036854775808 + r ∧ (9223372036854775808 + r) ^^^ 9223372036854775808 = r := by
  have e := Nat.two_pow_add_eq_or_of_lt (i := 63) (b := r) h 1
  rw [Nat.mul_one] at e
  have e2 : (9223372036854775808 : Nat) = 2 ^ 63 := rfl
  rw [e2, e]
  have hb : ∀ i, r.testBit i = true → i < 63 := fun i hi => by
    by_cases h1 : i < 63
    · exact h1
    · have h2 : 2 ^ 63 ≤ 2 ^ i := Nat.pow_le_pow_right (by omega) (by omega)
      have : r < 2 ^ i := by omega
      rw [Nat.testBit_lt_two_pow this] at hi
      cases hi
  constructor
  · apply Nat.eq_of_testBit_eq
    intro i
    simp only [Nat.testBit_xor, Nat.testBit_or, Nat.testBit_two_pow]
    by_cases h1 : 63 = i
    · subst h1
      cases h2 : r.testBit 63
      · rfl
      · have := hb _ h2; omega
    · simp [h1]
  · apply Nat.eq_of_testBit_eq
    intro i
    simp only [Nat.testBit_xor, Nat.testBit_or, Nat.testBit_two_pow]
    by_cases h1 : 63 = i
    · subst h1
      cases h2 : r.testBit 63
      · rfl
      · have := hb _ h2; omega
    · simp [h1]
theorem neg_word (s : Bool) (r : Nat) (h : r < 9223372036854775808) : Op.negFloat .f64 (double.word s r) = double.word (!s) r := by
  show double.word s r ^^^ 9223372036854775808 = _
  obtain ⟨h1, h2⟩ := xor_sign r h
  unfold Format.word
  rw [sign_d]
  cases s
  · exact h1
  · exact h2
theorem neg_fb (s : Bool) (c : Nat) (h : c < 9007199254740992) : Op.negFloat .f64 (fb s c) = fb (!s) c := by
  by_cases h0 : c = 0
  · subst h0
    have e : ∀ neg, fb neg 0 = double.word neg 0 := fun neg => by unfold fb Format.nearest; simp
    rw [e, e]
    exact neg_word s 0 (by omega)
  · have e : ∀ neg, fb neg c = double.word neg ((c.log2 + 1022) * 4503599627370496 + c * 2 ^ (52 - c.log2)) := fun neg => by
      have := nearest_form neg c 0 h0 h
      simp only [Nat.pow_zero, Nat.mul_one, Int.natCast_zero, Int.neg_zero] at this
      exact this
    rw [e, e]
    refine neg_word s _ ?_
    have hl := log2_le h
    have h2 := @Nat.lt_log2_self c
    have h3 : c * 2 ^ (52 - c.log2) < 2 ^ (c.log2 + 1) * 2 ^ (52 - c.log2) := Nat.mul_lt_mul_of_pos_right h2 (Nat.two_pow_pos _)
    rw [← Nat.pow_add, show c.log2 + 1 + (52 - c.log2) = 53 by omega] at h3
    generalize c * 2 ^ (52 - c.log2) = m at *
    omega
theorem neg_ww {n : Int} (s : Bool) (h : -9007199254740991 ≤ n ∧ n ≤ 9007199254740991) : Op.negFloat .f64 (ww n s) = ww (-n) (!s) := by
  unfold ww
  rw [neg_fb _ _ (by omega), Int.natAbs_neg]
  congr 1
  unfold zn
  by_cases h0 : n = 0
  · subst h0; simp
  · have h1 : ¬ -n = 0 := by omega
    rw [if_neg h0, if_neg h1]
    by_cases h2 : n < 0
    · have : ¬ -n < 0 := by omega
      simp [h2]; omega
    · simp [h2]; omega

/-! Words of any kind. -/
theorem swap_order (d e : Datum) : d.order e = (e.order d).map Ordering.swap := by
  cases d <;> cases e <;> simp [Datum.order]
  · rw [Int.min_comm]
    exact (Std.OrientedCmp.eq_swap (cmp := (compare : Int → Int → Ordering)))
  · rename_i s _ _ t; cases t <;> rfl
  · rename_i s _ _ t; cases s <;> rfl
  · rename_i s t; cases s <;> cases t <;> rfl
theorem order_swap (x y : Nat) : double.order x y = (double.order y x).map Ordering.swap := swap_order _ _
theorem write_read (x : Nat) (hx : x < 18446744073709551616) (s : Bool) (m : Nat) (e : Int) (hr : double.read x = .number s m e) : double.write (double.read x) = x ∧ (m = 0 ∨ ∃ c : Nat, e = -1074 + (c : Int) ∧ (c ≠ 0 → 4503599627370496 ≤ m) ∧ m < 9007199254740992) := by
  have hw : ∀ r, x % 9223372036854775808 = r → double.word (x / 9223372036854775808 % 2 == 1) r = x := fun r hr => by
    unfold Format.word
    rw [sign_d]
    have : x / 9223372036854775808 = 0 ∨ x / 9223372036854775808 = 1 := by omega
    rcases this with h | h
    · rw [h, if_neg (by decide)]; omega
    · rw [h, if_pos (by decide)]; omega
  have hr0 := hr
  unfold Format.read at hr
  dsimp only at hr
  rw [sign_d, binade_d, inf_d, least_d] at hr
  generalize hq : x % 9223372036854775808 = r at *
  generalize hs : (x / 9223372036854775808 % 2 == 1) = b at *
  have hw := hw r rfl
  by_cases h1 : r < 4503599627370496
  · rw [if_pos h1] at hr
    rw [hr0]
    rw [Datum.number.injEq] at hr
    obtain ⟨rfl, rfl, rfl⟩ := hr
    refine ⟨?_, .inr ⟨0, rfl, fun h => absurd rfl h, by omega⟩⟩
    show double.nearest b r (-1074) = x
    unfold Format.nearest
    by_cases h0 : r = 0
    · rw [if_pos h0]; subst h0; exact hw
    · rw [if_neg h0, least_d, binade_d, inf_d]
      dsimp only
      have hl : r.log2 ≤ 52 := log2_le (by omega)
      have e1 : max (-1074 + ((r.log2 : Nat) : Int) - (double.fractionBits : Int)) (-1074) = -1074 := by
        have : (double.fractionBits : Int) = 52 := rfl
        omega
      rw [e1]
      have e2 : ((-1074 : Int) - -1074).toNat = 0 := rfl
      rw [e2, cut_zero, Nat.shiftLeft_zero, Nat.zero_mul, Nat.zero_add, Nat.min_eq_left (by omega)]
      exact hw
  · rw [if_neg h1] at hr
    by_cases h2 : r < 9218868437227405312
    · rw [if_pos h2] at hr
      rw [hr0]
      have hm : 4503599627370496 + r % 4503599627370496 < 9007199254740992 := by omega
      have hlog : (4503599627370496 + r % 4503599627370496).log2 = 52 := by
        rw [Nat.log2_eq_iff (by omega)]
        omega
      have hb : r = (r / 4503599627370496) * 4503599627370496 + r % 4503599627370496 := by omega
      have hb1 : 1 ≤ r / 4503599627370496 := by omega
      rw [Datum.number.injEq] at hr
      obtain ⟨rfl, rfl, rfl⟩ := hr
      refine ⟨?_, .inr ⟨r / 4503599627370496 - 1, rfl, fun _ => by omega, hm⟩⟩
      show double.nearest b _ _ = x
      unfold Format.nearest
      rw [if_neg (by omega), hlog, least_d, binade_d, inf_d]
      dsimp only
      have e1 : max (-1074 + ((r / 4503599627370496 - 1 : Nat) : Int) + ((52 : Nat) : Int) - (double.fractionBits : Int)) (-1074) = -1074 + ((r / 4503599627370496 - 1 : Nat) : Int) := by
        have : (double.fractionBits : Int) = 52 := rfl
        omega
      rw [e1, Int.sub_self]
      have e2 : ((-1074 : Int) + ((r / 4503599627370496 - 1 : Nat) : Int) - -1074).toNat = r / 4503599627370496 - 1 := by omega
      rw [e2, show Int.toNat 0 = 0 from rfl, cut_zero, Nat.shiftLeft_zero, Nat.min_eq_left (by omega), show (r / 4503599627370496 - 1) * 4503599627370496 + (4503599627370496 + r % 4503599627370496) = r by omega]
      exact hw
    · rw [if_neg h2] at hr
      by_cases h3 : r = 9218868437227405312
      · rw [if_pos h3] at hr; cases hr
      · rw [if_neg h3] at hr; cases hr

/-- Within the bounds, by the comparisons that are made. -/
def inLo (x : Nat) : Bool := double.order 13920626448202203136 x == some .lt || double.order 13920626448202203136 x == some .eq
def inHi (x : Nat) : Bool := double.order x 4697254411347427328 == some .lt || double.order x 4697254411347427328 == some .eq
/-- Without what is behind the point. -/
def truncw (x : Nat) : Nat := double.write ((double.read x).integral .zero)
def isT (x : Nat) : Bool := double.order x (truncw x) == some .eq
def wp (x : Nat) : Bool := inLo x && (inHi x && isT x)
theorem lit_lo : 13920626448202203136 = ww (-1048576) false := by decide +kernel
theorem lit_hi : 4697254411347427328 = ww 1048576 false := by decide +kernel
theorem lit_one : 4607182418800017408 = ww 1 false := by decide +kernel
theorem lit_zero : 0 = ww 0 false := by decide +kernel
theorem inLo_ge (x : Nat) : (double.order x 13920626448202203136 == some .gt || double.order x 13920626448202203136 == some .eq) = inLo x := by
  unfold inLo
  rw [order_swap x]
  cases double.order 13920626448202203136 x with
  | none => rfl
  | some o => cases o <;> rfl
/-- How a number whose last place is k below the point stands to a whole one. -/
theorem order_k {x : Nat} {s : Bool} {m k : Nat} (hr : double.read x = .number s m (-(k : Int))) (t : Bool) (c : Nat) (hc : c < 9007199254740992) : double.order x (fb t c) = some (compare (sg s m) (sg t c * 2 ^ k)) := by
  obtain ⟨j, e2⟩ := read_fb t c hc
  unfold Format.order
  rw [hr, e2]
  unfold Datum.order
  dsimp only
  have e0 : min (-(k : Int)) (-(j : Int)) = -((max k j : Nat) : Int) := by omega
  have e1 : (-(k : Int) - -((max k j : Nat) : Int)).toNat = max k j - k := by omega
  have e2 : (-(j : Int) - -((max k j : Nat) : Int)).toNat = max k j - j := by omega
  have e3 : signed s m (max k j - k) = sg s m * 2 ^ (max k j - k) := by
    have := signed_up s m 0 (max k j - k)
    rw [Nat.pow_zero, Nat.mul_one, Nat.zero_add] at this
    exact this
  rw [e0, e1, e2, signed_up, e3, show j + (max k j - j) = k + (max k j - k) by omega, Int.pow_add, ← Int.mul_assoc]
  generalize max k j - k = d
  have hp : (0 : Int) < 2 ^ d := Int.pow_pos (by omega)
  congr 1
  rw [Int.compare_eq_ite_lt, Int.compare_eq_ite_lt]
  have l : ∀ a b : Int, a * 2 ^ d < b * 2 ^ d ↔ a < b := fun a b => ⟨fun h => Int.lt_of_mul_lt_mul_right h (by omega), fun h => Int.mul_lt_mul_of_pos_right h hp⟩
  simp only [l]
theorem cmp_le {a b : Int} : (some (compare a b) == some Ordering.lt || some (compare a b) == some Ordering.eq) = decide (a ≤ b) := by
  rw [Int.compare_eq_ite_lt]
  by_cases h1 : a < b
  · have : a ≤ b := by omega
    simp [h1, this]
  · by_cases h2 : b < a
    · have : ¬ a ≤ b := by omega
      simp [h1, h2, this]
    · have : a ≤ b := by omega
      simp [h1, h2, this]
theorem cmp_eq {a b : Int} : (some (compare a b) == some Ordering.eq) = decide (a = b) := by
  by_cases h : a = b
  · subst h; simp
  · simp [h]
/-- A number within the bounds: where its last place is. -/
theorem in_read {x : Nat} (hx : x < 18446744073709551616) (h1 : inLo x = true) (h2 : inHi x = true) : ∃ s m, ∃ k : Nat, double.read x = .number s m (-(k : Int)) ∧ m ≤ 1048576 * 2 ^ k := by
  cases hr : double.read x with
  | nan s t =>
    exfalso
    unfold inHi Format.order at h2
    rw [hr] at h2
    cases h2
  | infinity s =>
    exfalso
    have e1 : double.read 4697254411347427328 = .number false 4503599627370496 (-32) := by decide +kernel
    have e2 : double.read 13920626448202203136 = .number true 4503599627370496 (-32) := by decide +kernel
    unfold inHi Format.order at h2
    unfold inLo Format.order at h1
    rw [hr, e1] at h2
    rw [hr, e2] at h1
    cases s
    · cases h2
    · cases h1
  | number s m e =>
    obtain ⟨-, h3⟩ := write_read x hx s m e hr
    have key : ∃ k : Nat, e = -(k : Int) ∨ m = 0 := by
      rcases h3 with h3 | ⟨c, rfl, h4, h5⟩
      · exact ⟨0, .inr h3⟩
      · by_cases hc : c ≤ 1074
        · exact ⟨1074 - c, .inl (by omega)⟩
        · exfalso
          replace h4 := h4 (by omega)
          -- too great
          have e1 : double.read 4697254411347427328 = .number false 4503599627370496 (-32) := by decide +kernel
          have e2 : double.read 13920626448202203136 = .number true 4503599627370496 (-32) := by decide +kernel
          obtain ⟨d, hd⟩ : ∃ d, c = 1074 + d := ⟨c - 1074, by omega⟩
          subst hd
          have g1 : (-1074 + ((1074 + d : Nat) : Int)) = (d : Int) := by omega
          rw [g1] at hr
          have f1 : min ((d : Nat) : Int) (-32) = -32 := by omega
          have f2 : min (-32) ((d : Nat) : Int) = -32 := by omega
          have f3 : ((d : Int) - -32).toNat = d + 32 := by omega
          have f4 : ((-32 : Int) - -32).toNat = 0 := rfl
          have f5 : 4503599627370496 * 1 ≤ m * 2 ^ (d + 32) := Nat.mul_le_mul h4 (Nat.two_pow_pos _)
          have f6 : 2 ^ 32 ≤ 2 ^ (d + 32) := Nat.pow_le_pow_right (by omega) (by omega)
          have f7 : 4503599627370496 * 4294967296 ≤ m * 2 ^ (d + 32) := Nat.mul_le_mul h4 f6
          unfold inHi Format.order at h2
          unfold inLo Format.order at h1
          rw [hr, e1] at h2
          rw [hr, e2] at h1
          unfold Datum.order at h1 h2
          dsimp only at h1 h2
          rw [f1, f3, f4, cmp_le] at h2
          rw [f2, f3, f4, cmp_le] at h1
          have g := of_decide_eq_true h1
          have g' := of_decide_eq_true h2
          unfold signed at g g'
          rw [Nat.shiftLeft_eq, Nat.shiftLeft_eq] at g g'
          generalize m * 2 ^ (d + 32) = q at *
          cases s
          · simp at g g'; omega
          · simp at g g'; omega
    obtain ⟨k, hk⟩ := key
    rcases hk with rfl | rfl
    · refine ⟨s, m, k, rfl, ?_⟩
      have o1 := order_k hr false 1048576 (by omega)
      have o2 := order_k hr true 1048576 (by omega)
      unfold inHi at h2
      unfold inLo at h1
      rw [show (4697254411347427328 : Nat) = fb false 1048576 by decide +kernel, o1, cmp_le] at h2
      rw [order_swap, show (13920626448202203136 : Nat) = fb true 1048576 by decide +kernel, o2] at h1
      have g' := of_decide_eq_true h2
      have g : sg true 1048576 * 2 ^ k ≤ sg s m := by
        by_cases hh : sg true 1048576 * 2 ^ k ≤ sg s m
        · exact hh
        · exfalso
          rw [Int.compare_eq_ite_lt, if_pos (by omega)] at h1
          cases h1
      clear h1 h2 o1 o2 hr h3
      have f : ((1048576 * 2 ^ k : Nat) : Int) = (1048576 : Int) * 2 ^ k := by simp
      unfold sg at g g'
      simp only [if_true, Bool.false_eq_true, if_false] at g g'
      have e : (-((1048576 : Nat) : Int)) * 2 ^ k = -((1048576 : Int) * 2 ^ k) := by rw [Int.neg_mul]; rfl
      rw [e] at g
      have e' : (((1048576 : Nat) : Int)) * 2 ^ k = ((1048576 : Int) * 2 ^ k) := rfl
      rw [e'] at g'
      rw [← f] at g g'
      generalize 1048576 * 2 ^ k = q at *
      cases s
      · simp at g g'; omega
      · simp at g g'; omega
    · rcases h3 with h3 | ⟨c, rfl, h4, h5⟩
      · -- a 0: its place is the least
        have hr0 := hr
        unfold Format.read at hr
        dsimp only at hr
        rw [binade_d, inf_d, least_d] at hr
        generalize x % double.signWeight = r at *
        generalize (x / double.signWeight % 2 == 1) = b at *
        split at hr
        · rw [Datum.number.injEq] at hr
          obtain ⟨e1, e2, e3⟩ := hr
          exact ⟨s, 0, 1074, by rw [← e3]; rfl, by omega⟩
        · split at hr
          · rw [Datum.number.injEq] at hr
            obtain ⟨e1, e2, e3⟩ := hr
            omega
          · split at hr <;> cases hr
      · by_cases hc : c = 0
        · subst hc; exact ⟨s, 0, 1074, by rfl, by omega⟩
        · exact absurd (h4 hc) (by omega)
theorem sg_bd (s : Bool) {c : Nat} (h : c ≤ 1048576) : -1048576 ≤ sg s c ∧ sg s c ≤ 1048576 := by
  unfold sg
  cases s <;> simp <;> omega
theorem cut_trunc (s : Bool) (m k : Nat) : Toward.zero.cut s m k = m / 2 ^ k := by
  unfold Toward.cut
  dsimp only
  rw [Nat.one_shiftLeft]
  show m / 2 ^ min k (m.log2 + 2) + 0 = _
  rw [Nat.add_zero]
  by_cases h : k ≤ m.log2 + 2
  · rw [Nat.min_eq_left h]
  · rw [Nat.min_eq_right (by omega)]
    have h1 := @Nat.lt_log2_self m
    have h2 : 2 ^ (m.log2 + 1) ≤ 2 ^ (m.log2 + 2) := Nat.pow_le_pow_right (by omega) (by omega)
    have h3 : 2 ^ (m.log2 + 1) ≤ 2 ^ k := Nat.pow_le_pow_right (by omega) (by omega)
    rw [Nat.div_eq_of_lt (by omega), Nat.div_eq_of_lt (by omega)]
/-- What a number within the bounds is without what is behind the point. -/
theorem in_facts {x : Nat} (hx : x < 18446744073709551616) (h1 : inLo x = true) (h2 : inHi x = true) :
    ∃ n : Int, -1048576 ≤ n ∧ n ≤ 1048576 ∧ floatToIntVal .f64 x .i64 = some n ∧ (double.order (ww n false) x == some .eq) = isT x ∧ (isT x = true → ∃ z, x = ww n z) := by
  obtain ⟨s, m, k, hr, hm⟩ := in_read hx h1 h2
  have hp : 0 < 2 ^ k := Nat.two_pow_pos k
  have hc : m / 2 ^ k ≤ 1048576 := Nat.div_le_of_le_mul (by rw [Nat.mul_comm]; exact hm)
  have hi : (double.read x).integral .zero = .number s (m / 2 ^ k) 0 := by
    rw [hr]
    unfold Datum.integral
    dsimp only
    rw [show (-(k : Int)).toNat = 0 by omega, show (-(-(k : Int))).toNat = k by omega, Nat.shiftLeft_zero, cut_trunc]
  have ht : truncw x = fb s (m / 2 ^ k) := by unfold truncw; rw [hi]; rfl
  have hT : isT x = decide (sg s m = sg s (m / 2 ^ k) * 2 ^ k) := by
    unfold isT
    rw [ht, order_k hr _ _ (by omega), cmp_eq]
  obtain ⟨hb1, hb2⟩ := sg_bd s hc
  refine ⟨sg s (m / 2 ^ k), hb1, hb2, ?_, ?_, ?_⟩
  · unfold floatToIntVal
    have e : ((FloatKind.f64.decode x).toInt .zero) = some (sg s (m / 2 ^ k)) := by
      show (double.read x).toInt .zero = _
      unfold Datum.toInt
      rw [hi]
      have := signed_up s (m / 2 ^ k) 0 0
      simp only [Nat.pow_zero, Nat.mul_one, Nat.add_zero, Int.pow_zero, Int.mul_one] at this
      show some (signed s (m / 2 ^ k) 0) = _
      rw [this]
    rw [e]
    generalize sg s (m / 2 ^ k) = q at *
    exact if_pos (by simp [IntKind.min, IntKind.max, IntKind.signed, IntKind.bits]; omega)
  · rw [hT, order_swap]
    unfold ww
    rw [order_k hr _ _ (by rw [sg_natAbs]; omega), sg_zn, Int.compare_eq_ite_lt]
    generalize sg s (m / 2 ^ k) * 2 ^ k = p
    generalize sg s m = q
    by_cases a1 : q < p
    · have : ¬ q = p := by omega
      simp [a1, this]
    · by_cases a2 : p < q
      · have : ¬ q = p := by omega
        simp [a1, a2, this]
      · have : q = p := by omega
        simp [this]
  · intro hh
    rw [hT] at hh
    have hh := of_decide_eq_true hh
    refine ⟨s, ?_⟩
    have e1 : m = m / 2 ^ k * 2 ^ k := by
      unfold sg at hh
      have f : ((m / 2 ^ k * 2 ^ k : Nat) : Int) = ((m / 2 ^ k : Nat) : Int) * 2 ^ k := by simp
      cases s
      · simp only [Bool.false_eq_true, if_false] at hh
        rw [← f] at hh
        omega
      · simp only [if_true] at hh
        rw [Int.neg_mul, ← f] at hh
        omega
    have w := (write_read x hx s m _ hr).1
    rw [← w, hr]
    have e2 := write_fb s (m / 2 ^ k) k (by omega)
    rw [← e1] at e2
    rw [e2, sg_ww]
theorem isT_ww {n : Int} (z : Bool) (h : -1048576 ≤ n ∧ n ≤ 1048576) : isT (ww n z) = true := by
  have hb : ∀ way, (double.read (ww n z)).toInt way = some n := int_ww z (by omega)
  unfold isT truncw
  obtain ⟨k, e⟩ := read_fb (zn n z) n.natAbs (by omega)
  have hi : (double.read (ww n z)).integral .zero = .number (zn n z) n.natAbs 0 := by
    show (double.read (fb (zn n z) n.natAbs)).integral .zero = _
    rw [e]
    unfold Datum.integral
    dsimp only
    rw [show (-(k : Int)).toNat = 0 by omega, show (-(-(k : Int))).toNat = k by omega, Nat.shiftLeft_zero, cut_trunc, Nat.mul_div_cancel _ (Nat.two_pow_pos k)]
  rw [hi]
  show (double.order (ww n z) (ww n z) == some .eq) = true
  rw [order_ww _ _ (by omega) (by omega), cmp_eq]
  simp
theorem inLo_ww {n : Int} (z : Bool) (h : -9007199254740991 ≤ n ∧ n ≤ 9007199254740991) : inLo (ww n z) = decide (-1048576 ≤ n) := by
  unfold inLo
  rw [lit_lo, order_ww _ _ (by omega) h, cmp_le]
theorem inHi_ww {n : Int} (z : Bool) (h : -9007199254740991 ≤ n ∧ n ≤ 9007199254740991) : inHi (ww n z) = decide (n ≤ 1048576) := by
  unfold inHi
  rw [lit_hi, order_ww _ _ h (by omega), cmp_le]
theorem wp_ww {n : Int} (z : Bool) (h : -9007199254740991 ≤ n ∧ n ≤ 9007199254740991) : wp (ww n z) = (decide (-1048576 ≤ n) && decide (n ≤ 1048576)) := by
  unfold wp
  rw [inLo_ww z h, inHi_ww z h]
  by_cases h1 : -1048576 ≤ n <;> by_cases h2 : n ≤ 1048576
  · rw [isT_ww z ⟨h1, h2⟩]; simp [h1, h2]
  all_goals simp [h1, h2]
theorem wp_is {x : Nat} (hx : x < 18446744073709551616) (h : wp x = true) : ∃ n z, x = ww n z ∧ -1048576 ≤ n ∧ n ≤ 1048576 := by
  unfold wp at h
  simp only [Bool.and_eq_true] at h
  obtain ⟨h1, h2, h3⟩ := h
  obtain ⟨n, n1, n2, -, -, hz⟩ := in_facts hx h1 h2
  obtain ⟨z, e⟩ := hz h3
  exact ⟨n, z, e, n1, n2⟩
theorem ww_lt (n : Int) (z : Bool) : ww n z < 18446744073709551616 := double.nearest_lt _ _ _

end Go.Proofs.YtolfobgpgmfnpaaDoor

