/-
  Numbers of whatever fineness in intervals: what is done with intervals has what is done with them. (In wholes: an interval's ends are steps of 1/65536.)
  How far a ray of numbers is beyond a face, its root by steps of whatever fineness: newton's function encloses it, and its slope, but for something as small as you like.
-/
import Derived.Test.YtekhhekkepijoaaGb
import Derived.Test.YtekhhekkepijoaaHitMath
import Derived.Test.YtekhhekkepijoaaGy5
import Derived.Test.YtekhhekkepijoaaGq5

namespace Go.Proofs.Ytekhhekkepijoaa
set_option linter.unusedVariables false

def InQ (x : Rat) (a : Iv) : Prop := ivRight a = true ∧ (a.lo : Rat) ≤ x * 65536 ∧ x * 65536 ≤ (a.hi : Rat)
theorem cast_le {a b : Int} (h : a ≤ b) : (a : Rat) ≤ (b : Rat) := Rat.intCast_le_intCast.2 h
theorem le_of_cast {a b : Int} (h : (a : Rat) ≤ (b : Rat)) : a ≤ b := Rat.intCast_le_intCast.1 h
theorem inq_point {n : Int} {a : Iv} (h : ivRight a = true) (h1 : a.lo ≤ n) (h2 : n ≤ a.hi) : InQ ((n : Rat) / 65536) a := by
  refine ⟨h, ?_, ?_⟩
  · have := cast_le h1; grind
  · have := cast_le h2; grind
theorem add_parts {a b : Iv} (h : ivRight (ivAdd a b) = true) : ivRight a = true ∧ ivRight b = true ∧ (ivAdd a b).lo = a.lo + b.lo ∧ (ivAdd a b).hi = a.hi + b.hi := by
  obtain ⟨ha, hb⟩ := rights_add h
  refine ⟨ha, hb, ?_⟩
  unfold ivAdd at h ⊢
  rw [both_iff.2 ⟨ha, hb⟩, if_pos rfl] at h ⊢
  rw [of_yes (right_of_of.1 h)]
  exact ⟨rfl, rfl⟩
theorem inq_add {x y : Rat} {a b : Iv} (hx : InQ x a) (hy : InQ y b) (h : ivRight (ivAdd a b) = true) : InQ (x + y) (ivAdd a b) := by
  obtain ⟨-, -, e1, e2⟩ := add_parts h
  obtain ⟨-, x1, x2⟩ := hx
  obtain ⟨-, y1, y2⟩ := hy
  refine ⟨h, ?_, ?_⟩
  · rw [e1, Rat.intCast_add]; grind
  · rw [e2, Rat.intCast_add]; grind
theorem inq_neg {x : Rat} {a : Iv} (hx : InQ x a) : InQ (-x) (ivNeg a) := by
  obtain ⟨h, x1, x2⟩ := hx
  refine ⟨right_neg h, ?_, ?_⟩
  · rw [neg_form h]; dsimp only; rw [Rat.intCast_neg]; grind
  · rw [neg_form h]; dsimp only; rw [Rat.intCast_neg]; grind
theorem inq_sub {x y : Rat} {a b : Iv} (hx : InQ x a) (hy : InQ y b) (h : ivRight (ivSub a b) = true) : InQ (x - y) (ivSub a b) := by
  have := inq_add hx (inq_neg hy) h
  rw [Rat.sub_eq_add_neg]
  exact this
/-- What lies below the corners' products lies below the product. -/
theorem corner_lo {m al ah bl bh X Y : Rat} (h1 : m ≤ al * bl) (h2 : m ≤ al * bh) (h3 : m ≤ ah * bl) (h4 : m ≤ ah * bh) (x1 : al ≤ X) (x2 : X ≤ ah) (y1 : bl ≤ Y) (y2 : Y ≤ bh) : m ≤ X * Y := by
  have edge : ∀ e : Rat, m ≤ e * bl → m ≤ e * bh → m ≤ e * Y := by
    intro e g1 g2
    by_cases he : 0 ≤ e
    · have := Rat.mul_le_mul_of_nonneg_left y1 he
      grind
    · have hn : 0 ≤ -e := by grind
      have := Rat.mul_le_mul_of_nonneg_left y2 hn
      grind
  by_cases hY : 0 ≤ Y
  · have := Rat.mul_le_mul_of_nonneg_left x1 hY
    have := edge al h1 h2
    grind
  · have hn : 0 ≤ -Y := by grind
    have := Rat.mul_le_mul_of_nonneg_left x2 hn
    have := edge ah h3 h4
    grind
theorem corner_hi {m al ah bl bh X Y : Rat} (h1 : al * bl ≤ m) (h2 : al * bh ≤ m) (h3 : ah * bl ≤ m) (h4 : ah * bh ≤ m) (x1 : al ≤ X) (x2 : X ≤ ah) (y1 : bl ≤ Y) (y2 : Y ≤ bh) : X * Y ≤ m := by
  have := corner_lo (m := -m) (al := -ah) (ah := -al) (bl := bl) (bh := bh) (X := -X) (Y := Y) (by grind) (by grind) (by grind) (by grind) (by grind) (by grind) y1 y2
  grind
theorem mul_parts {a b : Iv} (h : ivRight (ivMul a b) = true) : ivRight a = true ∧ ivRight b = true ∧ (ivMul a b).lo * 65536 ≤ min4 (a.lo * b.lo) (a.lo * b.hi) (a.hi * b.lo) (a.hi * b.hi) ∧ max4 (a.lo * b.lo) (a.lo * b.hi) (a.hi * b.lo) (a.hi * b.hi) ≤ (ivMul a b).hi * 65536 := by
  obtain ⟨ha, hb⟩ := rights_mul h
  refine ⟨ha, hb, ?_⟩
  unfold ivMul at h ⊢
  rw [both_iff.2 ⟨ha, hb⟩, if_pos rfl] at h ⊢
  unfold ivOut at h ⊢
  rw [of_yes (right_of_of.1 h)]
  dsimp only
  generalize min4 (a.lo * b.lo) (a.lo * b.hi) (a.hi * b.lo) (a.hi * b.hi) = p
  generalize max4 (a.lo * b.lo) (a.lo * b.hi) (a.hi * b.lo) (a.hi * b.hi) = q
  rw [fdiv_one, fdiv_one]
  omega
theorem min4_le (p q r s : Int) : min4 p q r s ≤ p ∧ min4 p q r s ≤ q ∧ min4 p q r s ≤ r ∧ min4 p q r s ≤ s := by
  unfold min4; omega
theorem le_max4 (p q r s : Int) : p ≤ max4 p q r s ∧ q ≤ max4 p q r s ∧ r ≤ max4 p q r s ∧ s ≤ max4 p q r s := by
  unfold max4; omega
theorem inq_mul {x y : Rat} {a b : Iv} (hx : InQ x a) (hy : InQ y b) (h : ivRight (ivMul a b) = true) : InQ (x * y) (ivMul a b) := by
  obtain ⟨-, -, e1, e2⟩ := mul_parts h
  obtain ⟨-, x1, x2⟩ := hx
  obtain ⟨-, y1, y2⟩ := hy
  obtain ⟨l1, l2, l3, l4⟩ := min4_le (a.lo * b.lo) (a.lo * b.hi) (a.hi * b.lo) (a.hi * b.hi)
  obtain ⟨u1, u2, u3, u4⟩ := le_max4 (a.lo * b.lo) (a.lo * b.hi) (a.hi * b.lo) (a.hi * b.hi)
  have c : ∀ p q r : Int, r ≤ p * q → (r : Rat) ≤ (p : Rat) * (q : Rat) := fun p q r hr => by rw [← Rat.intCast_mul]; exact cast_le hr
  have c' : ∀ p q r : Int, p * q ≤ r → (p : Rat) * (q : Rat) ≤ (r : Rat) := fun p q r hr => by rw [← Rat.intCast_mul]; exact cast_le hr
  refine ⟨h, ?_, ?_⟩
  · have k := corner_lo (c _ _ _ (Int.le_trans e1 l1)) (c _ _ _ (Int.le_trans e1 l2)) (c _ _ _ (Int.le_trans e1 l3)) (c _ _ _ (Int.le_trans e1 l4)) x1 x2 y1 y2
    rw [Rat.intCast_mul] at k
    grind
  · have k := corner_hi (c' _ _ _ (Int.le_trans u1 e2)) (c' _ _ _ (Int.le_trans u2 e2)) (c' _ _ _ (Int.le_trans u3 e2)) (c' _ _ _ (Int.le_trans u4 e2)) x1 x2 y1 y2
    rw [Rat.intCast_mul] at k
    grind
theorem sq_ge {l X : Rat} (h0 : 0 ≤ l) (h : l ≤ X) : l * l ≤ X * X := by
  have h1 := Rat.mul_le_mul_of_nonneg_left h h0
  have h2 := Rat.mul_le_mul_of_nonneg_left h (show 0 ≤ X by grind)
  grind
theorem sq_nonneg_q (X : Rat) : 0 ≤ X * X := by
  by_cases h : 0 ≤ X
  · exact Rat.mul_nonneg h h
  · have := Rat.mul_nonneg (show 0 ≤ -X by grind) (show 0 ≤ -X by grind)
    grind
theorem inq_sqr {x : Rat} {a : Iv} (hx : InQ x a) (h : ivRight (ivSqr a) = true) : InQ (x * x) (ivSqr a) := by
  obtain ⟨k1, k2, k3, k4, k5, -⟩ := sqr_ends h
  obtain ⟨ha, x1, x2⟩ := hx
  have c : ∀ p r : Int, r * 65536 ≤ p * p → (r : Rat) * 65536 ≤ (p : Rat) * (p : Rat) := fun p r hr => by
    have := cast_le hr
    rw [Rat.intCast_mul, Rat.intCast_mul] at this
    exact this
  have c' : ∀ p r : Int, p * p ≤ r * 65536 → (p : Rat) * (p : Rat) ≤ (r : Rat) * 65536 := fun p r hr => by
    have := cast_le hr
    rw [Rat.intCast_mul, Rat.intCast_mul] at this
    exact this
  refine ⟨h, ?_, ?_⟩
  · by_cases h0 : a.lo ≤ 0 ∧ 0 ≤ a.hi
    · have := cast_le (k1 h0)
      have := sq_nonneg_q x
      grind
    · by_cases h1 : 0 < a.lo
      · have e := c _ _ (k2 h1)
        have := sq_ge (cast_le (Int.le_of_lt h1)) x1
        grind
      · have h2 : a.hi < 0 := by have := right_bd ha; omega
        have e := c _ _ (k3 h2)
        have h3 := cast_le (Int.le_of_lt h2)
        have := sq_ge (l := -(a.hi : Rat)) (X := -(x * 65536)) (by grind) (by grind)
        grind
  · by_cases hX : 0 ≤ x * 65536
    · have := sq_ge hX x2
      have := c' _ _ k5
      grind
    · have := sq_ge (l := -(x * 65536)) (X := -(a.lo : Rat)) (by grind) (by grind)
      have := c' _ _ k4
      grind
theorem le_of_mul_pos {a b y : Rat} (hy : 0 < y) (h : a * y ≤ b * y) : a ≤ b := by
  by_cases k : a ≤ b
  · exact k
  · have := Rat.mul_lt_mul_of_pos_right (show b < a by grind) hy
    grind
/-- A quotient, said by what it is of the divisor. -/
theorem inq_div {x y q : Rat} {a b : Iv} (hx : InQ x a) (hy : InQ y b) (h : ivRight (ivDiv a b) = true) (hq : q * y = x) : InQ q (ivDiv a b) := by
  obtain ⟨ha, x1, x2⟩ := hx
  obtain ⟨hb, y1, y2⟩ := hy
  have ra := (right_bd ha).2.2
  have rb := (right_bd hb).2.2
  have c1 := div_encloses h (p := a.lo) (q := b.lo) ⟨by omega, ra⟩ ⟨by omega, rb⟩
  have c2 := div_encloses h (p := a.lo) (q := b.hi) ⟨by omega, ra⟩ ⟨rb, by omega⟩
  have c3 := div_encloses h (p := a.hi) (q := b.lo) ⟨ra, by omega⟩ ⟨by omega, rb⟩
  have c4 := div_encloses h (p := a.hi) (q := b.hi) ⟨ra, by omega⟩ ⟨rb, by omega⟩
  have off := (div_right h).2.1
  unfold Off at off
  refine ⟨h, ?_⟩
  generalize (ivDiv a b).lo = L at *
  generalize (ivDiv a b).hi = H at *
  have m : ∀ p r s : Int, p * r ≤ s * 65536 → (p : Rat) * (r : Rat) ≤ (s : Rat) * 65536 := fun p r s hr => by
    have := cast_le hr
    rw [Rat.intCast_mul, Rat.intCast_mul] at this
    exact this
  have m' : ∀ p r s : Int, s * 65536 ≤ p * r → (s : Rat) * 65536 ≤ (p : Rat) * (r : Rat) := fun p r s hr => by
    have := cast_le hr
    rw [Rat.intCast_mul, Rat.intCast_mul] at this
    exact this
  have e : q * 65536 * (y * 65536) = x * 65536 * 65536 := by rw [← hq]; grind
  have en : q * 65536 * -(y * 65536) = -(x * 65536 * 65536) := by rw [← hq]; grind
  clear hq
  by_cases hp : 0 < b.lo
  · have d1 := m L b.lo a.lo (by omega)
    have d2 := m L b.hi a.lo (by omega)
    have d3 := m' H b.lo a.hi (by omega)
    have d4 := m' H b.hi a.hi (by omega)
    have hpos : (0 : Rat) < y * 65536 := by
      have := cast_le (show (1 : Int) ≤ b.lo by omega)
      grind
    have f1 := corner_hi (m := (a.lo : Rat) * 65536) (al := (L : Rat)) (ah := (L : Rat)) (X := (L : Rat)) d1 d2 d1 d2 (by grind) (by grind) y1 y2
    have f2 := corner_lo (m := (a.hi : Rat) * 65536) (al := (H : Rat)) (ah := (H : Rat)) (X := (H : Rat)) d3 d4 d3 d4 (by grind) (by grind) y1 y2
    exact ⟨le_of_mul_pos hpos (by rw [e]; grind), le_of_mul_pos hpos (by rw [e]; grind)⟩
  · have hn : b.hi < 0 := by omega
    have d1 := m' L b.lo a.hi (by omega)
    have d2 := m' L b.hi a.hi (by omega)
    have d3 := m H b.lo a.lo (by omega)
    have d4 := m H b.hi a.lo (by omega)
    have hpos : (0 : Rat) < -(y * 65536) := by
      have := cast_le (show b.hi ≤ -1 by omega)
      grind
    have f1 := corner_lo (m := (a.hi : Rat) * 65536) (al := (L : Rat)) (ah := (L : Rat)) (X := (L : Rat)) d1 d2 d1 d2 (by grind) (by grind) y1 y2
    have f2 := corner_hi (m := (a.lo : Rat) * 65536) (al := (H : Rat)) (ah := (H : Rat)) (X := (H : Rat)) d3 d4 d3 d4 (by grind) (by grind) y1 y2
    exact ⟨le_of_mul_pos hpos (by rw [en]; grind), le_of_mul_pos hpos (by rw [en]; grind)⟩
theorem sq_lt_le {a b : Int} (hb : 0 ≤ b) (h : a * a < (b + 1) * (b + 1)) : a ≤ b := by
  by_cases k : a ≤ b
  · exact k
  · have := Int.mul_le_mul (show b + 1 ≤ a by omega) (show b + 1 ≤ a by omega) (by omega) (by omega)
    omega
/-- A quotient in an interval, where its divisor's interval has no 0. -/
theorem inq_quot {x y : Rat} {a b : Iv} (hx : InQ x a) (hy : InQ y b) (h : ivRight (ivDiv a b) = true) : InQ (x / y) (ivDiv a b) ∧ x / y * y = x := by
  have off := (div_right h).2.1
  unfold Off at off
  obtain ⟨hb, y1, y2⟩ := hy
  have hy0 : ¬ y = 0 := by
    intro e
    rw [e] at y1 y2
    apply off
    exact ⟨le_of_cast (by simp; grind), le_of_cast (by simp; grind)⟩
  have e : x / y * y = x := by grind
  exact ⟨inq_div hx ⟨hb, y1, y2⟩ h e, e⟩
end Go.Proofs.Ytekhhekkepijoaa

namespace Go.Proofs.Ytekhhekkepijoaa
set_option linter.unusedVariables false

/-! ### Roots of whatever fineness -/
def isqN : Nat → Nat
  | 0 => 0
  | n + 1 => if (isqN n + 1) * (isqN n + 1) ≤ n + 1 then isqN n + 1 else isqN n
theorem isqN_bd : ∀ n, isqN n * isqN n ≤ n ∧ n < (isqN n + 1) * (isqN n + 1)
  | 0 => by unfold isqN; omega
  | n + 1 => by
    obtain ⟨h1, h2⟩ := isqN_bd n
    unfold isqN
    split
    · rename_i h
      refine ⟨h, ?_⟩
      have : (isqN n + 1 + 1) * (isqN n + 1 + 1) = (isqN n + 1) * (isqN n + 1) + 2 * (isqN n + 1) + 1 := by grind
      omega
    · rename_i h
      omega
def rootQ (N : Nat) (X : Rat) : Rat := (isqN (X * (N : Rat) * (N : Rat)).floor.toNat : Rat) * (N : Rat)⁻¹
theorem natc (n : Nat) : ((n : Int) : Rat) = (n : Rat) := rfl
theorem rootQ_bd {N : Nat} {X : Rat} (hN : 0 < N) (h0 : 0 ≤ X) : 0 ≤ rootQ N X ∧ rootQ N X * rootQ N X ≤ X ∧ X ≤ (rootQ N X + (N : Rat)⁻¹) * (rootQ N X + (N : Rat)⁻¹) ∧ 0 < (N : Rat)⁻¹ ∧ (N : Rat) * (N : Rat)⁻¹ = 1 := by
  have n0 : (0 : Rat) < (N : Rat) := by
    have := cast_le (show (1 : Int) ≤ (N : Int) by omega)
    rw [natc] at this
    simp at this
    grind
  have inv : (N : Rat) * (N : Rat)⁻¹ = 1 := by grind
  have inv0 : 0 < (N : Rat)⁻¹ := by
    by_cases c : 0 < (N : Rat)⁻¹
    · exact c
    · have := Rat.mul_nonneg (Rat.le_of_lt n0) (show 0 ≤ -((N : Rat)⁻¹) by grind)
      grind
  have x0 : 0 ≤ X * (N : Rat) * (N : Rat) := Rat.mul_nonneg (Rat.mul_nonneg h0 (Rat.le_of_lt n0)) (Rat.le_of_lt n0)
  have f0 : 0 ≤ (X * (N : Rat) * (N : Rat)).floor := Rat.le_floor_iff.2 (by simp; exact x0)
  have f1 := Rat.floor_le (X * (N : Rat) * (N : Rat))
  have f2 := Rat.lt_floor_add_one (X * (N : Rat) * (N : Rat))
  unfold rootQ
  obtain ⟨m, hm⟩ : ∃ m : Nat, (X * (N : Rat) * (N : Rat)).floor = (m : Int) := ⟨_, (Int.toNat_of_nonneg f0).symm⟩
  rw [hm] at f1 f2 ⊢
  rw [show ((m : Int)).toNat = m from rfl]
  obtain ⟨i1, i2⟩ := isqN_bd m
  have j1 := cast_le (show ((isqN m : Nat) : Int) * (isqN m : Int) ≤ (m : Int) by exact_mod_cast i1)
  have j2 := cast_le (show (m : Int) + 1 ≤ ((isqN m : Nat) + 1 : Int) * ((isqN m : Int) + 1) by exact_mod_cast i2)
  have j0 := cast_le (show (0 : Int) ≤ (isqN m : Int) by omega)
  rw [Rat.intCast_mul] at j1 j2
  rw [Rat.intCast_add, Rat.intCast_add] at j2
  rw [Rat.intCast_add] at f2
  simp only [natc] at *
  simp at j0 j2 f2
  generalize (isqN m : Rat) = s at *
  generalize (m : Rat) = q at *
  generalize (N : Rat)⁻¹ = v at *
  generalize (N : Rat) = n at *
  have e0 : X * n * n * (v * v) = X * (n * v) * (n * v) := by grind
  rw [inv] at e0
  have e1 : s * v * (s * v) = s * s * (v * v) := by grind
  have e2 : (s * v + v) * (s * v + v) = (s + 1) * (s + 1) * (v * v) := by grind
  refine ⟨Rat.mul_nonneg j0 (Rat.le_of_lt inv0), ?_, ?_, inv0, inv⟩
  · have k := Rat.mul_le_mul_of_nonneg_right (show s * s ≤ X * n * n by grind) (sq_nonneg_q v)
    rw [e1]; grind
  · have k := Rat.mul_le_mul_of_nonneg_right (show X * n * n ≤ (s + 1) * (s + 1) by grind) (sq_nonneg_q v)
    rw [e2]; grind
/-- Such a root lies in the interval's root, where the fineness is a whole part of a step. -/
theorem inq_rootQ {M : Nat} {X : Rat} {a : Iv} (hM : 0 < M) (hX : InQ X a) (h : ivRight (ivRoot a) = true) : 0 ≤ X ∧ InQ (rootQ (65536 * M) X) (ivRoot a) := by
  obtain ⟨l0, r0, -, r2, r3⟩ := root_ends h
  obtain ⟨-, x1, x2⟩ := hX
  have c0 := cast_le l0
  have c2 := cast_le r2
  have c3 := cast_le r3
  have c4 := cast_le r0
  rw [Rat.intCast_mul, Rat.intCast_mul] at c2 c3
  simp at c0 c2 c3 c4
  have x0 : 0 ≤ X := by grind
  refine ⟨x0, h, ?_, ?_⟩
  · -- below: a whole number of fine steps
    obtain ⟨q0, q1, q2, v0, inv⟩ := rootQ_bd (N := 65536 * M) (X := X) (by omega) x0
    have hcN : ((65536 * M : Nat) : Rat) = 65536 * (M : Rat) := by
      have : (((65536 * M : Nat) : Int) : Rat) = ((65536 : Int) : Rat) * ((M : Int) : Rat) := by rw [← Rat.intCast_mul]; rfl
      exact this
    have m0 : 0 ≤ (M : Rat) := cast_le (show (0 : Int) ≤ (M : Int) by omega)
    have b1 : (((ivRoot a).lo * (M : Int)) * ((ivRoot a).lo * (M : Int)) : Int) ≤ (X * ((65536 * M : Nat) : Rat) * ((65536 * M : Nat) : Rat)).floor := by
      refine Rat.le_floor_iff.2 ?_
      rw [Rat.intCast_mul, Rat.intCast_mul, natc, hcN]
      have k := Rat.mul_le_mul_of_nonneg_right (show ((ivRoot a).lo : Rat) * ((ivRoot a).lo : Rat) ≤ X * 65536 * 65536 by grind) (sq_nonneg_q (M : Rat))
      grind
    unfold rootQ
    generalize (X * ((65536 * M : Nat) : Rat) * ((65536 * M : Nat) : Rat)).floor = q at *
    have hq0 : 0 ≤ q := by
      have := sq_nonneg' ((ivRoot a).lo * (M : Int))
      omega
    obtain ⟨i1, i2⟩ := isqN_bd q.toNat
    have key : (ivRoot a).lo * (M : Int) ≤ (isqN q.toNat : Int) := by
      refine sq_lt_le (by omega) ?_
      have : ((q.toNat : Nat) : Int) = q := by omega
      have h3 : (q.toNat : Int) < ((isqN q.toNat : Int) + 1) * ((isqN q.toNat : Int) + 1) := by exact_mod_cast i2
      omega
    have kc := cast_le key
    rw [Rat.intCast_mul, natc, natc] at kc
    have v1 := Rat.le_of_lt v0
    have k := Rat.mul_le_mul_of_nonneg_right kc v1
    rw [hcN] at inv k ⊢
    generalize (isqN q.toNat : Rat) = s at *
    generalize (65536 * (M : Rat))⁻¹ = w at *
    have e : ((ivRoot a).lo : Rat) * (M : Rat) * w * 65536 = ((ivRoot a).lo : Rat) * (65536 * (M : Rat) * w) := by grind
    rw [inv] at e
    grind
  · obtain ⟨q0, q1, -, -, -⟩ := rootQ_bd (N := 65536 * M) (X := X) (by omega) x0
    generalize rootQ (65536 * M) X = σ at *
    have c5 : 0 ≤ ((ivRoot a).hi : Rat) := by
      have := cast_le (show (0 : Int) ≤ (ivRoot a).hi by have := (root_ends h).2.2.1; omega)
      simp at this
      exact this
    by_cases k : σ * 65536 ≤ ((ivRoot a).hi : Rat)
    · exact k
    · exfalso
      have m1 := Rat.mul_lt_mul_of_pos_left (show ((ivRoot a).hi : Rat) < σ * 65536 by grind) (show 0 < σ * 65536 by grind)
      have m2 := Rat.mul_le_mul_of_nonneg_left (show ((ivRoot a).hi : Rat) ≤ σ * 65536 by grind) c5
      grind

/-! ### The depth and its slope -/
/-! ### How far a ray of numbers is beyond a face -/
end Go.Proofs.Ytekhhekkepijoaa
