/-
  Numbers of whatever fineness in intervals: what is done with intervals has what is done with them. (In wholes: an interval's ends are steps of 1/65536.)
  What newton.Solve is sure of is there: of a function of numbers that is enclosed, with its slope, but for something as small as you like.
  Where a ray meets a face that is not bent the face is: its depth there has a number in common with the place. By numbers within the boxes, and the signs on both sides of a root.
  How far a ray of numbers is beyond a face, its root by steps of whatever fineness: newton's function encloses it, and its slope, but for something as small as you like.
  Bent faces: where newton.Solve is sure, the face is (HitOn); of less it is sure of the same (HitLess).
  Where a ray meets a face, ahead of its widest, the face is; of less it is met within, or both places meet.
  What HitLess and HitOn ask, of a ray that is handed in and a face that is mild.
-/
import Derived.Test.YtggohceeeggnmaaGreatGb
import Derived.Test.YtggohceeeggnmaaGreatNewtonMath
import Derived.Test.YtggohceeeggnmaaGreatHitMath
import Derived.Test.YtggohceeeggnmaaGreatGq5
import Derived.Test.YtggohceeeggnmaaGreatHitHand
import Derived.Test.YtggohceeeggnmaaGreatGp5

namespace Go.Proofs.YtggohceeeggnmaaGreat
set_option linter.unusedVariables false

def InQ (x : Rat) (a : Iv) : Prop := ivRight a = true ∧ (a.lo : Rat) ≤ x * 65536 ∧ x * 65536 ≤ (a.hi : Rat)
theorem cast_le {a b : Int} (h : a ≤ b) : (a : Rat) ≤ (b : Rat) := Rat.intCast_le_intCast.2 h
theorem le_of_cast {a b : Int} (h : (a : Rat) ≤ (b : Rat)) : a ≤ b := Rat.intCast_le_intCast.1 h
theorem inq_point {n : Int} {a : Iv} (h : ivRight a = true) (h1 : a.lo ≤ n) (h2 : n ≤ a.hi) : InQ ((n : Rat) / 65536) a := by
  refine ⟨h, ?_, ?_⟩
  · have := cast_le h1; grind
  · have := cast_le h2; grind
theorem add_parts {a b : Iv} (h : ivRight (ivAdd a b) = true) : ivRight a = true ∧ ivRight b = true ∧ (ivAdd a b).lo = a.lo + b.lo ∧ (ivAdd a b).hi = a.hi + b.hi := by
  obtain ⟨ha, hb⟩ := rights_add h
  refine ⟨ha, hb, ?_⟩
  unfold ivAdd at h ⊢
  rw [both_iff.2 ⟨ha, hb⟩, if_pos rfl] at h ⊢
  rw [of_yes (right_of_of.1 h)]
  exact ⟨rfl, rfl⟩
theorem inq_add {x y : Rat} {a b : Iv} (hx : InQ x a) (hy : InQ y b) (h : ivRight (ivAdd a b) = true) : InQ (x + y) (ivAdd a b) := by
  obtain ⟨-, -, e1, e2⟩ := add_parts h
  obtain ⟨-, x1, x2⟩ := hx
  obtain ⟨-, y1, y2⟩ := hy
  refine ⟨h, ?_, ?_⟩
  · rw [e1, Rat.intCast_add]; grind
  · rw [e2, Rat.intCast_add]; grind
theorem inq_neg {x : Rat} {a : Iv} (hx : InQ x a) : InQ (-x) (ivNeg a) := by
  obtain ⟨h, x1, x2⟩ := hx
  refine ⟨right_neg h, ?_, ?_⟩
  · rw [neg_form h]; dsimp only; rw [Rat.intCast_neg]; grind
  · rw [neg_form h]; dsimp only; rw [Rat.intCast_neg]; grind
theorem inq_sub {x y : Rat} {a b : Iv} (hx : InQ x a) (hy : InQ y b) (h : ivRight (ivSub a b) = true) : InQ (x - y) (ivSub a b) := by
  have := inq_add hx (inq_neg hy) h
  rw [Rat.sub_eq_add_neg]
  exact this
/-- What lies below the corners' products lies below the product. -/
theorem corner_lo {m al ah bl bh X Y : Rat} (h1 : m ≤ al * bl) (h2 : m ≤ al * bh) (h3 : m ≤ ah * bl) (h4 : m ≤ ah * bh) (x1 : al ≤ X) (x2 : X ≤ ah) (y1 : bl ≤ Y) (y2 : Y ≤ bh) : m ≤ X * Y := by
  have edge : ∀ e : Rat, m ≤ e * bl → m ≤ e * bh → m ≤ e * Y := by
    intro e g1 g2
    by_cases he : 0 ≤ e
    · have := Rat.mul_le_mul_of_nonneg_left y1 he
      grind
    · have hn : 0 ≤ -e := by grind
      have := Rat.mul_le_mul_of_nonneg_left y2 hn
      grind
  by_cases hY : 0 ≤ Y
  · have := Rat.mul_le_mul_of_nonneg_left x1 hY
    have := edge al h1 h2
    grind
  · have hn : 0 ≤ -Y := by grind
    have := Rat.mul_le_mul_of_nonneg_left x2 hn
    have := edge ah h3 h4
    grind
theorem corner_hi {m al ah bl bh X Y : Rat} (h1 : al * bl ≤ m) (h2 : al * bh ≤ m) (h3 : ah * bl ≤ m) (h4 : ah * bh ≤ m) (x1 : al ≤ X) (x2 : X ≤ ah) (y1 : bl ≤ Y) (y2 : Y ≤ bh) : X * Y ≤ m := by
  have := corner_lo (m := -m) (al := -ah) (ah := -al) (bl := bl) (bh := bh) (X := -X) (Y := Y) (by grind) (by grind) (by grind) (by grind) (by grind) (by grind) y1 y2
  grind
theorem mul_parts {a b : Iv} (h : ivRight (ivMul a b) = true) : ivRight a = true ∧ ivRight b = true ∧ (ivMul a b).lo * 65536 ≤ min4 (a.lo * b.lo) (a.lo * b.hi) (a.hi * b.lo) (a.hi * b.hi) ∧ max4 (a.lo * b.lo) (a.lo * b.hi) (a.hi * b.lo) (a.hi * b.hi) ≤ (ivMul a b).hi * 65536 := by
  obtain ⟨ha, hb⟩ := rights_mul h
  refine ⟨ha, hb, ?_⟩
  unfold ivMul at h ⊢
  rw [both_iff.2 ⟨ha, hb⟩, if_pos rfl] at h ⊢
  unfold ivOut at h ⊢
  rw [of_yes (right_of_of.1 h)]
  dsimp only
  generalize min4 (a.lo * b.lo) (a.lo * b.hi) (a.hi * b.lo) (a.hi * b.hi) = p
  generalize max4 (a.lo * b.lo) (a.lo * b.hi) (a.hi * b.lo) (a.hi * b.hi) = q
  rw [fdiv_one, fdiv_one]
  omega
theorem min4_le (p q r s : Int) : min4 p q r s ≤ p ∧ min4 p q r s ≤ q ∧ min4 p q r s ≤ r ∧ min4 p q r s ≤ s := by
  unfold min4; omega
theorem le_max4 (p q r s : Int) : p ≤ max4 p q r s ∧ q ≤ max4 p q r s ∧ r ≤ max4 p q r s ∧ s ≤ max4 p q r s := by
  unfold max4; omega
theorem inq_mul {x y : Rat} {a b : Iv} (hx : InQ x a) (hy : InQ y b) (h : ivRight (ivMul a b) = true) : InQ (x * y) (ivMul a b) := by
  obtain ⟨-, -, e1, e2⟩ := mul_parts h
  obtain ⟨-, x1, x2⟩ := hx
  obtain ⟨-, y1, y2⟩ := hy
  obtain ⟨l1, l2, l3, l4⟩ := min4_le (a.lo * b.lo) (a.lo * b.hi) (a.hi * b.lo) (a.hi * b.hi)
  obtain ⟨u1, u2, u3, u4⟩ := le_max4 (a.lo * b.lo) (a.lo * b.hi) (a.hi * b.lo) (a.hi * b.hi)
  have c : ∀ p q r : Int, r ≤ p * q → (r : Rat) ≤ (p : Rat) * (q : Rat) := fun p q r hr => by rw [← Rat.intCast_mul]; exact cast_le hr
  have c' : ∀ p q r : Int, p * q ≤ r → (p : Rat) * (q : Rat) ≤ (r : Rat) := fun p q r hr => by rw [← Rat.intCast_mul]; exact cast_le hr
  refine ⟨h, ?_, ?_⟩
  · have k := corner_lo (c _ _ _ (Int.le_trans e1 l1)) (c _ _ _ (Int.le_trans e1 l2)) (c _ _ _ (Int.le_trans e1 l3)) (c _ _ _ (Int.le_trans e1 l4)) x1 x2 y1 y2
    rw [Rat.intCast_mul] at k
    grind
  · have k := corner_hi (c' _ _ _ (Int.le_trans u1 e2)) (c' _ _ _ (Int.le_trans u2 e2)) (c' _ _ _ (Int.le_trans u3 e2)) (c' _ _ _ (Int.le_trans u4 e2)) x1 x2 y1 y2
    rw [Rat.intCast_mul] at k
    grind
theorem sq_ge {l X : Rat} (h0 : 0 ≤ l) (h : l ≤ X) : l * l ≤ X * X := by
  have h1 := Rat.mul_le_mul_of_nonneg_left h h0
  have h2 := Rat.mul_le_mul_of_nonneg_left h (show 0 ≤ X by grind)
  grind
theorem sq_nonneg_q (X : Rat) : 0 ≤ X * X := by
  by_cases h : 0 ≤ X
  · exact Rat.mul_nonneg h h
  · have := Rat.mul_nonneg (show 0 ≤ -X by grind) (show 0 ≤ -X by grind)
    grind
theorem inq_sqr {x : Rat} {a : Iv} (hx : InQ x a) (h : ivRight (ivSqr a) = true) : InQ (x * x) (ivSqr a) := by
  obtain ⟨k1, k2, k3, k4, k5, -⟩ := sqr_ends h
  obtain ⟨ha, x1, x2⟩ := hx
  have c : ∀ p r : Int, r * 65536 ≤ p * p → (r : Rat) * 65536 ≤ (p : Rat) * (p : Rat) := fun p r hr => by
    have := cast_le hr
    rw [Rat.intCast_mul, Rat.intCast_mul] at this
    exact this
  have c' : ∀ p r : Int, p * p ≤ r * 65536 → (p : Rat) * (p : Rat) ≤ (r : Rat) * 65536 := fun p r hr => by
    have := cast_le hr
    rw [Rat.intCast_mul, Rat.intCast_mul] at this
    exact this
  refine ⟨h, ?_, ?_⟩
  · by_cases h0 : a.lo ≤ 0 ∧ 0 ≤ a.hi
    · have := cast_le (k1 h0)
      have := sq_nonneg_q x
      grind
    · by_cases h1 : 0 < a.lo
      · have e := c _ _ (k2 h1)
        have := sq_ge (cast_le (Int.le_of_lt h1)) x1
        grind
      · have h2 : a.hi < 0 := by have := right_bd ha; omega
        have e := c _ _ (k3 h2)
        have h3 := cast_le (Int.le_of_lt h2)
        have := sq_ge (l := -(a.hi : Rat)) (X := -(x * 65536)) (by grind) (by grind)
        grind
  · by_cases hX : 0 ≤ x * 65536
    · have := sq_ge hX x2
      have := c' _ _ k5
      grind
    · have := sq_ge (l := -(x * 65536)) (X := -(a.lo : Rat)) (by grind) (by grind)
      have := c' _ _ k4
      grind
theorem le_of_mul_pos {a b y : Rat} (hy : 0 < y) (h : a * y ≤ b * y) : a ≤ b := by
  by_cases k : a ≤ b
  · exact k
  · have := Rat.mul_lt_mul_of_pos_right (show b < a by grind) hy
    grind
/-- A quotient, said by what it is of the divisor. -/
theorem inq_div {x y q : Rat} {a b : Iv} (hx : InQ x a) (hy : InQ y b) (h : ivRight (ivDiv a b) = true) (hq : q * y = x) : InQ q (ivDiv a b) := by
  obtain ⟨ha, x1, x2⟩ := hx
  obtain ⟨hb, y1, y2⟩ := hy
  have ra := (right_bd ha).2.2
  have rb := (right_bd hb).2.2
  have c1 := div_encloses h (p := a.lo) (q := b.lo) ⟨by omega, ra⟩ ⟨by omega, rb⟩
  have c2 := div_encloses h (p := a.lo) (q := b.hi) ⟨by omega, ra⟩ ⟨rb, by omega⟩
  have c3 := div_encloses h (p := a.hi) (q := b.lo) ⟨ra, by omega⟩ ⟨by omega, rb⟩
  have c4 := div_encloses h (p := a.hi) (q := b.hi) ⟨ra, by omega⟩ ⟨rb, by omega⟩
  have off := (div_right h).2.1
  unfold Off at off
  refine ⟨h, ?_⟩
  generalize (ivDiv a b).lo = L at *
  generalize (ivDiv a b).hi = H at *
  have m : ∀ p r s : Int, p * r ≤ s * 65536 → (p : Rat) * (r : Rat) ≤ (s : Rat) * 65536 := fun p r s hr => by
    have := cast_le hr
    rw [Rat.intCast_mul, Rat.intCast_mul] at this
    exact this
  have m' : ∀ p r s : Int, s * 65536 ≤ p * r → (s : Rat) * 65536 ≤ (p : Rat) * (r : Rat) := fun p r s hr => by
    have := cast_le hr
    rw [Rat.intCast_mul, Rat.intCast_mul] at this
    exact this
  have e : q * 65536 * (y * 65536) = x * 65536 * 65536 := by rw [← hq]; grind
  have en : q * 65536 * -(y * 65536) = -(x * 65536 * 65536) := by rw [← hq]; grind
  clear hq
  by_cases hp : 0 < b.lo
  · have d1 := m L b.lo a.lo (by omega)
    have d2 := m L b.hi a.lo (by omega)
    have d3 := m' H b.lo a.hi (by omega)
    have d4 := m' H b.hi a.hi (by omega)
    have hpos : (0 : Rat) < y * 65536 := by
      have := cast_le (show (1 : Int) ≤ b.lo by omega)
      grind
    have f1 := corner_hi (m := (a.lo : Rat) * 65536) (al := (L : Rat)) (ah := (L : Rat)) (X := (L : Rat)) d1 d2 d1 d2 (by grind) (by grind) y1 y2
    have f2 := corner_lo (m := (a.hi : Rat) * 65536) (al := (H : Rat)) (ah := (H : Rat)) (X := (H : Rat)) d3 d4 d3 d4 (by grind) (by grind) y1 y2
    exact ⟨le_of_mul_pos hpos (by rw [e]; grind), le_of_mul_pos hpos (by rw [e]; grind)⟩
  · have hn : b.hi < 0 := by omega
    have d1 := m' L b.lo a.hi (by omega)
    have d2 := m' L b.hi a.hi (by omega)
    have d3 := m H b.lo a.lo (by omega)
    have d4 := m H b.hi a.lo (by omega)
    have hpos : (0 : Rat) < -(y * 65536) := by
      have := cast_le (show b.hi ≤ -1 by omega)
      grind
    have f1 := corner_lo (m := (a.hi : Rat) * 65536) (al := (L : Rat)) (ah := (L : Rat)) (X := (L : Rat)) d1 d2 d1 d2 (by grind) (by grind) y1 y2
    have f2 := corner_hi (m := (a.lo : Rat) * 65536) (al := (H : Rat)) (ah := (H : Rat)) (X := (H : Rat)) d3 d4 d3 d4 (by grind) (by grind) y1 y2
    exact ⟨le_of_mul_pos hpos (by rw [en]; grind), le_of_mul_pos hpos (by rw [en]; grind)⟩
theorem inq_times {x : Rat} {a : Iv} {k : Int} (hx : InQ x a) (h : ivRight (ivTimes a k) = true) : InQ ((k : Rat) * x) (ivTimes a k) := by
  obtain ⟨ha, x1, x2⟩ := hx
  unfold ivTimes at h ⊢
  rw [ha] at h ⊢
  cases hk : isIn k
  · rw [hk] at h; cases h
  · rw [hk] at h
    rw [if_pos (show (true && true) = true from rfl)] at h ⊢
    rw [of_yes (right_of_of.1 h)]
    refine ⟨right_of.2 (right_of_of.1 h), ?_, ?_⟩
    · dsimp only
      by_cases h0 : 0 ≤ k
      · have h1 := cast_le (Int.min_le_left (k * a.lo) (k * a.hi))
        rw [Rat.intCast_mul] at h1
        have := Rat.mul_le_mul_of_nonneg_left x1 (cast_le h0)
        grind
      · have h1 := cast_le (Int.min_le_right (k * a.lo) (k * a.hi))
        rw [Rat.intCast_mul] at h1
        have := Rat.mul_le_mul_of_nonneg_left x2 (show (0 : Rat) ≤ -(k : Rat) by have := cast_le (show k ≤ 0 by omega); grind)
        grind
    · dsimp only
      by_cases h0 : 0 ≤ k
      · have h1 := cast_le (Int.le_max_right (k * a.lo) (k * a.hi))
        rw [Rat.intCast_mul] at h1
        have := Rat.mul_le_mul_of_nonneg_left x2 (cast_le h0)
        grind
      · have h1 := cast_le (Int.le_max_left (k * a.lo) (k * a.hi))
        rw [Rat.intCast_mul] at h1
        have := Rat.mul_le_mul_of_nonneg_left x1 (show (0 : Rat) ≤ -(k : Rat) by have := cast_le (show k ≤ 0 by omega); grind)
        grind
/-- Whole steps at a root, from below and from above. -/
theorem root_steps {x : Rat} (h0 : 0 ≤ x) (h1 : x ≤ 16384) : ∃ S : Int, 0 ≤ S ∧ (S : Rat) * (S : Rat) ≤ x * 65536 * 65536 ∧ x * 65536 * 65536 < ((S : Rat) + 1) * ((S : Rat) + 1) := by
  have f1 := Rat.floor_le (x * 65536 * 65536)
  have f2 := Rat.lt_floor_add_one (x * 65536 * 65536)
  have n0 : 0 ≤ (x * 65536 * 65536).floor := Rat.le_floor_iff.2 (by simp; grind)
  have n1 : (x * 65536 * 65536).floor ≤ 70368744177664 := le_of_cast (by simp; grind)
  generalize (x * 65536 * 65536).floor = n at *
  obtain ⟨r0, r1, r2⟩ := flRoot_bd n n0 (by omega)
  refine ⟨flRoot n, r0, ?_, ?_⟩
  · have := cast_le r1
    rw [Rat.intCast_mul] at this
    grind
  · have := cast_le (show n + 1 ≤ (flRoot n + 1) * (flRoot n + 1) by omega)
    rw [Rat.intCast_mul, Rat.intCast_add] at this
    rw [Rat.intCast_add] at f2
    simp at this f2
    grind
theorem sq_lt_le {a b : Int} (hb : 0 ≤ b) (h : a * a < (b + 1) * (b + 1)) : a ≤ b := by
  by_cases k : a ≤ b
  · exact k
  · have := Int.mul_le_mul (show b + 1 ≤ a by omega) (show b + 1 ≤ a by omega) (by omega) (by omega)
    omega
/-- The steps below a root lie in the root of the interval; those above it too. -/
theorem inq_root {x : Rat} {a : Iv} {S : Int} (hx : InQ x a) (h : ivRight (ivRoot a) = true) (s0 : 0 ≤ S) (s1 : (S : Rat) * (S : Rat) ≤ x * 65536 * 65536) (s2 : x * 65536 * 65536 < ((S : Rat) + 1) * ((S : Rat) + 1)) :
    InQ ((S : Rat) / 65536) (ivRoot a) ∧ (¬ (S : Rat) * (S : Rat) = x * 65536 * 65536 → InQ (((S : Rat) + 1) / 65536) (ivRoot a)) := by
  obtain ⟨-, x1, x2⟩ := hx
  obtain ⟨-, r0, r1, r2, r3⟩ := root_ends h
  have e2 := cast_le r2
  have e3 := cast_le r3
  rw [Rat.intCast_mul, Rat.intCast_mul] at e2 e3
  simp at e2 e3
  have lo : (ivRoot a).lo ≤ S := by
    refine sq_lt_le s0 ?_
    have : (((ivRoot a).lo * (ivRoot a).lo : Int) : Rat) < (((S + 1) * (S + 1) : Int) : Rat) := by
      rw [Rat.intCast_mul, Rat.intCast_mul, Rat.intCast_add]
      simp
      grind
    exact Rat.intCast_lt_intCast.1 this
  have hi : S ≤ (ivRoot a).hi := by
    refine sq_lt_le (by omega) ?_
    have : ((S * S : Int) : Rat) ≤ (((ivRoot a).hi * (ivRoot a).hi : Int) : Rat) := by
      rw [Rat.intCast_mul, Rat.intCast_mul]
      grind
    have := le_of_cast this
    have h4 : (ivRoot a).hi * (ivRoot a).hi < ((ivRoot a).hi + 1) * ((ivRoot a).hi + 1) := by
      have : ((ivRoot a).hi + 1) * ((ivRoot a).hi + 1) = (ivRoot a).hi * (ivRoot a).hi + 2 * (ivRoot a).hi + 1 := by grind
      omega
    omega
  refine ⟨inq_point h lo hi, fun hne => ?_⟩
  have hi1 : S + 1 ≤ (ivRoot a).hi := by
    by_cases k : S + 1 ≤ (ivRoot a).hi
    · exact k
    · have e : S = (ivRoot a).hi := by omega
      exfalso
      apply hne
      rw [e] at s1 s2 ⊢
      grind
  have := inq_point (n := S + 1) h (by omega) hi1
  rw [Rat.intCast_add] at this
  exact this
theorem inq_lo {a : Iv} (h : ivRight a = true) : InQ ((a.lo : Rat) / 65536) a := inq_point h (Int.le_refl _) (right_bd h).2.2
/-- A quotient in an interval, where its divisor's interval has no 0. -/
theorem inq_quot {x y : Rat} {a b : Iv} (hx : InQ x a) (hy : InQ y b) (h : ivRight (ivDiv a b) = true) : InQ (x / y) (ivDiv a b) ∧ x / y * y = x := by
  have off := (div_right h).2.1
  unfold Off at off
  obtain ⟨hb, y1, y2⟩ := hy
  have hy0 : ¬ y = 0 := by
    intro e
    rw [e] at y1 y2
    apply off
    exact ⟨le_of_cast (by simp; grind), le_of_cast (by simp; grind)⟩
  have e : x / y * y = x := by grind
  exact ⟨inq_div hx ⟨hb, y1, y2⟩ h e, e⟩
theorem off_ne {y : Rat} {a b : Iv} (hy : InQ y b) (h : ivRight (ivDiv a b) = true) : ¬ y = 0 := by
  have off := (div_right h).2.1
  unfold Off at off
  obtain ⟨hb, y1, y2⟩ := hy
  intro e
  rw [e] at y1 y2
  apply off
  exact ⟨le_of_cast (by simp; grind), le_of_cast (by simp; grind)⟩
end Go.Proofs.YtggohceeeggnmaaGreat

namespace Go.Proofs.YtggohceeeggnmaaGreat
set_option linter.unusedVariables false

/-- Not farther from 0 than d. -/
def NearQ (x d : Rat) : Prop := -d ≤ x ∧ x ≤ d
/-- F encloses g over T, and its slope, but for e. -/
structure Encl (F : Enc) (T : Iv) (g : Rat → Rat) (e : Rat) : Prop where
  val : ∀ t τ, Part t T → InQ τ t → ivRight (F t).1 = true → InQ (g τ) (F t).1
  slope : ∀ t τ μ, Part t T → InQ τ t → InQ μ t → ivRight (F t).2 = true → ∃ σ, InQ σ (F t).2 ∧ NearQ (g τ - g μ - σ * (τ - μ)) e
theorem near_mul {x y d D : Rat} (hx : NearQ x d) (hy : NearQ y D) : NearQ (x * y) (d * D) := by
  obtain ⟨x1, x2⟩ := hx
  obtain ⟨y1, y2⟩ := hy
  have d0 : 0 ≤ d := by grind
  have h1 := Rat.mul_nonneg (show 0 ≤ d - x by grind) (show 0 ≤ D - y by grind)
  have h2 := Rat.mul_nonneg (show 0 ≤ d + x by grind) (show 0 ≤ D + y by grind)
  have h3 := Rat.mul_nonneg (show 0 ≤ d - x by grind) (show 0 ≤ D + y by grind)
  have h4 := Rat.mul_nonneg (show 0 ≤ d + x by grind) (show 0 ≤ D - y by grind)
  exact ⟨by grind, by grind⟩
theorem inq_bound {x : Rat} {a : Iv} (h : InQ x a) : NearQ x 16384 := by
  have b := right_bd h.1
  have b1 := cast_le b.1.1
  have b2 := cast_le b.2.1.2
  have h1 := h.2.1
  have h2 := h.2.2
  simp at b1 b2
  exact ⟨by grind, by grind⟩
/-- What is in an interval that has no 0 is a step away from it, on one side. -/
theorem off_side {b : Iv} (h : ¬ (b.lo ≤ 0 ∧ 0 ≤ b.hi)) : (∀ y, InQ y b → 1 / 65536 ≤ y) ∨ (∀ y, InQ y b → y ≤ -(1 / 65536)) := by
  by_cases k : 0 < b.lo
  · refine .inl fun y hy => ?_
    have h1 := cast_le (show (1 : Int) ≤ b.lo by omega)
    have h2 := hy.2.1
    simp at h1
    grind
  · refine .inr fun y hy => ?_
    have h1 := cast_le (show b.hi ≤ (-1 : Int) by omega)
    have h2 := hy.2.2
    simp at h1
    grind
theorem meet_parts {t n : Iv} (h : ivRight (ivMeet t n) = true) : ivRight t = true ∧ ivRight n = true ∧ ivMeet t n = ⟨max t.lo n.lo, min t.hi n.hi, false⟩ ∧ max t.lo n.lo ≤ min t.hi n.hi := by
  unfold ivMeet at h ⊢
  cases hb : ivBoth t n
  · rw [hb] at h; cases h
  · rw [hb] at h
    rw [if_pos rfl] at h ⊢
    obtain ⟨h1, h2⟩ := both_iff.1 hb
    exact ⟨h1, h2, of_yes (right_of_of.1 h), (right_of_of.1 h).2.2⟩
theorem inq_meet {x : Rat} {t n : Iv} (ht : InQ x t) (hn : InQ x n) (h : ivRight (ivMeet t n) = true) : InQ x (ivMeet t n) := by
  obtain ⟨-, -, e, -⟩ := meet_parts h
  refine ⟨h, ?_, ?_⟩
  · rw [e]
    dsimp only
    by_cases k : t.lo ≤ n.lo
    · rw [Int.max_eq_right k]; exact hn.2.1
    · rw [Int.max_eq_left (by omega)]; exact ht.2.1
  · rw [e]
    dsimp only
    by_cases k : t.hi ≤ n.hi
    · rw [Int.min_eq_left k]; exact ht.2.2
    · rw [Int.min_eq_right (by omega)]; exact hn.2.2
theorem part_trans {a b c : Iv} (h : Part a b) (k : Part b c) : Part a c := ⟨h.1, k.2.1, by have := h.2.2; have := k.2.2; omega⟩
theorem meet_part {t n : Iv} (h : ivRight (ivMeet t n) = true) : Part (ivMeet t n) t := by
  obtain ⟨h1, -, e, -⟩ := meet_parts h
  refine ⟨h, h1, ?_⟩
  rw [e]
  dsimp only
  omega
theorem inq_part {x : Rat} {a b : Iv} (h : Part a b) (hx : InQ x a) : InQ x b := by
  have h1 := cast_le h.2.2.1
  have h2 := cast_le h.2.2.2
  exact ⟨h.2.1, by have := hx.2.1; grind, by have := hx.2.2; grind⟩
/-- The middle of an interval, as a point. -/
theorem mid_point {t : Iv} (h : ivRight t = true) : Part (ivPoint (ivMid t)) t ∧ InQ ((ivMid t : Rat) / 65536) (ivPoint (ivMid t)) := by
  obtain ⟨-, m1, m2⟩ := mid_in h
  have b := right_bd h
  have e : ivPoint (ivMid t) = ⟨ivMid t, ivMid t, false⟩ := point_form (by omega)
  rw [e]
  have hr : ivRight ⟨ivMid t, ivMid t, false⟩ = true := right_of.2 (by omega)
  exact ⟨⟨hr, h, m1, m2⟩, inq_point hr (Int.le_refl _) (Int.le_refl _)⟩
/-- Newton's next place has where the line through the middle is nothing. -/
theorem next_line {F : Enc} {T t : Iv} {g : Rat → Rat} {e : Rat} (E : Encl F T g e) (hp : Part t T) (h : ivRight (nNext F t) = true) :
    ¬ ((F t).2.lo ≤ 0 ∧ 0 ≤ (F t).2.hi) ∧ ∀ τ, InQ τ t → ∃ σ z, InQ σ (F t).2 ∧ InQ z (nNext F t) ∧ NearQ (g τ - σ * (τ - z)) e := by
  unfold nNext at h ⊢
  have hd := (sub_ends h).1.2
  obtain ⟨hv, hs⟩ := both_iff.1 (div_right hd).1
  have off := (div_right hd).2.1
  unfold Off at off
  refine ⟨off, fun τ hτ => ?_⟩
  obtain ⟨m1, m2⟩ := mid_point hp.1
  have hg := E.val _ _ (part_trans m1 hp) m2 hv
  obtain ⟨σ, s1, s2⟩ := E.slope t τ ((ivMid t : Rat) / 65536) hp hτ (inq_part m1 m2) hs
  obtain ⟨q1, q2⟩ := inq_quot hg s1 hd
  refine ⟨σ, _, s1, inq_sub m2 q1 h, ?_⟩
  generalize (ivMid t : Rat) / 65536 = m at *
  generalize g m / σ = q at *
  unfold NearQ at s2 ⊢
  grind
/-- One round: what is nearly nothing is not thrown away, but for a little. -/
theorem step_meet {F : Enc} {T t : Iv} {g : Rat → Rat} {e d τ : Rat} (E : Encl F T g e) (hp : Part t T) (h : ivRight (nNext F t) = true) (hm : ivRight (ivMeet t (nNext F t)) = true) (hτ : InQ τ t) (hg : NearQ (g τ) d) (he : 0 ≤ e) (hed : e ≤ d) :
    ∃ τ', InQ τ' (ivMeet t (nNext F t)) ∧ NearQ (g τ') (4294967296 * d) ∧ NearQ (τ' - τ) (4294967296 * d) := by
  obtain ⟨off, line⟩ := next_line E hp h
  obtain ⟨σ, z, s1, z1, l⟩ := line τ hτ
  have hs : ivRight (F t).2 = true := s1.1
  have d0 : 0 ≤ d := by grind
  -- the line's zero is near
  have hz : NearQ (τ - z) (131072 * d) := by
    have hb : NearQ (σ * (τ - z)) (2 * d) := by unfold NearQ at *; grind
    unfold NearQ at hb ⊢
    rcases off_side off with k | k
    · have k1 := k σ s1
      by_cases hc : 0 ≤ τ - z
      · have := Rat.mul_le_mul_of_nonneg_right k1 hc
        grind
      · have := Rat.mul_le_mul_of_nonneg_right k1 (show 0 ≤ -(τ - z) by grind)
        grind
    · have k1 := k σ s1
      by_cases hc : 0 ≤ τ - z
      · have := Rat.mul_le_mul_of_nonneg_right (show 1 / 65536 ≤ -σ by grind) hc
        grind
      · have := Rat.mul_le_mul_of_nonneg_right (show 1 / 65536 ≤ -σ by grind) (show 0 ≤ -(τ - z) by grind)
        grind
  -- a place of the next interval between
  have hcl : ∃ τ', InQ τ' (ivMeet t (nNext F t)) ∧ NearQ (τ' - τ) (131072 * d) := by
    obtain ⟨ht, hn, -, hle⟩ := meet_parts hm
    obtain ⟨-, z2, z3⟩ := z1
    obtain ⟨-, t2, t3⟩ := hτ
    have bn := right_bd hn
    by_cases k1 : τ * 65536 < ((nNext F t).lo : Rat)
    · have c1 : t.lo ≤ (nNext F t).lo := le_of_cast (by grind)
      refine ⟨((nNext F t).lo : Rat) / 65536, inq_meet (inq_point ht c1 (by omega)) (inq_point hn (Int.le_refl _) bn.2.2) hm, ?_⟩
      unfold NearQ at hz ⊢
      grind
    · by_cases k2 : ((nNext F t).hi : Rat) < τ * 65536
      · have c1 : (nNext F t).hi ≤ t.hi := le_of_cast (by grind)
        refine ⟨((nNext F t).hi : Rat) / 65536, inq_meet (inq_point ht (by omega) c1) (inq_point hn bn.2.2 (Int.le_refl _)) hm, ?_⟩
        unfold NearQ at hz ⊢
        grind
      · refine ⟨τ, inq_meet ⟨ht, t2, t3⟩ ⟨hn, by grind, by grind⟩ hm, ?_⟩
        unfold NearQ
        grind
  obtain ⟨τ', i1, i2⟩ := hcl
  have i3 := inq_part (meet_part hm) i1
  obtain ⟨ρ, r1, r2⟩ := E.slope t τ' τ hp i3 hτ hs
  have r3 := near_mul (inq_bound r1) i2
  refine ⟨τ', i1, ?_, ?_⟩
  · unfold NearQ at *
    grind
  · unfold NearQ at *
    grind
/-- A half that surely has none has none that is nearly nothing. -/
theorem out_far {F : Enc} {T t : Iv} {g : Rat → Rat} {e d τ : Rat} (E : Encl F T g e) (hp : Part t T) (ho : nOut F t = true) (hτ : InQ τ t) (hg : NearQ (g τ) d) (hd : d < 1 / 65536) : False := by
  unfold nOut at ho
  rw [Bool.and_eq_true] at ho
  obtain ⟨h1, h2⟩ := ho
  have hv := E.val t τ hp hτ h1
  have off : ¬ ((F t).1.lo ≤ 0 ∧ 0 ≤ (F t).1.hi) := by
    rw [has_zero h1] at h2
    intro hh
    simp [hh] at h2
  unfold NearQ at hg
  rcases off_side off with k | k
  · have := k _ hv
    grind
  · have := k _ hv
    grind
theorem step_half {F : Enc} {T t : Iv} {g : Rat → Rat} {e d τ : Rat} (E : Encl F T g e) (hp : Part t T) (hr : ivRight (nHalf F t) = true) (hτ : InQ τ t) (hg : NearQ (g τ) d) (hd : d < 1 / 65536) :
    InQ τ (nHalf F t) ∧ Part (nHalf F t) t := by
  obtain ⟨e1, p1, p2, -⟩ := split_form hp.1
  have side : InQ τ (ivSplit t).1 ∨ InQ τ (ivSplit t).2 := by
    rw [e1]
    by_cases k : τ * 65536 ≤ (ivMid t : Rat)
    · exact .inl ⟨p1.1, hτ.2.1, k⟩
    · exact .inr ⟨p2.1, by dsimp only; grind, hτ.2.2⟩
  have q1 : Part (ivSplit t).1 t := by rw [e1]; exact p1
  have q2 : Part (ivSplit t).2 t := by rw [e1]; exact p2
  cases h1 : nOut F (ivSplit t).1
  · cases h2 : nOut F (ivSplit t).2
    · rw [half_none h1 h2] at hr; cases hr
    · rw [half_no h1 h2]
      refine ⟨?_, q1⟩
      rcases side with h | h
      · exact h
      · exact (out_far E (part_trans q2 hp) h2 h hg hd).elim
  · rw [half_yes h1]
    refine ⟨?_, q2⟩
    rcases side with h | h
    · exact (out_far E (part_trans q1 hp) h1 h hg hd).elim
    · exact h
/-- How much a place may be moved in so many rounds. -/
def drift : Nat → Rat
  | 0 => 1
  | k + 1 => 8589934592 * drift k
theorem drift_one : ∀ k, 1 ≤ drift k
  | 0 => by unfold drift; grind
  | k + 1 => by have := drift_one k; unfold drift; grind
theorem near_le {x d D : Rat} (h : NearQ x d) (k : d ≤ D) : NearQ x D := by unfold NearQ at *; grind
/-- What is nearly nothing is not thrown away, but for a little. -/
theorem loop_keep {F : Enc} {T : Iv} {g : Rat → Rat} {e : Rat} (E : Encl F T g e) (he : 0 ≤ e) : ∀ (k : Nat) (y : Bool) (t b : Iv) (d τ : Rat), Part t T → nLoop F k y t = (b, 1) → InQ τ t → NearQ (g τ) d → e ≤ d → drift k * d < 1 / 65536 →
    ∃ τ', InQ τ' b ∧ NearQ (g τ') (drift k * d) ∧ NearQ (τ' - τ) (drift k * d)
  | 0, y, t, b, d, τ, hp, hl, hτ, hg, hed, hd => by
    unfold nLoop nEnd at hl
    have hb : t = b := by
      cases y
      · simp at hl
      · simp at hl; exact hl
    subst hb
    refine ⟨τ, hτ, ?_, ?_⟩ <;> unfold drift NearQ at * <;> grind
  | k + 1, y, t, b, d, τ, hp, hl, hτ, hg, hed, hd => by
    have hk := drift_one k
    have d0 : 0 ≤ d := by grind
    have hkd : d ≤ drift k * d := by
      have := Rat.mul_le_mul_of_nonneg_right hk d0
      grind
    have hD : drift (k + 1) * d = 8589934592 * (drift k * d) := by
      show 8589934592 * drift k * d = _
      rw [Rat.mul_assoc]
    cases hn : ivRight (nNext F t)
    · cases hh : ivRight (nHalf F t)
      · rw [(loop_none (k := k) (y := y) hn hh).1] at hl; simp at hl
      · rw [(loop_half (k := k) (y := y) hn hh).1] at hl
        obtain ⟨i1, i2⟩ := step_half E hp hh hτ hg (by grind)
        obtain ⟨τ', j1, j2, j3⟩ := loop_keep E he k y _ b d τ (part_trans i2 hp) hl i1 hg hed (by grind)
        exact ⟨τ', j1, near_le j2 (by grind), near_le j3 (by grind)⟩
    · cases hu : ivRight (ivMeet t (nNext F t))
      · rw [(loop_no (k := k) (y := y) hn hu).1] at hl; simp at hl
      · by_cases hx : ivMeet t (nNext F t) = t
        · rw [(loop_end (k := k) (y := y) hn hu hx).1] at hl
          unfold nEnd at hl
          have hb : t = b := by
            split at hl
            · simp at hl; exact hl
            · simp at hl
          subst hb
          refine ⟨τ, hτ, near_le hg (by grind), ?_⟩
          unfold NearQ
          grind
        · rw [(loop_on (k := k) (y := y) hn hu hx).1] at hl
          obtain ⟨τ1, i1, i2, i3⟩ := step_meet E hp hn hu hτ hg he hed
          have hm : drift k * (4294967296 * d) = 4294967296 * (drift k * d) := by grind
          obtain ⟨τ', j1, j2, j3⟩ := loop_keep E he k _ _ b (4294967296 * d) τ1 (part_trans (meet_part hu) hp) hl i1 i2 (by grind) (by grind)
          refine ⟨τ', j1, near_le j2 (by grind), ?_⟩
          unfold NearQ at *
          grind
/-- What is below nothing at one end and above it at the other is nearly nothing somewhere between. -/
theorem cross {t : Iv} {h : Rat → Rat} {e d : Rat} (ht : ivRight t = true) (lip : ∀ τ μ, InQ τ t → InQ μ t → μ ≤ τ → NearQ (h τ - h μ) (16384 * (τ - μ) + e)) (h0 : h ((t.lo : Rat) / 65536) ≤ 0) (h1 : 0 ≤ h ((t.hi : Rat) / 65536)) (hd : 0 < d) (he : e ≤ d / 2) :
    ∃ τ, InQ τ t ∧ NearQ (h τ) d := by
  have hb := right_bd ht
  have b1 := cast_le hb.1.1
  have b2 := cast_le hb.2.1.2
  have b3 := cast_le hb.2.2
  simp at b1 b2
  generalize hlo : (t.lo : Rat) = lo at *
  generalize hhi : (t.hi : Rat) = hi at *
  -- so many parts
  obtain ⟨n, hn0, hn⟩ : ∃ n : Nat, 0 < n ∧ 16384 * 32768 * 2 ≤ d * (n : Rat) := by
    have f := Rat.lt_floor_add_one (16384 * 32768 * 2 / d)
    have f0 : 0 ≤ (16384 * 32768 * 2 / d).floor := Rat.le_floor_iff.2 (by
      simp
      have : 0 ≤ 16384 * 32768 * 2 / d := by
        refine le_of_mul_pos hd ?_
        have : 16384 * 32768 * 2 / d * d = 16384 * 32768 * 2 := by grind
        grind
      exact this)
    refine ⟨((16384 * 32768 * 2 / d).floor + 1).toNat, by omega, ?_⟩
    have e1 : ((((16384 * 32768 * 2 / d).floor + 1).toNat : Nat) : Rat) = (((16384 * 32768 * 2 / d).floor + 1 : Int) : Rat) := by
      have : ((((16384 * 32768 * 2 / d).floor + 1).toNat : Nat) : Int) = (16384 * 32768 * 2 / d).floor + 1 := by omega
      rw [← this]
      rfl
    rw [e1]
    have e2 : 16384 * 32768 * 2 / d * d = 16384 * 32768 * 2 := by grind
    have := Rat.mul_le_mul_of_nonneg_left (Rat.le_of_lt f) (Rat.le_of_lt hd)
    grind
  have hN : (0 : Rat) < (n : Rat) := by
    have := cast_le (show (1 : Int) ≤ (n : Int) by omega)
    have e3 : (((n : Nat) : Int) : Rat) = (n : Rat) := rfl
    rw [e3] at this
    simp at this
    grind
  generalize hq : (n : Rat) = N at *
  have inv : N * N⁻¹ = 1 := by grind
  have inv0 : 0 < N⁻¹ := by
    by_cases c : 0 < N⁻¹
    · exact c
    · have := Rat.mul_nonneg (Rat.le_of_lt hN) (show 0 ≤ -(N⁻¹) by grind)
      grind
  have small : 16384 * (32768 * N⁻¹) ≤ d / 2 := by
    have := Rat.mul_le_mul_of_nonneg_right hn (Rat.le_of_lt inv0)
    grind
  have w0 : 0 ≤ hi - lo := by grind
  have w1 : hi - lo ≤ 2147483648 := by grind
  -- the places
  have hin : ∀ i : Nat, (i : Rat) ≤ N → 0 ≤ (i : Rat) → InQ ((lo + (hi - lo) * ((i : Rat) * N⁻¹)) / 65536) t := by
    intro i hi1 hi0
    have f0 : 0 ≤ (i : Rat) * N⁻¹ := Rat.mul_nonneg hi0 (Rat.le_of_lt inv0)
    have f1 : (i : Rat) * N⁻¹ ≤ 1 := by
      have := Rat.mul_le_mul_of_nonneg_right hi1 (Rat.le_of_lt inv0)
      grind
    have g0 := Rat.mul_nonneg w0 f0
    have g1 := Rat.mul_le_mul_of_nonneg_left f1 w0
    refine ⟨ht, ?_, ?_⟩
    · rw [hlo]; grind
    · rw [hhi]; grind
  have cast0 : ((0 : Nat) : Rat) = 0 := rfl
  have casts : ∀ i : Nat, ((i + 1 : Nat) : Rat) = (i : Rat) + 1 := fun i => by
    have : (((i + 1 : Nat) : Int) : Rat) = ((i : Int) : Rat) + ((1 : Int) : Rat) := by rw [← Rat.intCast_add]; rfl
    exact this
  have nn : ∀ i : Nat, 0 ≤ (i : Rat) := fun i => by
    have := cast_le (show (0 : Int) ≤ (i : Int) by omega)
    exact this
  have find : ∀ i : Nat, (i : Rat) ≤ N → 0 ≤ h ((lo + (hi - lo) * ((i : Rat) * N⁻¹)) / 65536) → ∃ τ, InQ τ t ∧ NearQ (h τ) d := by
    intro i
    induction i with
    | zero =>
      intro c1 c2
      refine ⟨_, hin 0 c1 (nn 0), ?_⟩
      have e4 : (lo + (hi - lo) * (((0 : Nat) : Rat) * N⁻¹)) / 65536 = lo / 65536 := by rw [cast0]; grind
      rw [e4] at c2 ⊢
      unfold NearQ
      grind
    | succ i ih =>
      intro c1 c2
      have c3 : (i : Rat) ≤ N := by rw [casts] at c1; grind
      by_cases c4 : 0 ≤ h ((lo + (hi - lo) * ((i : Rat) * N⁻¹)) / 65536)
      · exact ih c3 c4
      · have e5 : (lo + (hi - lo) * (((i + 1 : Nat) : Rat) * N⁻¹)) / 65536 - (lo + (hi - lo) * ((i : Rat) * N⁻¹)) / 65536 = (hi - lo) * N⁻¹ / 65536 := by rw [casts]; grind
        have g2 := Rat.mul_nonneg w0 (Rat.le_of_lt inv0)
        have g3 := Rat.mul_le_mul_of_nonneg_right w1 (Rat.le_of_lt inv0)
        have l := lip _ _ (hin (i + 1) c1 (nn _)) (hin i c3 (nn _)) (by grind)
        rw [e5] at l
        refine ⟨_, hin (i + 1) c1 (nn _), ?_⟩
        unfold NearQ at l ⊢
        grind
  have last : (lo + (hi - lo) * ((n : Rat) * N⁻¹)) / 65536 = hi / 65536 := by rw [hq, inv]; grind
  exact find n (by rw [hq]; exact Rat.le_refl) (by rw [last]; exact h1)
/-- Where the next place lies well within there is one that is nearly nothing. -/
theorem sure_zero {F : Enc} {T t : Iv} {g : Rat → Rat} {e d : Rat} (E : Encl F T g e) (hp : Part t T) (h : ivRight (nNext F t) = true) (hs : nSure F t = true) (hd : 0 < d) (hed : e ≤ d / 2) (he : e ≤ 1 / 4294967296) :
    ∃ τ, InQ τ t ∧ NearQ (g τ) d := by
  obtain ⟨off, line⟩ := next_line E hp h
  have hr := hp.1
  have b := right_bd hr
  unfold nSure at hs
  rw [Bool.and_eq_true, decide_eq_true_eq, decide_eq_true_eq] at hs
  obtain ⟨c1, c2⟩ := hs
  have k1 := cast_le (show t.lo + 1 ≤ (nNext F t).lo by omega)
  have k2 := cast_le (show (nNext F t).hi + 1 ≤ t.hi by omega)
  rw [Rat.intCast_add] at k1 k2
  simp at k1 k2
  have ilo : InQ ((t.lo : Rat) / 65536) t := inq_point hr (Int.le_refl _) b.2.2
  have ihi : InQ ((t.hi : Rat) / 65536) t := inq_point hr b.2.2 (Int.le_refl _)
  obtain ⟨σ1, z1, s1, a1, l1⟩ := line _ ilo
  obtain ⟨σ2, z2, s2, a2, l2⟩ := line _ ihi
  have hss : ivRight (F t).2 = true := s1.1
  have m1 : 1 / 65536 ≤ z1 - (t.lo : Rat) / 65536 := by have := a1.2.1; grind
  have m2 : 1 / 65536 ≤ (t.hi : Rat) / 65536 - z2 := by have := a2.2.2; grind
  have lip : ∀ τ μ, InQ τ t → InQ μ t → μ ≤ τ → NearQ (g τ - g μ) (16384 * (τ - μ) + e) := by
    intro τ μ h1 h2 h3
    obtain ⟨ρ, r1, r2⟩ := E.slope t τ μ hp h1 h2 hss
    have r3 := near_mul (inq_bound r1) (y := τ - μ) (D := τ - μ) (by unfold NearQ; grind)
    unfold NearQ at *
    grind
  generalize hlo : (t.lo : Rat) / 65536 = lo at *
  generalize hhi : (t.hi : Rat) / 65536 = hi at *
  have pr : ∀ x y : Rat, 1 / 65536 ≤ x → 1 / 65536 ≤ y → 1 / 4294967296 ≤ x * y := by
    intro x y hx hy
    have := Rat.mul_le_mul_of_nonneg_left hy (show 0 ≤ x by grind)
    grind
  rcases off_side off with k | k
  · have f1 := pr _ _ (k _ s1) m1
    have f2 := pr _ _ (k _ s2) m2
    have g0 : g lo ≤ 0 := by unfold NearQ at l1; grind
    have g1 : 0 ≤ g hi := by unfold NearQ at l2; grind
    exact cross hr lip (by rw [hlo]; exact g0) (by rw [hhi]; exact g1) hd hed
  · have f1 := pr (-σ1) _ (by have := k _ s1; grind) m1
    have f2 := pr (-σ2) _ (by have := k _ s2; grind) m2
    have g0 : -g lo ≤ 0 := by unfold NearQ at l1; grind
    have g1 : 0 ≤ -g hi := by unfold NearQ at l2; grind
    obtain ⟨τ, i1, i2⟩ := cross (h := fun τ => -g τ) hr (fun τ μ h1 h2 h3 => by have := lip τ μ h1 h2 h3; unfold NearQ at *; grind) (by rw [hlo]; exact g0) (by rw [hhi]; exact g1) hd hed
    refine ⟨τ, i1, ?_⟩
    unfold NearQ at *
    grind
/-- What newton.Solve is sure of is there. -/
theorem loop_sure {F : Enc} {T : Iv} {g : Rat → Rat} {e d : Rat} (E : Encl F T g e) (he : 0 ≤ e) (hd : 0 < d) (hed : e ≤ d / 2) (he2 : e ≤ 1 / 4294967296) : ∀ (k : Nat) (t b : Iv), Part t T → nLoop F k false t = (b, 1) → drift k * d < 1 / 65536 → ∃ τ, InQ τ b ∧ NearQ (g τ) (drift k * d)
  | 0, t, b, hp, hl, _ => by
    unfold nLoop nEnd at hl
    simp at hl
  | k + 1, t, b, hp, hl, hk => by
    have h1 := drift_one k
    have hD : drift (k + 1) * d = 8589934592 * (drift k * d) := by
      show 8589934592 * drift k * d = _
      rw [Rat.mul_assoc]
    have hkd : d ≤ drift k * d := by
      have := Rat.mul_le_mul_of_nonneg_right h1 (Rat.le_of_lt hd)
      grind
    cases hn : ivRight (nNext F t)
    · cases hh : ivRight (nHalf F t)
      · rw [(loop_none (k := k) (y := false) hn hh).1] at hl; simp at hl
      · rw [(loop_half (k := k) (y := false) hn hh).1] at hl
        have hpart : Part (nHalf F t) t := by
          obtain ⟨e1, p1, p2, -⟩ := split_form hp.1
          cases q1 : nOut F (ivSplit t).1
          · cases q2 : nOut F (ivSplit t).2
            · rw [half_none q1 q2] at hh; cases hh
            · rw [half_no q1 q2, e1]; exact p1
          · rw [half_yes q1, e1]; exact p2
        obtain ⟨τ, j1, j2⟩ := loop_sure E he hd hed he2 k _ b (part_trans hpart hp) hl (by grind)
        exact ⟨τ, j1, near_le j2 (by grind)⟩
    · cases hu : ivRight (ivMeet t (nNext F t))
      · rw [(loop_no (k := k) (y := false) hn hu).1] at hl; simp at hl
      · have zero : nSure F t = true → ∃ τ, InQ τ t ∧ NearQ (g τ) d := fun hs => sure_zero E hp hn hs hd hed he2
        by_cases hx : ivMeet t (nNext F t) = t
        · rw [(loop_end (k := k) (y := false) hn hu hx).1] at hl
          unfold nEnd at hl
          cases hs : nSure F t
          · rw [hs] at hl; simp at hl
          · rw [hs] at hl
            simp at hl
            subst hl
            obtain ⟨τ, i1, i2⟩ := zero hs
            exact ⟨τ, i1, near_le i2 (by grind)⟩
        · rw [(loop_on (k := k) (y := false) hn hu hx).1] at hl
          cases hs : nSure F t
          · rw [hs] at hl
            obtain ⟨τ, j1, j2⟩ := loop_sure E he hd hed he2 k _ b (part_trans (meet_part hu) hp) hl (by grind)
            exact ⟨τ, j1, near_le j2 (by grind)⟩
          · rw [hs] at hl
            obtain ⟨τ, i1, i2⟩ := zero hs
            obtain ⟨τ1, j1, j2, -⟩ := step_meet E hp hn hu i1 i2 he (by grind)
            obtain ⟨τ2, m1, m2, -⟩ := loop_keep E he k _ _ b (4294967296 * d) τ1 (part_trans (meet_part hu) hp) hl j1 j2 (by grind) (by grind)
            exact ⟨τ2, m1, near_le m2 (by grind)⟩
end Go.Proofs.YtggohceeeggnmaaGreat

namespace Go.Proofs.YtggohceeeggnmaaGreat
set_option linter.unusedVariables false

theorem hitV_rights {s : Sf} {a b e : Iv} (h : ivRight (hitV s a b e) = true) : (ivRight s.curve = true ∧ ivRight s.conic = true) ∧ ivRight a = true ∧ ivRight b = true ∧ ivRight e = true := by
  unfold hitV at h
  obtain ⟨h1, h2⟩ := rights_mul h
  obtain ⟨h3, h4⟩ := rights_add h2
  obtain ⟨h5, h6⟩ := rights_add h3
  obtain ⟨h7, h8⟩ := rights_mul h4
  exact ⟨⟨h1, h7⟩, h5, h6, h8⟩
theorem inq_hitV {s : Sf} {a b e : Iv} {c k X Y Z : Rat} (hc : InQ c s.curve) (hk : InQ k s.conic) (hX : InQ X a) (hY : InQ Y b) (hZ : InQ Z e) (h : ivRight (hitV s a b e) = true) : InQ (c * ((X + Y) + k * Z)) (hitV s a b e) := by
  unfold hitV at h ⊢
  have h2 := (rights_mul h).2
  obtain ⟨h3, h4⟩ := rights_add h2
  exact inq_mul hc (inq_add (inq_add hX hY h3) (inq_mul hk hZ h4) h2) h
theorem oneI_form : oneI = ⟨65536, 65536, false⟩ := by decide
theorem inq_one : InQ 1 oneI := by
  rw [oneI_form]
  refine ⟨by decide, ?_, ?_⟩ <;> simp
/-- The face's depth at a place that lies beyond it, or short of it (G's sign), beside the place. -/
theorem depth_side {c k r2 pz s G F X : Rat} (hG : G = c * (r2 + k * (pz * pz)) - 2 * pz) (hF : F = 1 - c * k * pz) (hX : X = 1 - k * (c * c) * r2) (hF0 : 0 < F) (hs : 0 ≤ s) :
    (F + s) * (c * r2 - pz * (1 + s)) = G * (1 + s) + pz * (X - s * s) := by
  subst hG hF hX
  grind
theorem depth_ge {c k r2 pz s G F X Z : Rat} (hG : G = c * (r2 + k * (pz * pz)) - 2 * pz) (hF : F = 1 - c * k * pz) (hX : X = 1 - k * (c * c) * r2) (hF0 : 0 < F) (hs : 0 ≤ s) (hZ : Z * (1 + s) = c * r2) (h : 0 ≤ G) (hside : 0 ≤ pz * (X - s * s)) : pz ≤ Z := by
  have e := depth_side hG hF hX hF0 hs
  have h1 : 0 ≤ G * (1 + s) := Rat.mul_nonneg h (by grind)
  have h2 : 0 ≤ c * r2 - pz * (1 + s) := by
    refine le_of_mul_pos (y := F + s) (by grind) ?_
    grind
  refine le_of_mul_pos (y := 1 + s) (by grind) ?_
  rw [hZ]
  grind
theorem depth_le {c k r2 pz s G F X Z : Rat} (hG : G = c * (r2 + k * (pz * pz)) - 2 * pz) (hF : F = 1 - c * k * pz) (hX : X = 1 - k * (c * c) * r2) (hF0 : 0 < F) (hs : 0 ≤ s) (hZ : Z * (1 + s) = c * r2) (h : G ≤ 0) (hside : pz * (X - s * s) ≤ 0) : Z ≤ pz := by
  have e := depth_side hG hF hX hF0 hs
  have h1 : 0 ≤ (-G) * (1 + s) := Rat.mul_nonneg (by grind) (by grind)
  have h2 : c * r2 - pz * (1 + s) ≤ 0 := by
    refine le_of_mul_pos (y := F + s) (by grind) ?_
    grind
  refine le_of_mul_pos (y := 1 + s) (by grind) ?_
  rw [hZ]
  grind
theorem sag_parts {s : Sf} {r : Iv} (hb : s.bent = false) (h : ivRight (sagZ s r) = true) : sagZ s r = sagZ0 s r ∧ ivRight (sagZ0 s r) = true := by
  unfold sagZ at h ⊢
  split at h
  · rename_i hk
    have e : sagZt s r = sagZ0 s r := by unfold sagZt; rw [hb]; rfl
    rw [if_pos hk, e]
    rw [e] at h
    exact ⟨rfl, h⟩
  · rw [right_none] at h; cases h
/-- Numbers of the root of X: one whose square is X or below, one whose square is X or above. -/
theorem root_both {X : Rat} {a : Iv} (hX : InQ X a) (h : ivRight (ivRoot a) = true) : ∃ s1 s2 : Rat, (InQ s1 (ivRoot a) ∧ 0 ≤ s1 ∧ s1 * s1 ≤ X) ∧ (InQ s2 (ivRoot a) ∧ 0 ≤ s2 ∧ X ≤ s2 * s2) := by
  have h0 := cast_le (root_ends h).1
  have hb := cast_le (right_bd hX.1).2.1.2
  have x0 : 0 ≤ X := by have := hX.2.1; simp at h0; grind
  have x1 : X ≤ 16384 := by have := hX.2.2; simp at hb; grind
  obtain ⟨S, s0, e1, e2⟩ := root_steps x0 x1
  obtain ⟨k1, k2⟩ := inq_root hX h s0 e1 e2
  have c0 := cast_le s0
  simp at c0
  have l1 : 0 ≤ (S : Rat) / 65536 := by grind
  have l2 : (S : Rat) / 65536 * ((S : Rat) / 65536) ≤ X := by grind
  by_cases he : (S : Rat) * (S : Rat) = X * 65536 * 65536
  · exact ⟨_, _, ⟨k1, l1, l2⟩, k1, l1, by grind⟩
  · exact ⟨_, _, ⟨k1, l1, l2⟩, k2 he, by grind, by grind⟩
theorem depth_in {s : Sf} {R : Iv} {c k r2 pz G F : Rat} (hb : s.bent = false) (h : ivRight (sagZ s R) = true) (hc : InQ c s.curve) (hk : InQ k s.conic) (hr : InQ r2 R)
    (hG : G = c * (r2 + k * (pz * pz)) - 2 * pz) (hF : F = 1 - c * k * pz) (hF0 : 0 < F) : (0 ≤ G → ∃ Z, InQ Z (sagZ s R) ∧ pz ≤ Z) ∧ (G ≤ 0 → ∃ Z, InQ Z (sagZ s R) ∧ Z ≤ pz) := by
  obtain ⟨e, h0⟩ := sag_parts hb h
  rw [e]
  unfold sagZ0 at h0 ⊢
  obtain ⟨hm, ha⟩ := both_iff.1 (div_right h0).1
  have hq := (rights_add ha).2
  unfold sagQ at hq ha h0 ⊢
  have hs := rights_root hq
  have hm1 := (sub_ends hs).1.2
  have hm2 := (rights_mul hm1).1
  have hsq := (rights_mul hm2).2
  have hX : InQ (1 - k * (c * c) * r2) (ivSub oneI (ivMul (ivMul s.conic (ivSqr s.curve)) R)) := inq_sub inq_one (inq_mul (inq_mul hk (inq_sqr hc hsq) hm2) hr hm1) hs
  obtain ⟨s1, s2, ⟨a1, a2, a3⟩, b1, b2, b3⟩ := root_both hX hq
  have way : ∀ σ, InQ σ (ivRoot (ivSub oneI (ivMul (ivMul s.conic (ivSqr s.curve)) R))) → InQ (c * r2 / (1 + σ)) (ivDiv (ivMul s.curve R) (ivAdd oneI (ivRoot (ivSub oneI (ivMul (ivMul s.conic (ivSqr s.curve)) R))))) ∧ c * r2 / (1 + σ) * (1 + σ) = c * r2 := fun σ hσ => inq_quot (inq_mul hc hr hm) (inq_add inq_one hσ ha) h0
  obtain ⟨w1, v1⟩ := way s1 a1
  obtain ⟨w2, v2⟩ := way s2 b1
  constructor
  · intro g
    by_cases hp : 0 ≤ pz
    · exact ⟨_, w1, depth_ge hG hF rfl hF0 a2 v1 g (Rat.mul_nonneg hp (by grind))⟩
    · refine ⟨_, w2, depth_ge hG hF rfl hF0 b2 v2 g ?_⟩
      have := Rat.mul_nonneg (show 0 ≤ -pz by grind) (show 0 ≤ s2 * s2 - (1 - k * (c * c) * r2) by grind)
      grind
  · intro g
    by_cases hp : 0 ≤ pz
    · refine ⟨_, w2, depth_le hG hF rfl hF0 b2 v2 g ?_⟩
      have := Rat.mul_nonneg hp (show 0 ≤ s2 * s2 - (1 - k * (c * c) * r2) by grind)
      grind
    · refine ⟨_, w1, depth_le hG hF rfl hF0 a2 v1 g ?_⟩
      have := Rat.mul_nonneg (show 0 ≤ -pz by grind) (show 0 ≤ (1 - k * (c * c) * r2) - s1 * s1 by grind)
      grind
/-- On both sides of a root that is told. -/
theorem near_sides {A B C : Rat} {a b c : Iv} (hA : InQ A a) (hB : InQ B b) (hC : InQ C c) (h : qIs a b c = 1) :
    ∃ t1 t2 : Rat, (InQ t1 (qNear a b c) ∧ A * (t1 * t1) + 2 * B * t1 + C ≤ 0) ∧ (InQ t2 (qNear a b c) ∧ 0 ≤ A * (t2 * t2) + 2 * B * t2 + C) := by
  rcases quad_cases a b c with ⟨-, e, hr, hd, -⟩ | ⟨e, -⟩ | ⟨e, -⟩
  · rw [e]
    unfold qRoot at hr ⊢
    have hs := (both_iff.1 (div_right hr).1).2
    have hq := (sub_ends hs).1.1
    unfold qDet at hd hq hs hr ⊢
    have hsq := (sub_ends hd).1.1
    have hm := (sub_ends hd).1.2
    have hD : InQ (B * B - A * C) (ivSub (ivSqr b) (ivMul a c)) := inq_sub (inq_sqr hB hsq) (inq_mul hA hC hm) hd
    obtain ⟨s1, s2, ⟨a1, a2, a3⟩, b1, b2, b3⟩ := root_both hD hq
    obtain ⟨w1, v1⟩ := inq_quot hC (inq_sub a1 hB hs) hr
    obtain ⟨w2, v2⟩ := inq_quot hC (inq_sub b1 hB hs) hr
    generalize C / (s1 - B) = t1 at *
    generalize C / (s2 - B) = t2 at *
    have g : ∀ t σ : Rat, t * (σ - B) = C → (A * (t * t) + 2 * B * t + C) * ((σ - B) * (σ - B)) = C * (σ * σ - (B * B - A * C)) := by
      intro t σ ht
      subst ht
      grind
    have n1 := off_ne (inq_sub a1 hB hs) hr
    have n2 := off_ne (inq_sub b1 hB hs) hr
    have pos : ∀ y : Rat, ¬ y = 0 → 0 < y * y := by
      intro y hy
      have h1 := sq_nonneg_q y
      have h2 : ¬ y * y = 0 := by grind
      grind
    have p1 := pos _ n1
    have p2 := pos _ n2
    have g1 := g t1 s1 v1
    have g2 := g t2 s2 v2
    by_cases hc : 0 ≤ C
    · have m1 := Rat.mul_nonneg hc (show 0 ≤ (B * B - A * C) - s1 * s1 by grind)
      have m2 := Rat.mul_nonneg hc (show 0 ≤ s2 * s2 - (B * B - A * C) by grind)
      exact ⟨t1, t2, ⟨w1, le_of_mul_pos p1 (by rw [g1]; grind)⟩, w2, le_of_mul_pos p2 (by rw [g2]; grind)⟩
    · have m1 := Rat.mul_nonneg (show 0 ≤ -C by grind) (show 0 ≤ (B * B - A * C) - s1 * s1 by grind)
      have m2 := Rat.mul_nonneg (show 0 ≤ -C by grind) (show 0 ≤ s2 * s2 - (B * B - A * C) by grind)
      exact ⟨t2, t1, ⟨w2, le_of_mul_pos p2 (by rw [g2]; grind)⟩, w1, le_of_mul_pos p1 (by rw [g1]; grind)⟩
  · rw [e] at h; cases h
  · rw [e] at h; cases h
/-- Where a ray meets a face that is not bent, ahead of its widest, the face is. -/
theorem hitOn_flat {s : Sf} {r : Wy} (hb : s.bent = false) (hI : hitI0 s r = 1) (hP : plRight (plAlong r (hitT0 s r)) = true) (hz : ivRight (sagZ s (hitR2 (plAlong r (hitT0 s r)))) = true)
    (hf : ivRight (ivSub oneI (ivMul s.curve (ivMul s.conic (plAlong r (hitT0 s r)).z))) = true) (hf0 : 0 < (ivSub oneI (ivMul s.curve (ivMul s.conic (plAlong r (hitT0 s r)).z))).lo) :
    ivRight (ivMeet (sagZ s (hitR2 (plAlong r (hitT0 s r)))) (plAlong r (hitT0 s r)).z) = true := by
  have hqr : ivRight (hitA s r) = true ∧ ivRight (hitB s r) = true ∧ ivRight (hitC s r) = true := by
    rcases quad_cases (hitA s r) (hitB s r) (hitC s r) with ⟨-, -, -, hd, -⟩ | ⟨e, -⟩ | ⟨e, -⟩
    · unfold qDet at hd
      obtain ⟨h1, h2⟩ := (sub_ends hd).1
      exact ⟨(rights_mul h2).1, rights_sqr h1, (rights_mul h2).2⟩
    · unfold hitI0 at hI; rw [e] at hI; cases hI
    · unfold hitI0 at hI; rw [e] at hI; cases hI
  obtain ⟨rA, rB, rC⟩ := hqr
  obtain ⟨⟨rc, rk⟩, ra1, ra2, ra3⟩ := hitV_rights (s := s) (a := ivSqr r.d.x) (b := ivSqr r.d.y) (e := ivSqr r.d.z) rA
  have rB' := (sub_ends rB).1
  have rC' := (sub_ends rC).1
  obtain ⟨-, rb1, rb2, rb3⟩ := hitV_rights rB'.1
  obtain ⟨-, rc1, rc2, rc3⟩ := hitV_rights rC'.1
  obtain ⟨ro1, rd1⟩ := rights_mul rb1
  obtain ⟨ro2, rd2⟩ := rights_mul rb2
  obtain ⟨ro3, rd3⟩ := rights_mul rb3
  have hc := inq_lo rc
  have hk := inq_lo rk
  have hx := inq_lo ro1
  have hy := inq_lo ro2
  have hz' := inq_lo ro3
  have hu := inq_lo rd1
  have hv := inq_lo rd2
  have hw := inq_lo rd3
  generalize (s.curve.lo : Rat) / 65536 = c at *
  generalize (s.conic.lo : Rat) / 65536 = k at *
  generalize (r.o.x.lo : Rat) / 65536 = x at *
  generalize (r.o.y.lo : Rat) / 65536 = y at *
  generalize (r.o.z.lo : Rat) / 65536 = z at *
  generalize (r.d.x.lo : Rat) / 65536 = u at *
  generalize (r.d.y.lo : Rat) / 65536 = v at *
  generalize (r.d.z.lo : Rat) / 65536 = w at *
  have iA : InQ (c * ((u * u + v * v) + k * (w * w))) (hitA s r) := inq_hitV hc hk (inq_sqr hu ra1) (inq_sqr hv ra2) (inq_sqr hw ra3) rA
  have iB : InQ (c * ((x * u + y * v) + k * (z * w)) - w) (hitB s r) := inq_sub (inq_hitV hc hk (inq_mul hx hu rb1) (inq_mul hy hv rb2) (inq_mul hz' hw rb3) rB'.1) hw rB
  have iC : InQ (c * ((x * x + y * y) + k * (z * z)) - ((2 : Int) : Rat) * z) (hitC s r) := inq_sub (inq_hitV hc hk (inq_sqr hx rc1) (inq_sqr hy rc2) (inq_sqr hz' rc3) rC'.1) (inq_times hz' rC'.2) rC
  obtain ⟨t1, t2, ⟨i1, g1⟩, i2, g2⟩ := near_sides iA iB iC hI
  change InQ t1 (hitT0 s r) at i1
  change InQ t2 (hitT0 s r) at i2
  generalize hitT0 s r = T at *
  have hP' := plRight_iff.1 hP
  unfold PRight at hP'
  obtain ⟨q1, q2, q3⟩ := hP'
  have along : ∀ t, InQ t T → InQ (x + u * t) (plAlong r T).x ∧ InQ (y + v * t) (plAlong r T).y ∧ InQ (z + w * t) (plAlong r T).z := fun t ht =>
    ⟨inq_add hx (inq_mul hu ht (rights_add q1).2) q1, inq_add hy (inq_mul hv ht (rights_add q2).2) q2, inq_add hz' (inq_mul hw ht (rights_add q3).2) q3⟩
  generalize plAlong r T = P at *
  have hR2 : ivRight (hitR2 P) = true := by
    have h0 := (sag_parts hb hz).2
    unfold sagZ0 at h0
    exact (rights_mul (both_iff.1 (div_right h0).1).1).2
  have hr2 : ∀ px py : Rat, InQ px P.x → InQ py P.y → InQ (px * px + py * py) (hitR2 P) := fun px py h1 h2 => inq_add (inq_sqr h1 (rights_add hR2).1) (inq_sqr h2 (rights_add hR2).2) hR2
  have hck := (sub_ends hf).1.2
  have front : ∀ pz : Rat, InQ pz P.z → 0 < 1 - c * k * pz := by
    intro pz h1
    have h2 := inq_sub inq_one (inq_mul hc (inq_mul hk h1 (rights_mul hck).2) hck) hf
    have h3 := h2.2.1
    have h4 := cast_le (show (1 : Int) ≤ _ from hf0)
    simp at h4
    grind
  obtain ⟨l1, l2, l3⟩ := along t1 i1
  obtain ⟨m1, m2, m3⟩ := along t2 i2
  have D1 := depth_in hb hz hc hk (hr2 _ _ l1 l2) (pz := z + w * t1) rfl rfl (front _ l3)
  have D2 := depth_in hb hz hc hk (hr2 _ _ m1 m2) (pz := z + w * t2) rfl rfl (front _ m3)
  obtain ⟨Z1, z1, e1⟩ := D1.2 (by simp at g1; grind)
  obtain ⟨Z2, z2, e2⟩ := D2.1 (by simp at g2; grind)
  have a1 : (sagZ s (hitR2 P)).lo ≤ P.z.hi := le_of_cast (by have := z1.2.1; have := l3.2.2; grind)
  have a2 : P.z.lo ≤ (sagZ s (hitR2 P)).hi := le_of_cast (by have := z2.2.2; have := m3.2.1; grind)
  have b1 := right_bd hz
  have b2 := right_bd q3
  unfold ivMeet
  rw [both_iff.2 ⟨hz, q3⟩, if_pos rfl]
  exact right_of_of.2 (by omega)
end Go.Proofs.YtggohceeeggnmaaGreat

namespace Go.Proofs.YtggohceeeggnmaaGreat
set_option linter.unusedVariables false

/-! ### Roots of whatever fineness -/
def isqN : Nat → Nat
  | 0 => 0
  | n + 1 => if (isqN n + 1) * (isqN n + 1) ≤ n + 1 then isqN n + 1 else isqN n
theorem isqN_bd : ∀ n, isqN n * isqN n ≤ n ∧ n < (isqN n + 1) * (isqN n + 1)
  | 0 => by unfold isqN; omega
  | n + 1 => by
    obtain ⟨h1, h2⟩ := isqN_bd n
    unfold isqN
    split
    · rename_i h
      refine ⟨h, ?_⟩
      have : (isqN n + 1 + 1) * (isqN n + 1 + 1) = (isqN n + 1) * (isqN n + 1) + 2 * (isqN n + 1) + 1 := by grind
      omega
    · rename_i h
      omega
def rootQ (N : Nat) (X : Rat) : Rat := (isqN (X * (N : Rat) * (N : Rat)).floor.toNat : Rat) * (N : Rat)⁻¹
theorem natc (n : Nat) : ((n : Int) : Rat) = (n : Rat) := rfl
theorem rootQ_bd {N : Nat} {X : Rat} (hN : 0 < N) (h0 : 0 ≤ X) : 0 ≤ rootQ N X ∧ rootQ N X * rootQ N X ≤ X ∧ X ≤ (rootQ N X + (N : Rat)⁻¹) * (rootQ N X + (N : Rat)⁻¹) ∧ 0 < (N : Rat)⁻¹ ∧ (N : Rat) * (N : Rat)⁻¹ = 1 := by
  have n0 : (0 : Rat) < (N : Rat) := by
    have := cast_le (show (1 : Int) ≤ (N : Int) by omega)
    rw [natc] at this
    simp at this
    grind
  have inv : (N : Rat) * (N : Rat)⁻¹ = 1 := by grind
  have inv0 : 0 < (N : Rat)⁻¹ := by
    by_cases c : 0 < (N : Rat)⁻¹
    · exact c
    · have := Rat.mul_nonneg (Rat.le_of_lt n0) (show 0 ≤ -((N : Rat)⁻¹) by grind)
      grind
  have x0 : 0 ≤ X * (N : Rat) * (N : Rat) := Rat.mul_nonneg (Rat.mul_nonneg h0 (Rat.le_of_lt n0)) (Rat.le_of_lt n0)
  have f0 : 0 ≤ (X * (N : Rat) * (N : Rat)).floor := Rat.le_floor_iff.2 (by simp; exact x0)
  have f1 := Rat.floor_le (X * (N : Rat) * (N : Rat))
  have f2 := Rat.lt_floor_add_one (X * (N : Rat) * (N : Rat))
  unfold rootQ
  obtain ⟨m, hm⟩ : ∃ m : Nat, (X * (N : Rat) * (N : Rat)).floor = (m : Int) := ⟨_, (Int.toNat_of_nonneg f0).symm⟩
  rw [hm] at f1 f2 ⊢
  rw [show ((m : Int)).toNat = m from rfl]
  obtain ⟨i1, i2⟩ := isqN_bd m
  have j1 := cast_le (show ((isqN m : Nat) : Int) * (isqN m : Int) ≤ (m : Int) by exact_mod_cast i1)
  have j2 := cast_le (show (m : Int) + 1 ≤ ((isqN m : Nat) + 1 : Int) * ((isqN m : Int) + 1) by exact_mod_cast i2)
  have j0 := cast_le (show (0 : Int) ≤ (isqN m : Int) by omega)
  rw [Rat.intCast_mul] at j1 j2
  rw [Rat.intCast_add, Rat.intCast_add] at j2
  rw [Rat.intCast_add] at f2
  simp only [natc] at *
  simp at j0 j2 f2
  generalize (isqN m : Rat) = s at *
  generalize (m : Rat) = q at *
  generalize (N : Rat)⁻¹ = v at *
  generalize (N : Rat) = n at *
  have e0 : X * n * n * (v * v) = X * (n * v) * (n * v) := by grind
  rw [inv] at e0
  have e1 : s * v * (s * v) = s * s * (v * v) := by grind
  have e2 : (s * v + v) * (s * v + v) = (s + 1) * (s + 1) * (v * v) := by grind
  refine ⟨Rat.mul_nonneg j0 (Rat.le_of_lt inv0), ?_, ?_, inv0, inv⟩
  · have k := Rat.mul_le_mul_of_nonneg_right (show s * s ≤ X * n * n by grind) (sq_nonneg_q v)
    rw [e1]; grind
  · have k := Rat.mul_le_mul_of_nonneg_right (show X * n * n ≤ (s + 1) * (s + 1) by grind) (sq_nonneg_q v)
    rw [e2]; grind
/-- Such a root lies in the interval's root, where the fineness is a whole part of a step. -/
theorem inq_rootQ {M : Nat} {X : Rat} {a : Iv} (hM : 0 < M) (hX : InQ X a) (h : ivRight (ivRoot a) = true) : 0 ≤ X ∧ InQ (rootQ (65536 * M) X) (ivRoot a) := by
  obtain ⟨l0, r0, -, r2, r3⟩ := root_ends h
  obtain ⟨-, x1, x2⟩ := hX
  have c0 := cast_le l0
  have c2 := cast_le r2
  have c3 := cast_le r3
  have c4 := cast_le r0
  rw [Rat.intCast_mul, Rat.intCast_mul] at c2 c3
  simp at c0 c2 c3 c4
  have x0 : 0 ≤ X := by grind
  refine ⟨x0, h, ?_, ?_⟩
  · -- below: a whole number of fine steps
    obtain ⟨q0, q1, q2, v0, inv⟩ := rootQ_bd (N := 65536 * M) (X := X) (by omega) x0
    have hcN : ((65536 * M : Nat) : Rat) = 65536 * (M : Rat) := by
      have : (((65536 * M : Nat) : Int) : Rat) = ((65536 : Int) : Rat) * ((M : Int) : Rat) := by rw [← Rat.intCast_mul]; rfl
      exact this
    have m0 : 0 ≤ (M : Rat) := cast_le (show (0 : Int) ≤ (M : Int) by omega)
    have b1 : (((ivRoot a).lo * (M : Int)) * ((ivRoot a).lo * (M : Int)) : Int) ≤ (X * ((65536 * M : Nat) : Rat) * ((65536 * M : Nat) : Rat)).floor := by
      refine Rat.le_floor_iff.2 ?_
      rw [Rat.intCast_mul, Rat.intCast_mul, natc, hcN]
      have k := Rat.mul_le_mul_of_nonneg_right (show ((ivRoot a).lo : Rat) * ((ivRoot a).lo : Rat) ≤ X * 65536 * 65536 by grind) (sq_nonneg_q (M : Rat))
      grind
    unfold rootQ
    generalize (X * ((65536 * M : Nat) : Rat) * ((65536 * M : Nat) : Rat)).floor = q at *
    have hq0 : 0 ≤ q := by
      have := sq_nonneg' ((ivRoot a).lo * (M : Int))
      omega
    obtain ⟨i1, i2⟩ := isqN_bd q.toNat
    have key : (ivRoot a).lo * (M : Int) ≤ (isqN q.toNat : Int) := by
      refine sq_lt_le (by omega) ?_
      have : ((q.toNat : Nat) : Int) = q := by omega
      have h3 : (q.toNat : Int) < ((isqN q.toNat : Int) + 1) * ((isqN q.toNat : Int) + 1) := by exact_mod_cast i2
      omega
    have kc := cast_le key
    rw [Rat.intCast_mul, natc, natc] at kc
    have v1 := Rat.le_of_lt v0
    have k := Rat.mul_le_mul_of_nonneg_right kc v1
    rw [hcN] at inv k ⊢
    generalize (isqN q.toNat : Rat) = s at *
    generalize (65536 * (M : Rat))⁻¹ = w at *
    have e : ((ivRoot a).lo : Rat) * (M : Rat) * w * 65536 = ((ivRoot a).lo : Rat) * (65536 * (M : Rat) * w) := by grind
    rw [inv] at e
    grind
  · obtain ⟨q0, q1, -, -, -⟩ := rootQ_bd (N := 65536 * M) (X := X) (by omega) x0
    generalize rootQ (65536 * M) X = σ at *
    have c5 : 0 ≤ ((ivRoot a).hi : Rat) := by
      have := cast_le (show (0 : Int) ≤ (ivRoot a).hi by have := (root_ends h).2.2.1; omega)
      simp at this
      exact this
    by_cases k : σ * 65536 ≤ ((ivRoot a).hi : Rat)
    · exact k
    · exfalso
      have m1 := Rat.mul_lt_mul_of_pos_left (show ((ivRoot a).hi : Rat) < σ * 65536 by grind) (show 0 < σ * 65536 by grind)
      have m2 := Rat.mul_le_mul_of_nonneg_left (show ((ivRoot a).hi : Rat) ≤ σ * 65536 by grind) c5
      grind

/-! ### The depth and its slope -/
def sX (c k r : Rat) : Rat := 1 - k * (c * c) * r
def sZ (M : Nat) (c k r : Rat) : Rat := c * r / (1 + rootQ (65536 * M) (sX c k r))
def sT (a b r : Rat) : Rat := ((b * (r / 1000) + a) * (r / 1000) + 0) * (r / 1000) + 0
def sT' (a b U : Rat) : Rat := ((3 * b) * U + 2 * a) * U + 0
theorem horner_one {a u : Iv} (h : ivRight (horner [a] u) = true) : horner [a] u = a ∧ ivRight a = true := by
  unfold horner at h ⊢
  split at h
  · rename_i hr; rw [if_pos hr]; exact ⟨rfl, hr⟩
  · rw [right_none] at h; cases h
theorem inq_zero : InQ 0 (ivPoint 0) := by
  have e : ivPoint 0 = ⟨0, 0, false⟩ := by decide
  rw [e]
  refine ⟨by decide, ?_, ?_⟩ <;> simp
theorem inq_horner2 {a b U : Rat} {A B u : Iv} (ha : InQ a A) (hb : ivRight B = true → InQ b B) (hU : InQ U u) (h : ivRight (horner [A, B] u) = true) : InQ (b * U + a) (horner [A, B] u) := by
  have e : horner [A, B] u = ivAdd (ivMul (horner [B] u) u) A := rfl
  rw [e] at h ⊢
  obtain ⟨h1, -⟩ := rights_add h
  obtain ⟨e2, h2⟩ := horner_one (rights_mul h1).1
  rw [e2] at h1 h ⊢
  exact inq_add (inq_mul (hb h2) hU h1) ha h
theorem inq_horner {a b U : Rat} {A : Iv} {l : List Iv} {u : Iv} (h0 : ivRight (ivAdd (ivMul (horner l u) u) A) = true) (ha : InQ a A) (hl : ivRight (horner l u) = true → InQ b (horner l u)) (hU : InQ U u) : InQ (b * U + a) (ivAdd (ivMul (horner l u) u) A) := by
  obtain ⟨h1, -⟩ := rights_add h0
  exact inq_add (inq_mul (hl (rights_mul h1).1) hU h1) ha h0
theorem inq_1000 : InQ 1000 (ivWhole 1000) := by
  have e : ivWhole 1000 = ⟨65536000, 65536000, false⟩ := by decide
  rw [e]
  refine ⟨by decide, ?_, ?_⟩ <;> simp <;> grind
theorem sag_bent {s : Sf} {R : Iv} (hb : s.bent = true) (h : ivRight (sagZ s R) = true ∨ ivRight (sagM s R) = true) :
    sagZ s R = ivAdd (sagZ0 s R) (horner (sagL s) (sagU R)) ∧ sagM s R = ivAdd (sagM0 s R) (ivDiv (horner (slope (sagL s)) (sagU R)) (ivWhole 1000)) ∧ ivRight (sagZ s R) = true ∧ ivRight (sagM s R) = true := by
  have hk : sagOk s R = true := by
    cases hk : sagOk s R
    · rcases h with h | h
      · unfold sagZ at h; rw [hk] at h; cases h
      · unfold sagM at h; rw [hk] at h; cases h
    · rfl
  have e1 : sagZ s R = sagZt s R := by unfold sagZ; rw [if_pos hk]
  have e2 : sagM s R = sagMt s R := by unfold sagM; rw [if_pos hk]
  have hk' := hk
  unfold sagOk at hk'
  rw [Bool.and_eq_true] at hk'
  refine ⟨?_, ?_, by rw [e1]; exact hk'.1, by rw [e2]; exact hk'.2⟩
  · rw [e1]; unfold sagZt; rw [if_pos hb]
  · rw [e2]; unfold sagMt; rw [if_pos hb]
/-- The depth of numbers lies in the depth. -/
theorem depth_enc {M : Nat} {s : Sf} {R : Iv} {c k a b r : Rat} (hM : 0 < M) (hb : s.bent = true) (h : ivRight (sagZ s R) = true) (hc : InQ c s.curve) (hk : InQ k s.conic) (ha : InQ a s.a4) (hb6 : InQ b s.a6) (hr : InQ r R) :
    InQ (sZ M c k r + sT a b r) (sagZ s R) := by
  obtain ⟨e, -, h1, -⟩ := sag_bent hb (.inl h)
  rw [e] at h1 ⊢
  obtain ⟨g1, g2⟩ := rights_add h1
  refine inq_add ?_ ?_ h1
  · unfold sagZ0 at g1 ⊢
    obtain ⟨hm, ha'⟩ := both_iff.1 (div_right g1).1
    have hq := (rights_add ha').2
    unfold sagQ at hq ha' g1 ⊢
    have hs := rights_root hq
    have hm1 := (sub_ends hs).1.2
    have hm2 := (rights_mul hm1).1
    have hsq := (rights_mul hm2).2
    have hX : InQ (sX c k r) (ivSub oneI (ivMul (ivMul s.conic (ivSqr s.curve)) R)) := inq_sub inq_one (inq_mul (inq_mul hk (inq_sqr hc hsq) hm2) hr hm1) hs
    exact (inq_quot (inq_mul hc hr hm) (inq_add inq_one (inq_rootQ hM hX hq).2 ha') g1).1
  · have hu : ivRight (sagU R) = true := by
      have : horner (sagL s) (sagU R) = ivAdd (ivMul (horner [ivPoint 0, s.a4, s.a6] (sagU R)) (sagU R)) (ivPoint 0) := rfl
      rw [this] at g2
      exact (rights_mul (rights_add g2).1).2
    have hU : InQ (r / 1000) (sagU R) := (inq_quot hr inq_1000 hu).1
    exact inq_horner g2 inq_zero (fun q1 => inq_horner q1 inq_zero (fun q2 => inq_horner2 ha (fun _ => hb6) hU q2) hU) hU
theorem near_quot {q y B : Rat} (h : NearQ (q * y) B) (hy : 1 / 65536 ≤ y) : NearQ q (65536 * B) := by
  unfold NearQ at *
  by_cases k : 0 ≤ q
  · have := Rat.mul_le_mul_of_nonneg_left hy k
    grind
  · have := Rat.mul_le_mul_of_nonneg_left hy (show 0 ≤ -q by grind)
    grind
/-- The cone's depths at two places: their difference by the slope between, but for what the roots lack. -/
theorem cone_diff {c k r1 r2 s1 s2 e1 e2 Z1 Z2 D : Rat} (h1 : k * (c * c) * r1 = 1 - s1 * s1 - e1) (h2 : k * (c * c) * r2 = 1 - s2 * s2 - e2) (z1 : Z1 * (1 + s1) = c * r1) (z2 : Z2 * (1 + s2) = c * r2) (hD : D * (s1 + s2) = c) :
    (Z1 - Z2 - D * (r1 - r2)) * ((1 + s1) * (1 + s2) * (s1 + s2)) = c * (r2 * e1 - r1 * e2) := by
  have a1 : (Z1 - Z2 - D * (r1 - r2)) * ((1 + s1) * (1 + s2) * (s1 + s2)) = (Z1 * (1 + s1)) * ((1 + s2) * (s1 + s2)) - (Z2 * (1 + s2)) * ((1 + s1) * (s1 + s2)) - (D * (s1 + s2)) * ((r1 - r2) * ((1 + s1) * (1 + s2))) := by grind
  rw [a1, z1, z2, hD]
  have a2 : c * r1 * ((1 + s2) * (s1 + s2)) - c * r2 * ((1 + s1) * (s1 + s2)) - c * ((r1 - r2) * ((1 + s1) * (1 + s2))) = c * (r1 * (s2 * s2 - 1) - r2 * (s1 * s1 - 1)) := by grind
  rw [a2]
  have b1 : s1 * s1 - 1 = -(k * (c * c) * r1) - e1 := by grind
  have b2 : s2 * s2 - 1 = -(k * (c * c) * r2) - e2 := by grind
  rw [b1, b2]
  grind
/-- The terms' depths at two places: by the slopes at both and at the middle (Simpson's weights). -/
theorem terms_diff (a b r1 r2 : Rat) : sT a b r1 - sT a b r2 = ((sT' a b (r1 / 1000) + 4 * sT' a b ((r1 / 1000 + r2 / 1000) / 2) + sT' a b (r2 / 1000)) / 6) / 1000 * (r1 - r2) := by
  unfold sT sT'
  grind
theorem inq_mid3 {x y z : Rat} {a : Iv} (hx : InQ x a) (hy : InQ y a) (hz : InQ z a) : InQ ((x + 4 * y + z) / 6) a := by
  obtain ⟨h, x1, x2⟩ := hx
  obtain ⟨-, y1, y2⟩ := hy
  obtain ⟨-, z1, z2⟩ := hz
  exact ⟨h, by grind, by grind⟩
theorem inq_mid {x y : Rat} {a : Iv} (hx : InQ x a) (hy : InQ y a) : InQ ((x + y) / 2) a := by
  obtain ⟨h, x1, x2⟩ := hx
  obtain ⟨-, y1, y2⟩ := hy
  exact ⟨h, by grind, by grind⟩
theorem slope_list (s : Sf) : slope (sagL s) = [ivTimes (ivPoint 0) 1, ivTimes s.a4 2, ivTimes s.a6 3] := rfl
/-- The slope between two distances lies in the slope; what it leaves is small. -/
theorem depth_slope {M : Nat} {s : Sf} {R : Iv} {c k a b r1 r2 : Rat} (hM : 0 < M) (hb : s.bent = true) (h : ivRight (sagM s R) = true) (hc : InQ c s.curve) (hk : InQ k s.conic) (ha : InQ a s.a4) (hb6 : InQ b s.a6) (h1 : InQ r1 R) (h2 : InQ r2 R) :
    ∃ D, InQ D (sagM s R) ∧ NearQ (sZ M c k r1 + sT a b r1 - (sZ M c k r2 + sT a b r2) - D * (r1 - r2)) (4611686018427387904 * (((65536 * M : Nat) : Rat))⁻¹) := by
  obtain ⟨-, e, hz, hm⟩ := sag_bent hb (.inr h)
  rw [e] at hm ⊢
  obtain ⟨g1, g2⟩ := rights_add hm
  unfold sagM0 at g1 hm ⊢
  obtain ⟨-, ht⟩ := both_iff.1 (div_right g1).1
  have hq : ivRight (sagQ s R) = true := (two_ends ht).1
  unfold sagQ at hq
  have hs := rights_root hq
  have hm1 := (sub_ends hs).1.2
  have hm2 := (rights_mul hm1).1
  have hsq := (rights_mul hm2).2
  have hX : ∀ r, InQ r R → InQ (sX c k r) (ivSub oneI (ivMul (ivMul s.conic (ivSqr s.curve)) R)) := fun r hr => inq_sub inq_one (inq_mul (inq_mul hk (inq_sqr hc hsq) hm2) hr hm1) hs
  obtain ⟨x1, i1⟩ := inq_rootQ hM (hX _ h1) hq
  obtain ⟨x2, i2⟩ := inq_rootQ hM (hX _ h2) hq
  obtain ⟨p0, p1, p2, v0, inv⟩ := rootQ_bd (N := 65536 * M) (X := sX c k r1) (by omega) x1
  obtain ⟨q0, q1, q2, -, -⟩ := rootQ_bd (N := 65536 * M) (X := sX c k r2) (by omega) x2
  have isum : InQ (rootQ (65536 * M) (sX c k r1) + rootQ (65536 * M) (sX c k r2)) (ivTimes (sagQ s R) 2) := by
    have := inq_times (k := 2) (inq_mid i1 i2) ht
    have e5 : ((2 : Int) : Rat) * ((rootQ (65536 * M) (sX c k r1) + rootQ (65536 * M) (sX c k r2)) / 2) = rootQ (65536 * M) (sX c k r1) + rootQ (65536 * M) (sX c k r2) := by simp; grind
    rw [e5] at this
    exact this
  obtain ⟨d1, d2⟩ := inq_quot hc isum g1
  have off := (div_right g1).2.1
  unfold Off at off
  have hsum : 1 / 65536 ≤ rootQ (65536 * M) (sX c k r1) + rootQ (65536 * M) (sX c k r2) := by
    rcases off_side off with kk | kk
    · exact kk _ isum
    · have := kk _ isum
      grind
  -- the terms
  obtain ⟨k1, -⟩ := both_iff.1 (div_right g2).1
  have k1' := k1
  rw [slope_list] at k1'
  have e6 : horner [ivTimes (ivPoint 0) 1, ivTimes s.a4 2, ivTimes s.a6 3] (sagU R) = ivAdd (ivMul (horner [ivTimes s.a4 2, ivTimes s.a6 3] (sagU R)) (sagU R)) (ivTimes (ivPoint 0) 1) := rfl
  rw [e6] at k1'
  have hu : ivRight (sagU R) = true := (rights_mul (rights_add k1').1).2
  have tEnc : ∀ U, InQ U (sagU R) → InQ (sT' a b U) (horner (slope (sagL s)) (sagU R)) := by
    intro U hU
    rw [slope_list, e6]
    refine inq_horner k1' ?_ (fun q1 => ?_) hU
    · have := inq_times (k := 1) inq_zero (rights_add k1').2
      simp at this
      exact this
    · have e7 : horner [ivTimes s.a4 2, ivTimes s.a6 3] (sagU R) = ivAdd (ivMul (horner [ivTimes s.a6 3] (sagU R)) (sagU R)) (ivTimes s.a4 2) := rfl
      have q2 := q1
      rw [e7] at q2
      refine inq_horner2 ?_ (fun q3 => ?_) hU q1
      · have := inq_times (k := 2) ha (rights_add q2).2
        simp at this
        exact this
      · have := inq_times (k := 3) hb6 q3
        simp at this
        exact this
  have U1 : InQ (r1 / 1000) (sagU R) := (inq_quot h1 inq_1000 hu).1
  have U2 : InQ (r2 / 1000) (sagU R) := (inq_quot h2 inq_1000 hu).1
  have T := (inq_quot (inq_mid3 (tEnc _ U1) (tEnc _ (inq_mid U1 U2)) (tEnc _ U2)) inq_1000 g2).1
  refine ⟨_, inq_add d1 T hm, ?_⟩
  -- what is left
  have td := terms_diff a b r1 r2
  generalize ((sT' a b (r1 / 1000) + 4 * sT' a b ((r1 / 1000 + r2 / 1000) / 2) + sT' a b (r2 / 1000)) / 6) / 1000 = W at *
  have n1 := inq_bound i1
  have n2 := inq_bound i2
  have z1 : sZ M c k r1 * (1 + rootQ (65536 * M) (sX c k r1)) = c * r1 := by unfold sZ; grind
  have z2 : sZ M c k r2 * (1 + rootQ (65536 * M) (sX c k r2)) = c * r2 := by unfold sZ; grind
  have y1 : sX c k r1 = 1 - k * (c * c) * r1 := rfl
  have y2 : sX c k r2 = 1 - k * (c * c) * r2 := rfl
  generalize sZ M c k r1 = Z1 at *
  generalize sZ M c k r2 = Z2 at *
  generalize rootQ (65536 * M) (sX c k r1) = s1 at *
  generalize rootQ (65536 * M) (sX c k r2) = s2 at *
  generalize sX c k r1 = X1 at *
  generalize sX c k r2 = X2 at *
  generalize c / (s1 + s2) = D at *
  have N1 : 1 ≤ ((65536 * M : Nat) : Rat) := by
    have := cast_le (show (1 : Int) ≤ ((65536 * M : Nat) : Int) by omega)
    have e8 : ((1 : Int) : Rat) = 1 := rfl
    rw [e8, natc] at this
    exact this
  generalize (((65536 * M : Nat) : Rat))⁻¹ = v at *
  generalize ((65536 * M : Nat) : Rat) = n at *
  have v1 : v ≤ 1 := by
    have := Rat.mul_le_mul_of_nonneg_right N1 (Rat.le_of_lt v0)
    grind
  have vv : v * v ≤ v := by
    have := Rat.mul_le_mul_of_nonneg_right v1 (Rat.le_of_lt v0)
    grind
  have el : ∀ s X, 0 ≤ s → s * s ≤ X → X ≤ (s + v) * (s + v) → NearQ s 16384 → NearQ (X - s * s) (32769 * v) := by
    intro s X w0 w1 w2 w3
    have := Rat.mul_le_mul_of_nonneg_right w3.2 (Rat.le_of_lt v0)
    unfold NearQ
    grind
  have E1 := el _ _ p0 p1 p2 n1
  have E2 := el _ _ q0 q1 q2 n2
  have cd := cone_diff (e1 := X1 - s1 * s1) (e2 := X2 - s2 * s2) (k := k) (by grind) (by grind) z1 z2 d2
  have B1 := near_mul (inq_bound h2) E1
  have B2 := near_mul (inq_bound h1) E2
  have B3 : NearQ (r2 * (X1 - s1 * s1) - r1 * (X2 - s2 * s2)) (16384 * (32769 * v) + 16384 * (32769 * v)) := by
    unfold NearQ at *
    grind
  have B4 := near_mul (inq_bound hc) B3
  rw [← cd] at B4
  have ypos : 1 / 65536 ≤ (1 + s1) * (1 + s2) * (s1 + s2) := by
    have w1 := Rat.mul_nonneg p0 q0
    have w2 := Rat.mul_le_mul_of_nonneg_right (show 1 ≤ (1 + s1) * (1 + s2) by grind) (show 0 ≤ s1 + s2 by grind)
    grind
  have B5 := near_quot B4 ypos
  have fin : Z1 + sT a b r1 - (Z2 + sT a b r2) - (D + W) * (r1 - r2) = Z1 - Z2 - D * (r1 - r2) := by
    have : sT a b r1 = sT a b r2 + W * (r1 - r2) := by grind
    rw [this]
    grind
  rw [fin]
  exact near_le B5 (by grind)
/-! ### How far a ray of numbers is beyond a face -/
structure Sel where
  c : Rat
  k : Rat
  a : Rat
  b : Rat
  x : Rat
  y : Rat
  z : Rat
  u : Rat
  v : Rat
  w : Rat
structure SelIn (q : Sel) (s : Sf) (r : Wy) : Prop where
  c : InQ q.c s.curve
  k : InQ q.k s.conic
  a : InQ q.a s.a4
  b : InQ q.b s.a6
  x : InQ q.x r.o.x
  y : InQ q.y r.o.y
  z : InQ q.z r.o.z
  u : InQ q.u r.d.x
  v : InQ q.v r.d.y
  w : InQ q.w r.d.z
def selR (q : Sel) (τ : Rat) : Rat := (q.x + q.u * τ) * (q.x + q.u * τ) + (q.y + q.v * τ) * (q.y + q.v * τ)
def selG (M : Nat) (q : Sel) (τ : Rat) : Rat := (q.z + q.w * τ) - (sZ M q.c q.k (selR q τ) + sT q.a q.b (selR q τ))
theorem along_in {q : Sel} {s : Sf} {r : Wy} (S : SelIn q s r) {t : Iv} {τ : Rat} (ht : InQ τ t) :
    (ivRight (plAlong r t).x = true → InQ (q.x + q.u * τ) (plAlong r t).x) ∧ (ivRight (plAlong r t).y = true → InQ (q.y + q.v * τ) (plAlong r t).y) ∧ (ivRight (plAlong r t).z = true → InQ (q.z + q.w * τ) (plAlong r t).z) :=
  ⟨fun h => inq_add S.x (inq_mul S.u ht (rights_add h).2) h, fun h => inq_add S.y (inq_mul S.v ht (rights_add h).2) h, fun h => inq_add S.z (inq_mul S.w ht (rights_add h).2) h⟩
theorem r2_in {q : Sel} {s : Sf} {r : Wy} (S : SelIn q s r) {t : Iv} (h : ivRight (hitR2 (plAlong r t)) = true) : ∀ τ, InQ τ t → InQ (selR q τ) (hitR2 (plAlong r t)) := by
  intro τ ht
  obtain ⟨h1, h2⟩ := rights_add h
  obtain ⟨a1, a2, -⟩ := along_in S ht
  exact inq_add (inq_sqr (a1 (rights_sqr h1)) h1) (inq_sqr (a2 (rights_sqr h2)) h2) h
theorem sag_r2 {s : Sf} {R : Iv} (hb : s.bent = true) (h : ivRight (sagZ s R) = true ∨ ivRight (sagM s R) = true) : ivRight R = true := by
  obtain ⟨e, -, h1, -⟩ := sag_bent hb h
  rw [e] at h1
  have g1 := (rights_add h1).1
  unfold sagZ0 at g1
  exact (rights_mul (both_iff.1 (div_right g1).1).1).2
theorem inq_convex {x y : Rat} {t : Iv} (hx : InQ x t) (hy : InQ y t) : InQ ((x + y) / 2) t := inq_mid hx hy
/-- newton's function over a face that is bent encloses it. -/
theorem hit_encl {M : Nat} {q : Sel} {s : Sf} {r : Wy} (hM : 0 < M) (hb : s.bent = true) (S : SelIn q s r) (T : Iv) : Encl (hitF s r) T (selG M q) (4611686018427387904 * (((65536 * M : Nat) : Rat))⁻¹) where
  val := by
    intro t τ hp ht h
    unfold hitF at h ⊢
    dsimp only at h ⊢
    obtain ⟨hz, hs⟩ := (sub_ends h).1
    have hR := sag_r2 hb (.inl hs)
    exact inq_sub ((along_in S ht).2.2 hz) (depth_enc hM hb hs S.c S.k S.a S.b (r2_in S hR τ ht)) h
  slope := by
    intro t τ μ hp h1 h2 h
    unfold hitF at h ⊢
    dsimp only at h ⊢
    obtain ⟨hw, hm⟩ := (sub_ends h).1
    obtain ⟨hs, ht2⟩ := rights_mul hm
    have hR := sag_r2 hb (.inr hs)
    obtain ⟨D, d1, d2⟩ := depth_slope hM hb hs S.c S.k S.a S.b (r2_in S hR τ h1) (r2_in S hR μ h2)
    have hac := (two_ends ht2).1
    obtain ⟨c1, c2⟩ := rights_add hac
    obtain ⟨b1, b2, -⟩ := along_in S (inq_convex h1 h2)
    have A := inq_add (inq_mul (b1 (rights_mul c1).1) S.u c1) (inq_mul (b2 (rights_mul c2).1) S.v c2) hac
    have A2 := inq_times (k := 2) A ht2
    refine ⟨_, inq_sub S.w (inq_mul d1 A2 hm) h, ?_⟩
    have e1 : selR q τ - selR q μ = (((2 : Int) : Rat) * ((q.x + q.u * ((τ + μ) / 2)) * q.u + (q.y + q.v * ((τ + μ) / 2)) * q.v)) * (τ - μ) := by
      unfold selR
      simp
      grind
    generalize ((2 : Int) : Rat) * ((q.x + q.u * ((τ + μ) / 2)) * q.u + (q.y + q.v * ((τ + μ) / 2)) * q.v) = B at *
    unfold selG
    rw [e1] at d2
    generalize sZ M q.c q.k (selR q τ) + sT q.a q.b (selR q τ) = P1 at *
    generalize sZ M q.c q.k (selR q μ) + sT q.a q.b (selR q μ) = P2 at *
    have e2 : q.z + q.w * τ - P1 - (q.z + q.w * μ - P2) - (q.w - D * B) * (τ - μ) = -(P1 - P2 - D * (B * (τ - μ))) := by grind
    rw [e2]
    unfold NearQ at *
    grind
end Go.Proofs.YtggohceeeggnmaaGreat

namespace Go.Proofs.YtggohceeeggnmaaGreat
set_option linter.unusedVariables false

/-- As fine as is asked. -/
theorem fine_enough {δ : Rat} (h : 0 < δ) : ∃ M : Nat, 0 < M ∧ 0 ≤ 4611686018427387904 * (((65536 * M : Nat) : Rat))⁻¹ ∧ 4611686018427387904 * (((65536 * M : Nat) : Rat))⁻¹ ≤ δ := by
  have f := Rat.lt_floor_add_one (4611686018427387904 / δ)
  have e2 : 4611686018427387904 / δ * δ = 4611686018427387904 := by grind
  have q0 : 0 ≤ 4611686018427387904 / δ := le_of_mul_pos h (by rw [e2]; grind)
  have f0 : 0 ≤ (4611686018427387904 / δ).floor := Rat.le_floor_iff.2 (by simp; exact q0)
  refine ⟨((4611686018427387904 / δ).floor + 1).toNat, by omega, ?_⟩
  have big : (4611686018427387904 / δ) ≤ ((65536 * ((4611686018427387904 / δ).floor + 1).toNat : Nat) : Rat) := by
    have h1 : ((4611686018427387904 / δ).floor + 1 : Int) ≤ ((65536 * ((4611686018427387904 / δ).floor + 1).toNat : Nat) : Int) := by omega
    have h2 := cast_le h1
    rw [natc] at h2
    have := Rat.le_of_lt f
    grind
  have N1 : 1 ≤ ((65536 * ((4611686018427387904 / δ).floor + 1).toNat : Nat) : Rat) := by
    have := cast_le (show (1 : Int) ≤ ((65536 * ((4611686018427387904 / δ).floor + 1).toNat : Nat) : Int) by omega)
    have e8 : ((1 : Int) : Rat) = 1 := rfl
    rw [e8, natc] at this
    exact this
  generalize ((65536 * ((4611686018427387904 / δ).floor + 1).toNat : Nat) : Rat) = n at *
  generalize 4611686018427387904 / δ = w at *
  have inv : n * n⁻¹ = 1 := by grind
  have inv0 : 0 < n⁻¹ := by
    by_cases c : 0 < n⁻¹
    · exact c
    · have := Rat.mul_nonneg (show 0 ≤ n by grind) (show 0 ≤ -(n⁻¹) by grind)
      grind
  refine ⟨by grind, ?_⟩
  have k1 := Rat.mul_le_mul_of_nonneg_right big (Rat.le_of_lt h)
  rw [e2] at k1
  have k2 := Rat.mul_le_mul_of_nonneg_right k1 (Rat.le_of_lt inv0)
  have e3 : n * δ * n⁻¹ = δ * (n * n⁻¹) := by grind
  rw [e3, inv] at k2
  grind
theorem loop_part {F : Enc} : ∀ (k : Nat) (y : Bool) (t b : Iv), ivRight t = true → nLoop F k y t = (b, 1) → Part b t
  | 0, y, t, b, ht, hl => by
    unfold nLoop nEnd at hl
    cases y
    · simp at hl
    · simp at hl; subst hl; exact part_refl ht
  | k + 1, y, t, b, ht, hl => by
    cases hn : ivRight (nNext F t)
    · cases hh : ivRight (nHalf F t)
      · rw [(loop_none (k := k) (y := y) hn hh).1] at hl; simp at hl
      · rw [(loop_half (k := k) (y := y) hn hh).1] at hl
        have hpart : Part (nHalf F t) t := by
          obtain ⟨e1, p1, p2, -⟩ := split_form ht
          cases q1 : nOut F (ivSplit t).1
          · cases q2 : nOut F (ivSplit t).2
            · rw [half_none q1 q2] at hh; cases hh
            · rw [half_no q1 q2, e1]; exact p1
          · rw [half_yes q1, e1]; exact p2
        exact part_trans (loop_part k y _ b hh hl) hpart
    · cases hu : ivRight (ivMeet t (nNext F t))
      · rw [(loop_no (k := k) (y := y) hn hu).1] at hl; simp at hl
      · by_cases hx : ivMeet t (nNext F t) = t
        · rw [(loop_end (k := k) (y := y) hn hu hx).1] at hl
          unfold nEnd at hl
          split at hl
          · simp at hl; subst hl; exact part_refl ht
          · simp at hl
        · rw [(loop_on (k := k) (y := y) hn hu hx).1] at hl
          exact part_trans (loop_part k _ _ b hu hl) (meet_part hu)
theorem hitN_loop {F : Enc} {T t : Iv} (h : hitN F T = (t, 1)) : ivRight (hitW T) = true ∧ nLoop F 20 false (hitW T) = (t, 1) := by
  unfold hitN nSolve at h
  cases hr : ivRight (hitW T)
  · rw [hr] at h; simp at h
  · rw [hr] at h
    refine ⟨rfl, ?_⟩
    have e : nMost 20 = 20 := by decide
    rw [if_pos rfl, e] at h
    generalize nLoop F 20 false (hitW T) = B at *
    obtain ⟨b, i⟩ := B
    simp only [Prod.mk.injEq] at h
    obtain ⟨h1, h2⟩ := h
    split at h2
    · cases h2
    · exact Prod.ext h1 h2
/-- Where a bent face is met the face is. -/
theorem hitOn_bent {q : Sel} {s : Sf} {r : Wy} {T t : Iv} (hb : s.bent = true) (S : SelIn q s r) (h : hitN (hitF s r) T = (t, 1)) (hz : ivRight (sagZ s (hitR2 (plAlong r t))) = true) (hp : ivRight (plAlong r t).z = true) :
    ivRight (ivMeet (sagZ s (hitR2 (plAlong r t))) (plAlong r t).z) = true := by
  obtain ⟨hw, hl⟩ := hitN_loop h
  have d0 := drift_one 20
  obtain ⟨d, hd, hd2⟩ : ∃ d : Rat, 0 < d ∧ drift 20 * d = 1 / 131072 := by
    have e : drift 20 * (1 / 131072 / drift 20) = 1 / 131072 := by grind
    refine ⟨_, ?_, e⟩
    by_cases c : 0 < 1 / 131072 / drift 20
    · exact c
    · have := Rat.mul_nonneg (show 0 ≤ drift 20 by grind) (show 0 ≤ -(1 / 131072 / drift 20) by grind)
      grind
  obtain ⟨M, hM, e0, e1⟩ := fine_enough (δ := if d / 2 ≤ 1 / 4294967296 then d / 2 else 1 / 4294967296) (by split <;> grind)
  have e2 : 4611686018427387904 * (((65536 * M : Nat) : Rat))⁻¹ ≤ d / 2 := by split at e1 <;> grind
  have e3 : 4611686018427387904 * (((65536 * M : Nat) : Rat))⁻¹ ≤ 1 / 4294967296 := by split at e1 <;> grind
  have E := hit_encl hM hb S (hitW T)
  obtain ⟨τ, t1, t2⟩ := loop_sure E e0 hd e2 e3 20 _ _ (part_refl hw) hl (by rw [hd2]; grind)
  rw [hd2] at t2
  have hR := sag_r2 hb (.inl hz)
  have a1 := (along_in S t1).2.2 hp
  have a2 := depth_enc hM hb hz S.c S.k S.a S.b (r2_in S hR τ t1)
  unfold selG at t2
  have b1 := right_bd hz
  have b2 := right_bd hp
  generalize sZ M q.c q.k (selR q τ) + sT q.a q.b (selR q τ) = Z at *
  generalize q.z + q.w * τ = p at *
  have lt : ∀ x y : Int, (x : Rat) ≤ (y : Rat) + 1 / 2 → x ≤ y := by
    intro x y hxy
    have : (x : Rat) < ((y + 1 : Int) : Rat) := by rw [Rat.intCast_add]; simp; grind
    have := Rat.intCast_lt_intCast.1 this
    omega
  have c1 := lt (sagZ s (hitR2 (plAlong r t))).lo (plAlong r t).z.hi (by have := a2.2.1; have := a1.2.2; unfold NearQ at t2; grind)
  have c2 := lt (plAlong r t).z.lo (sagZ s (hitR2 (plAlong r t))).hi (by have := a2.2.2; have := a1.2.1; unfold NearQ at t2; grind)
  unfold ivMeet
  rw [both_iff.2 ⟨hz, hp⟩, if_pos rfl]
  exact right_of_of.2 (by omega)
/-- Of less newton is sure of the same: both places meet. -/
theorem hitLess_bent {q : Sel} {s : Sf} {r p : Wy} {T U t u : Iv} (hb : s.bent = true) (S : SelIn q s r) (S' : SelIn q s p) (h : hitN (hitF s r) T = (t, 1)) (h' : hitN (hitF s p) U = (u, 1)) (hU : Part (hitW U) (hitW T)) : ivRight (ivMeet t u) = true := by
  obtain ⟨hw, hl⟩ := hitN_loop h
  obtain ⟨hw', hl'⟩ := hitN_loop h'
  have d0 := drift_one 20
  have hDD : 1 ≤ drift 20 * drift 20 := by
    have := Rat.mul_le_mul_of_nonneg_left d0 (show 0 ≤ drift 20 by grind)
    grind
  obtain ⟨d, hd, hd2⟩ : ∃ d : Rat, 0 < d ∧ drift 20 * drift 20 * d = 1 / 131072 := by
    have e : drift 20 * drift 20 * (1 / 131072 / (drift 20 * drift 20)) = 1 / 131072 := by
      generalize drift 20 * drift 20 = w at *
      grind
    refine ⟨_, ?_, e⟩
    generalize drift 20 * drift 20 = w at *
    by_cases c : 0 < 1 / 131072 / w
    · exact c
    · have := Rat.mul_nonneg (show 0 ≤ w by grind) (show 0 ≤ -(1 / 131072 / w) by grind)
      grind
  have hd3 : drift 20 * (drift 20 * d) = 1 / 131072 := by rw [← Rat.mul_assoc]; exact hd2
  have hd4 : d ≤ drift 20 * d := by
    have := Rat.mul_le_mul_of_nonneg_right d0 (Rat.le_of_lt hd)
    grind
  have hd5 : drift 20 * d ≤ 1 / 131072 := by
    have := Rat.mul_le_mul_of_nonneg_right d0 (show 0 ≤ drift 20 * d by grind)
    grind
  generalize hG : drift 20 = G at *
  obtain ⟨M, hM, e0, e1⟩ := fine_enough (δ := if d / 2 ≤ 1 / 4294967296 then d / 2 else 1 / 4294967296) (by split <;> grind)
  have e2 : 4611686018427387904 * (((65536 * M : Nat) : Rat))⁻¹ ≤ d / 2 := by split at e1 <;> grind
  have e3 : 4611686018427387904 * (((65536 * M : Nat) : Rat))⁻¹ ≤ 1 / 4294967296 := by split at e1 <;> grind
  obtain ⟨τ, t1, t2⟩ := loop_sure (hit_encl hM hb S' (hitW U)) e0 hd e2 e3 20 _ _ (part_refl hw') hl' (by rw [hG]; grind)
  rw [hG] at t2
  have t3 := inq_part hU (inq_part (loop_part 20 _ _ _ hw' hl') t1)
  obtain ⟨μ, m1, -, m3⟩ := loop_keep (hit_encl hM hb S (hitW T)) e0 20 _ _ _ (G * d) τ (part_refl hw) hl t3 t2 (by grind) (by rw [hG, hd3]; grind)
  rw [hG, hd3] at m3
  have b1 := right_bd m1.1
  have b2 := right_bd t1.1
  have lt : ∀ x y : Int, (x : Rat) ≤ (y : Rat) + 1 / 2 → x ≤ y := by
    intro x y hxy
    have : (x : Rat) < ((y + 1 : Int) : Rat) := by rw [Rat.intCast_add]; simp; grind
    have := Rat.intCast_lt_intCast.1 this
    omega
  have c1 := lt t.lo u.hi (by have := m1.2.1; have := t1.2.2; unfold NearQ at m3; grind)
  have c2 := lt u.lo t.hi (by have := m1.2.2; have := t1.2.1; unfold NearQ at m3; grind)
  unfold ivMeet
  rw [both_iff.2 ⟨m1.1, t1.1⟩, if_pos rfl]
  exact right_of_of.2 (by omega)
end Go.Proofs.YtggohceeeggnmaaGreat

namespace Go.Proofs.YtggohceeeggnmaaGreat
set_option linter.unusedVariables false

theorem hit_rights {s : Sf} {r : Wy} (hI : hitI0 s r = 1) : (ivRight s.curve = true ∧ ivRight s.conic = true) ∧ (ivRight r.o.x = true ∧ ivRight r.o.y = true ∧ ivRight r.o.z = true) ∧ ivRight r.d.x = true ∧ ivRight r.d.y = true ∧ ivRight r.d.z = true := by
  have hqr : ivRight (hitA s r) = true ∧ ivRight (hitB s r) = true ∧ ivRight (hitC s r) = true := by
    rcases quad_cases (hitA s r) (hitB s r) (hitC s r) with ⟨-, -, -, hd, -⟩ | ⟨e, -⟩ | ⟨e, -⟩
    · unfold qDet at hd
      obtain ⟨h1, h2⟩ := (sub_ends hd).1
      exact ⟨(rights_mul h2).1, rights_sqr h1, (rights_mul h2).2⟩
    · unfold hitI0 at hI; rw [e] at hI; cases hI
    · unfold hitI0 at hI; rw [e] at hI; cases hI
  obtain ⟨rA, rB, rC⟩ := hqr
  obtain ⟨⟨rc, rk⟩, -, -, -⟩ := hitV_rights (s := s) (a := ivSqr r.d.x) (b := ivSqr r.d.y) (e := ivSqr r.d.z) rA
  obtain ⟨-, rb1, rb2, rb3⟩ := hitV_rights (sub_ends rB).1.1
  obtain ⟨ro1, rd1⟩ := rights_mul rb1
  obtain ⟨ro2, rd2⟩ := rights_mul rb2
  obtain ⟨ro3, rd3⟩ := rights_mul rb3
  exact ⟨⟨rc, rk⟩, ⟨ro1, ro2, ro3⟩, rd1, rd2, rd3⟩
def selLow (s : Sf) (r : Wy) : Sel := ⟨(s.curve.lo : Rat) / 65536, (s.conic.lo : Rat) / 65536, (s.a4.lo : Rat) / 65536, (s.a6.lo : Rat) / 65536, (r.o.x.lo : Rat) / 65536, (r.o.y.lo : Rat) / 65536, (r.o.z.lo : Rat) / 65536, (r.d.x.lo : Rat) / 65536, (r.d.y.lo : Rat) / 65536, (r.d.z.lo : Rat) / 65536⟩
theorem selLow_in {s : Sf} {r : Wy} (hI : hitI0 s r = 1) (h4 : ivRight s.a4 = true) (h6 : ivRight s.a6 = true) : SelIn (selLow s r) s r := by
  obtain ⟨⟨a1, a2⟩, ⟨b1, b2, b3⟩, c1, c2, c3⟩ := hit_rights hI
  exact ⟨inq_lo a1, inq_lo a2, inq_lo h4, inq_lo h6, inq_lo b1, inq_lo b2, inq_lo b3, inq_lo c1, inq_lo c2, inq_lo c3⟩
theorem met_parts {s : Sf} {r : Wy} (h : (hitP s r).2.2 = 1) : hitI0 s (hitR s r) = 1 ∧ (hitP s r).2.1 = plAlong (hitR s r) (hitP s r).1 ∧ plRight (plAlong (hitR s r) (hitP s r).1) = true ∧ hitS s (hitR s r) = ((hitP s r).1, 1) := by
  unfold hitP at h ⊢
  have hi : (hitS s (hitR s r)).2 = 1 := by
    by_cases k : (hitS s (hitR s r)).2 = 1
    · exact k
    · rw [hitEnd_no k] at h; exact h
  have hr : plRight (plAlong (hitR s r) (hitS s (hitR s r)).1) = true := by
    cases k : plRight (plAlong (hitR s r) (hitS s (hitR s r)).1)
    · rw [hi, hitEnd_un k] at h; cases h
    · rfl
  have e : hitEnd (hitR s r) (hitS s (hitR s r)).1 (hitS s (hitR s r)).2 = ((hitS s (hitR s r)).1, plAlong (hitR s r) (hitS s (hitR s r)).1, 1) := by rw [hi]; exact hitEnd_yes hr
  rw [e]
  refine ⟨?_, rfl, hr, Prod.ext rfl hi⟩
  by_cases k : hitI0 s (hitR s r) = 1
  · exact k
  · rw [hitS_off k] at hi; exact hi
/-- Where a ray meets a face, ahead of its widest, the face is. -/
theorem hit_on {s : Sf} {r : Wy} (h : (hitP s r).2.2 = 1) (h4 : ivRight s.a4 = true) (h6 : ivRight s.a6 = true) (hz : ivRight (sagZ s (hitR2 (hitP s r).2.1)) = true)
    (hf : s.bent = true ∨ ivRight (ivSub (ivWhole 1) (ivMul s.curve (ivMul s.conic (hitP s r).2.1.z))) = true ∧ 0 < (ivSub (ivWhole 1) (ivMul s.curve (ivMul s.conic (hitP s r).2.1.z))).lo) :
    ivRight (ivMeet (sagZ s (hitR2 (hitP s r).2.1)) (hitP s r).2.1.z) = true := by
  have e1 : ivWhole 1 = oneI := by decide
  rw [e1] at hf
  obtain ⟨hI, eP, hr, hS⟩ := met_parts h
  rw [eP] at hz hf ⊢
  generalize (hitP s r).1 = t at *
  cases hb : s.bent
  · rcases hf with hf | ⟨f1, f2⟩
    · rw [hb] at hf; cases hf
    · have e2 : t = hitT0 s (hitR s r) := by
        rw [hitS_flat hb] at hS
        exact (congrArg Prod.fst hS).symm
      rw [e2] at hz hr f1 f2 ⊢
      exact hitOn_flat hb hI hr hz f1 f2
  · rw [hitS_bent hb hI] at hS
    have hp := (plRight_iff.1 hr).2.2
    exact hitOn_bent hb (selLow_in hI h4 h6) hS hz hp

/-! ### Of less -/
theorem less_self15 (a : Iv) : ivLess a a = true := by
  cases h : ivRight a
  · exact lessBad h
  · exact partLess (part_refl h)
theorem less_hitV {s : Sf} {a b e a' b' e' : Iv} (h1 : ivLess a' a = true) (h2 : ivLess b' b = true) (h3 : ivLess e' e = true) : ivLess (hitV s a' b' e') (hitV s a b e) = true :=
  lessMul (less_self15 _) (lessAdd (lessAdd h1 h2) (lessMul (less_self15 _) h3))
theorem quad_rights {s : Sf} {r : Wy} (hI : ¬ hitI0 s r = 0) : ivRight (hitA s r) = true ∧ ivRight (hitB s r) = true ∧ ivRight (hitC s r) = true := by
  have key : ivRight (qDet (hitA s r) (hitB s r) (hitC s r)) = true := by
    rcases quad_cases (hitA s r) (hitB s r) (hitC s r) with ⟨-, -, -, hd, -⟩ | ⟨-, -, hd, -⟩ | ⟨e, -⟩
    · exact hd
    · exact hd
    · unfold hitI0 at hI; rw [e] at hI; exact (hI rfl).elim
  unfold qDet at key
  obtain ⟨h1, h2⟩ := (sub_ends key).1
  exact ⟨(rights_mul h2).1, rights_sqr h1, (rights_mul h2).2⟩
theorem near_less {s : Sf} {r p : Wy} (ho : Part p.o.x r.o.x ∧ Part p.o.y r.o.y ∧ Part p.o.z r.o.z) (hd : Part p.d.x r.d.x ∧ Part p.d.y r.d.y ∧ Part p.d.z r.d.z) (hI : ¬ hitI0 s r = 0) :
    (hitI0 s r = 1 ∧ hitI0 s p = 1 ∧ Part (hitT0 s p) (hitT0 s r)) ∨ (hitI0 s r = 2 ∧ hitI0 s p = 2) := by
  obtain ⟨rA, rB, rC⟩ := quad_rights hI
  have lA : ivLess (hitA s p) (hitA s r) = true := less_hitV (less_sqr hd.1) (less_sqr hd.2.1) (less_sqr hd.2.2)
  have lB : ivLess (hitB s p) (hitB s r) = true := lessSub (less_hitV (less_mul ho.1 hd.1) (less_mul ho.2.1 hd.2.1) (less_mul ho.2.2 hd.2.2)) (partLess hd.2.2)
  have lC : ivLess (hitC s p) (hitC s r) = true := lessSub (less_hitV (less_sqr ho.1) (less_sqr ho.2.1) (less_sqr ho.2.2)) (less_times 2 ho.2.2)
  rcases quad_less (lessPart lA rA) (lessPart lB rB) (lessPart lC rC) with ⟨e1, e2, h1, h2⟩ | ⟨e1, e2, -⟩ | ⟨e1, -⟩ | ⟨e1, -⟩ | ⟨e1, -⟩
  · obtain ⟨i1, i2, i3, i4⟩ := inside_iff.1 h1
    exact .inl ⟨e1, e2, i1, i2, i3, i4⟩
  · exact .inr ⟨e1, e2⟩
  · exact (hI e1).elim
  · exact (hI e1).elim
  · exact (hI e1).elim
theorem is_cases (s : Sf) (r : Wy) : ((hitP s r).2.2 = 2 → hitI0 s (hitR s r) = 2) ∧ (hitI0 s (hitR s r) = 2 → (hitP s r).2.2 = 2) ∧ (hitI0 s (hitR s r) = 0 → (hitP s r).2.2 = 0) ∧ ((hitP s r).2.2 = 1 → hitI0 s (hitR s r) = 1) := by
  refine ⟨fun h => ?_, fun h => ?_, fun h => ?_, fun h => (met_parts h).1⟩
  · unfold hitP at h
    by_cases k : hitI0 s (hitR s r) = 1
    · exfalso
      have hS : (hitS s (hitR s r)).2 = 1 ∨ (hitS s (hitR s r)).2 = 0 := by
        cases hb : s.bent
        · rw [hitS_flat hb]; exact .inl k
        · rw [hitS_bent hb k]
          rcases hitN_cases (hitF s (hitR s r)) (hitT0 s (hitR s r)) with h | h
          · exact .inl h.1
          · exact .inr h.1
      rcases hS with e | e
      · rw [e] at h
        cases hr : plRight (plAlong (hitR s r) (hitS s (hitR s r)).1)
        · rw [hitEnd_un hr] at h; cases h
        · rw [hitEnd_yes hr] at h; cases h
      · rw [e, hitEnd_no (by decide)] at h; cases h
    · rw [hitS_off k] at h
      rw [hitEnd_no k] at h
      exact h
  · unfold hitP
    have k : ¬ hitI0 s (hitR s r) = 1 := by rw [h]; decide
    rw [hitS_off k, hitEnd_no k]
    exact h
  · unfold hitP
    have k : ¬ hitI0 s (hitR s r) = 1 := by rw [h]; decide
    rw [hitS_off k, hitEnd_no k]
    exact h
theorem w_part {T U t u : Iv} (h : Part U T) (hT : ivRight (hitW T) = true) (hU : ivRight (hitW U) = true) : Part (hitW U) (hitW T) := by
  unfold hitW at *
  rw [of_yes (right_of_of.1 hT), of_yes (right_of_of.1 hU)]
  exact ⟨right_of.2 (right_of_of.1 hU), right_of.2 (right_of_of.1 hT), by have := h.2.2; dsimp only; omega⟩
/-- A smaller ray meets a face that is not bent within the larger one's place; where it is bent both places meet; Yes is not No of less, nor No Yes. -/
theorem hit_less {s : Sf} {r p : Wy} (ho : Part p.o.x r.o.x ∧ Part p.o.y r.o.y ∧ Part p.o.z r.o.z) (hd : Part p.d.x r.d.x ∧ Part p.d.y r.d.y ∧ Part p.d.z r.d.z) (hs : ivRight s.place = true) (h4 : ivRight s.a4 = true) (h6 : ivRight s.a6 = true) :
    ((hitP s r).2.2 = 1 → ¬ (hitP s p).2.2 = 2) ∧ ((hitP s r).2.2 = 2 → (hitP s p).2.2 = 2) ∧ (s.bent = true → (hitP s r).2.2 = 1 → (hitP s p).2.2 = 1 → ivRight (ivMeet (hitP s r).1 (hitP s p).1) = true) ∧
    (s.bent = false → (hitP s r).2.2 = 1 → (hitP s p).2.2 = 1 ∧ ivInside (hitP s p).1 (hitP s r).1 = true ∧ ivInside (hitP s p).2.1.x (hitP s r).2.1.x = true ∧ ivInside (hitP s p).2.1.y (hitP s r).2.1.y = true ∧ ivInside (hitP s p).2.1.z (hitP s r).2.1.z = true) := by
  obtain ⟨a1, a2, a3, a4⟩ := is_cases s r
  obtain ⟨b1, b2, b3, b4⟩ := is_cases s p
  have part : ¬ hitI0 s (hitR s r) = 0 → Part (hitR s p).o.z (hitR s r).o.z := by
    intro hI
    obtain ⟨-, -, rC⟩ := quad_rights hI
    have hz : ivRight (hitR s r).o.z = true := (two_ends (sub_ends rC).1.2).1
    exact lessPart (lessSub (partLess ho.2.2) (less_self15 _)) hz
  have nl := fun hI => near_less (s := s) (r := hitR s r) (p := hitR s p) ⟨ho.1, ho.2.1, part hI⟩ hd hI
  refine ⟨fun h k => ?_, fun h => ?_, fun hb h k => ?_, fun hb h => ?_⟩
  · have e := a4 h
    rcases nl (by rw [e]; decide) with ⟨-, e2, -⟩ | ⟨e2, -⟩
    · rw [b1 k] at e2; cases e2
    · rw [e] at e2; cases e2
  · have e := a1 h
    rcases nl (by rw [e]; decide) with ⟨e2, -⟩ | ⟨-, e2⟩
    · rw [e] at e2; cases e2
    · exact b2 e2
  · obtain ⟨c1, -, -, c4⟩ := met_parts h
    obtain ⟨d1, -, -, d4⟩ := met_parts k
    rcases nl (by rw [c1]; decide) with ⟨-, -, hp⟩ | ⟨e2, -⟩
    · rw [hitS_bent hb c1] at c4
      rw [hitS_bent hb d1] at d4
      have S' := selLow_in d1 h4 h6
      have pz := part (by rw [c1]; decide)
      have S : SelIn (selLow s (hitR s p)) s (hitR s r) := ⟨S'.c, S'.k, S'.a, S'.b, inq_part ho.1 S'.x, inq_part ho.2.1 S'.y, inq_part pz S'.z, inq_part hd.1 S'.u, inq_part hd.2.1 S'.v, inq_part hd.2.2 S'.w⟩
      exact hitLess_bent hb S S' c4 d4 (w_part (t := (hitP s r).1) (u := (hitP s r).1) hp (hitN_loop c4).1 (hitN_loop d4).1)
    · rw [c1] at e2; cases e2
  · obtain ⟨c1, c2, c3, c4⟩ := met_parts h
    rcases nl (by rw [c1]; decide) with ⟨-, e2, hp⟩ | ⟨e2, -⟩
    · have pz := part (by rw [c1]; decide)
      rw [hitS_flat hb] at c4
      have t1 : hitT0 s (hitR s r) = (hitP s r).1 := congrArg Prod.fst c4
      rw [← t1] at c2 c3 ⊢
      obtain ⟨q1, q2, q3⟩ := plRight_iff.1 c3
      have lx : Part (plAlong (hitR s p) (hitT0 s (hitR s p))).x (plAlong (hitR s r) (hitT0 s (hitR s r))).x := lessPart (lessAdd (partLess ho.1) (less_mul hd.1 hp)) q1
      have ly : Part (plAlong (hitR s p) (hitT0 s (hitR s p))).y (plAlong (hitR s r) (hitT0 s (hitR s r))).y := lessPart (lessAdd (partLess ho.2.1) (less_mul hd.2.1 hp)) q2
      have lz : Part (plAlong (hitR s p) (hitT0 s (hitR s p))).z (plAlong (hitR s r) (hitT0 s (hitR s r))).z := lessPart (lessAdd (partLess pz) (less_mul hd.2.2 hp)) q3
      have hr : plRight (plAlong (hitR s p) (hitT0 s (hitR s p))) = true := plRight_iff.2 ⟨lx.1, ly.1, lz.1⟩
      have eP : hitP s p = (hitT0 s (hitR s p), plAlong (hitR s p) (hitT0 s (hitR s p)), 1) := by
        unfold hitP
        rw [hitS_flat hb]
        dsimp only
        rw [e2]
        exact hitEnd_yes hr
      rw [eP, c2]
      exact ⟨rfl, inside_iff.2 ⟨hp.1, hp.2.1, hp.2.2⟩, inside_iff.2 ⟨lx.1, lx.2.1, lx.2.2⟩, inside_iff.2 ⟨ly.1, ly.2.1, ly.2.2⟩, inside_iff.2 ⟨lz.1, lz.2.1, lz.2.2⟩⟩
    · rw [c1] at e2; cases e2
end Go.Proofs.YtggohceeeggnmaaGreat

namespace Go.Proofs.YtggohceeeggnmaaGreat
set_option linter.unusedVariables false

theorem rayW_pos (n : Int) : 0 ≤ rayW n := by
  unfold rayW
  split
  · omega
  · split <;> omega
theorem ray_right (l : Six) : PRight (hRay l).o := ⟨hWide_right (rayW_pos _), hWide_right (rayW_pos _), (show ivRight ⟨0, 0, false⟩ = true by decide)⟩
theorem is_off {s : Sf} {r : Wy} (h : ¬ plRight r.d = true) : (hitP s r).2.2 = 0 := by
  obtain ⟨-, -, a3, -⟩ := is_cases s r
  refine a3 ?_
  by_cases hI : hitI0 s (hitR s r) = 0
  · exact hI
  · exfalso
    obtain ⟨-, rB, -⟩ := quad_rights hI
    obtain ⟨-, rb1, rb2, rb3⟩ := hitV_rights (sub_ends rB).1.1
    exact h (plRight_iff.2 ⟨(rights_mul rb1).2, (rights_mul rb2).2, (rights_mul rb3).2⟩)
/-- HitLess in plain numbers. -/
theorem hit_less_law {s : Sf} {r p : Wy} (ho : PPart p.o r.o) (hd : plRight r.d = true → PPart p.d r.d) (hs : ivRight s.place = true) (hm : Mild s) :
    ((hitP s r).2.2 = 1 → ¬ (hitP s p).2.2 = 2) ∧ ((hitP s r).2.2 = 2 → (hitP s p).2.2 = 2) ∧ (s.bent = true → (hitP s r).2.2 = 1 → (hitP s p).2.2 = 1 → ivRight (ivMeet (hitP s r).1 (hitP s p).1) = true) ∧
    (s.bent = false → (hitP s r).2.2 = 1 → (hitP s p).2.2 = 1 ∧ ivInside (hitP s p).1 (hitP s r).1 = true ∧ plInside (hitP s p).2.1 (hitP s r).2.1 = true) := by
  by_cases hr : plRight r.d = true
  · obtain ⟨h1, h2, h3, h4⟩ := hit_less ho (hd hr) hs hm.a4.1 hm.a6.1
    refine ⟨h1, h2, h3, fun hb h => ?_⟩
    obtain ⟨k1, k2, k3, k4, k5⟩ := h4 hb h
    refine ⟨k1, k2, ?_⟩
    unfold plInside
    rw [k3, k4, k5]
    rfl
  · have h0 := is_off (s := s) hr
    refine ⟨fun h => ?_, fun h => ?_, fun _ h => ?_, fun _ h => ?_⟩ <;> (rw [h0] at h; cases h)
theorem hinray_part (l : Six) (m n : Int) : PPart (hInRay (hRay l) m n).o (hRay l).o ∧ (plRight (hRay l).d = true → PPart (hInRay (hRay l) m n).d (hRay l).d) :=
  ⟨hInV_part (ray_right l) m n, fun h => hInV_part (plRight_iff.1 h) _ _⟩
/-- HitOn in plain numbers. -/
theorem hit_on_law {s : Sf} {r : Wy} (hm : Mild s) :
    (((hitP s r).2.2 = 0 ∨ (hitP s r).2.2 = 2) ∧ (hitP s r).1 = ivNone ∧ (hitP s r).2.1 = nonePl) ∨
    ((hitP s r).2.2 = 1 ∧ (ivRight (sagZ s (hitR2 (hitP s r).2.1)) = true → (s.bent = true ∨ ivRight (ivSub (ivWhole 1) (ivMul s.curve (ivMul s.conic (hitP s r).2.1.z))) = true ∧ 0 < (ivSub (ivWhole 1) (ivMul s.curve (ivMul s.conic (hitP s r).2.1.z))).lo) →
      ivRight (ivMeet (sagZ s (hitR2 (hitP s r).2.1)) (hitP s r).2.1.z) = true)) := by
  rcases hitP_cases s r with h | h
  · exact .inr ⟨h.1, fun hz hf => hit_on h.1 hm.a4.1 hm.a6.1 hz hf⟩
  · exact .inl h
end Go.Proofs.YtggohceeeggnmaaGreat
