/-
  Intervals of steps, in plain numbers: quotients; what is enclosed; what comes back.
-/
import Derived.Test.YtgkkfmjlgmoefaaIvMath3
namespace Go.Proofs.Ytgkkfmjlgmoefaa
set_option linter.unusedVariables false

/-- The quotient of two numbers of steps, rounded down, rounded up. -/
def qF (x y : Int) : Int := (x * 65536).fdiv y
def qC (x y : Int) : Int := -((-(x * 65536)).fdiv y)
theorem fl_pos {k n v : Int} (h : 0 < v) : k ≤ n.fdiv v ↔ k * v ≤ n := by
  rw [Int.fdiv_eq_ediv_of_nonneg _ (by omega)]
  exact Int.le_ediv_iff_mul_le h
theorem fl_neg {k n v : Int} (h : v < 0) : k ≤ n.fdiv v ↔ n ≤ k * v := by
  rw [← Int.neg_fdiv_neg, fl_pos (by omega), Int.mul_neg]
  omega
theorem ce_pos {k n v : Int} (h : 0 < v) : -((-n).fdiv v) ≤ k ↔ n ≤ k * v := by
  have := fl_pos (k := -k) (n := -n) h
  rw [Int.neg_mul] at this
  omega
theorem ce_neg {k n v : Int} (h : v < 0) : -((-n).fdiv v) ≤ k ↔ k * v ≤ n := by
  have := fl_neg (k := -k) (n := -n) h
  rw [Int.neg_mul] at this
  omega
theorem fl_le_ce (n : Int) {v : Int} (h : v ≠ 0) : n.fdiv v ≤ -((-n).fdiv v) := by
  rw [ceil_eq n v h]
  split <;> omega
theorem q_between {xl xh yl yh u v m M : Int} (hx : xl ≤ u ∧ u ≤ xh) (hy : yl ≤ v ∧ v ≤ yh) (h0 : ¬ (yl ≤ 0 ∧ 0 ≤ yh))
    (hm : m ≤ qF xl yl ∧ m ≤ qF xl yh ∧ m ≤ qF xh yl ∧ m ≤ qF xh yh) (hM : qC xl yl ≤ M ∧ qC xl yh ≤ M ∧ qC xh yl ≤ M ∧ qC xh yh ≤ M) : m ≤ qF u v ∧ qF u v ≤ qC u v ∧ qC u v ≤ M := by
  have t1 := mul_between m hy.1 hy.2
  have t2 := mul_between M hy.1 hy.2
  rw [Int.mul_comm yl, Int.mul_comm yh, Int.mul_comm v] at t1 t2
  unfold qF qC at *
  by_cases hp : 0 < yl
  · simp only [fl_pos hp, fl_pos (show 0 < yh by omega)] at hm
    simp only [ce_pos hp, ce_pos (show 0 < yh by omega)] at hM
    refine ⟨(fl_pos (by omega)).2 (by omega), fl_le_ce _ (by omega), (ce_pos (by omega)).2 (by omega)⟩
  · simp only [fl_neg (show yl < 0 by omega), fl_neg (show yh < 0 by omega)] at hm
    simp only [ce_neg (show yl < 0 by omega), ce_neg (show yh < 0 by omega)] at hM
    refine ⟨(fl_neg (by omega)).2 (by omega), fl_le_ce _ (by omega), (ce_neg (by omega)).2 (by omega)⟩
theorem divN_in {x y : Int} (hx : -1073741824 ≤ x ∧ x ≤ 1073741824) (hy : -1073741824 ≤ y ∧ y ≤ 1073741824) (h0 : y ≠ 0) : divN x y false = told (qF x y) ∧ divN x y true = told (qC x y) := by
  unfold divN
  rw [isIn_iff.2 hx, isIn_iff.2 hy, show (y == 0) = false by simpa using h0]
  exact ⟨rfl, rfl⟩
theorem told_ok {n : Int} : (told n).2 = true ↔ -1073741824 ≤ n ∧ n ≤ 1073741824 := by
  by_cases h : -1073741824 ≤ n ∧ n ≤ 1073741824
  · rw [told_in h]; simp [h]
  · rw [told_out h]; simp [h]
/-- What lies off 0. -/
def Off (y : Iv) : Prop := ¬ (y.lo ≤ 0 ∧ 0 ≤ y.hi)
theorem div_form {x y : Iv} (hb : ivBoth x y = true) (h0 : Off y) : ivDiv x y =
    if (((told (qF x.lo y.lo)).2 && (told (qC x.lo y.lo)).2) && (((told (qF x.lo y.hi)).2 && (told (qC x.lo y.hi)).2) && (((told (qF x.hi y.lo)).2 && (told (qC x.hi y.lo)).2) && ((told (qF x.hi y.hi)).2 && (told (qC x.hi y.hi)).2)))) then
      ivOf (min4 (told (qF x.lo y.lo)).1 (told (qF x.lo y.hi)).1 (told (qF x.hi y.lo)).1 (told (qF x.hi y.hi)).1) (max4 (told (qC x.lo y.lo)).1 (told (qC x.lo y.hi)).1 (told (qC x.hi y.lo)).1 (told (qC x.hi y.hi)).1)
    else ivNone := by
  have b := both_bd hb
  unfold Off at h0
  unfold ivDiv
  rw [hb, has_zero (both_iff.1 hb).2, show decide (y.lo ≤ 0 ∧ 0 ≤ y.hi) = false by simpa using h0]
  have d1 := divN_in (x := x.lo) (y := y.lo) (by omega) (by omega) (by omega)
  have d2 := divN_in (x := x.lo) (y := y.hi) (by omega) (by omega) (by omega)
  have d3 := divN_in (x := x.hi) (y := y.lo) (by omega) (by omega) (by omega)
  have d4 := divN_in (x := x.hi) (y := y.hi) (by omega) (by omega) (by omega)
  simp only [ivEnds, d1.1, d1.2, d2.1, d2.2, d3.1, d3.2, d4.1, d4.2]
  rfl
theorem div_yes {x y : Iv} (hb : ivBoth x y = true) (h0 : Off y)
    (h : (-1073741824 ≤ qF x.lo y.lo ∧ qC x.lo y.lo ≤ 1073741824) ∧ (-1073741824 ≤ qF x.lo y.hi ∧ qC x.lo y.hi ≤ 1073741824) ∧ (-1073741824 ≤ qF x.hi y.lo ∧ qC x.hi y.lo ≤ 1073741824) ∧ (-1073741824 ≤ qF x.hi y.hi ∧ qC x.hi y.hi ≤ 1073741824)) :
    ivDiv x y = ivOf (min4 (qF x.lo y.lo) (qF x.lo y.hi) (qF x.hi y.lo) (qF x.hi y.hi)) (max4 (qC x.lo y.lo) (qC x.lo y.hi) (qC x.hi y.lo) (qC x.hi y.hi)) := by
  rw [div_form hb h0]
  unfold Off at h0
  have b := both_bd hb
  have f1 : qF x.lo y.lo ≤ qC x.lo y.lo := fl_le_ce _ (by omega)
  have f2 : qF x.lo y.hi ≤ qC x.lo y.hi := fl_le_ce _ (by omega)
  have f3 : qF x.hi y.lo ≤ qC x.hi y.lo := fl_le_ce _ (by omega)
  have f4 : qF x.hi y.hi ≤ qC x.hi y.hi := fl_le_ce _ (by omega)
  rw [told_in (n := qF x.lo y.lo) (by omega), told_in (n := qC x.lo y.lo) (by omega), told_in (n := qF x.lo y.hi) (by omega), told_in (n := qC x.lo y.hi) (by omega),
    told_in (n := qF x.hi y.lo) (by omega), told_in (n := qC x.hi y.lo) (by omega), told_in (n := qF x.hi y.hi) (by omega), told_in (n := qC x.hi y.hi) (by omega)]
  rfl
theorem div_right {x y : Iv} (h : ivRight (ivDiv x y) = true) : ivBoth x y = true ∧ Off y ∧
    ((-1073741824 ≤ qF x.lo y.lo ∧ qC x.lo y.lo ≤ 1073741824) ∧ (-1073741824 ≤ qF x.lo y.hi ∧ qC x.lo y.hi ≤ 1073741824) ∧ (-1073741824 ≤ qF x.hi y.lo ∧ qC x.hi y.lo ≤ 1073741824) ∧ (-1073741824 ≤ qF x.hi y.hi ∧ qC x.hi y.hi ≤ 1073741824)) := by
  have hb : ivBoth x y = true := by
    cases hb : ivBoth x y
    · unfold ivDiv at h
      rw [hb] at h
      simp [right_none] at h
    · rfl
  have h0 : Off y := by
    intro h0
    unfold ivDiv at h
    rw [hb, has_zero (both_iff.1 hb).2, show decide (y.lo ≤ 0 ∧ 0 ≤ y.hi) = true by simpa using h0] at h
    simp [right_none] at h
  refine ⟨hb, h0, ?_⟩
  rw [div_form hb h0] at h
  split at h
  · rename_i hc
    simp only [Bool.and_eq_true, told_ok] at hc
    omega
  · rw [right_none] at h
    cases h
theorem less_div {p q x y : Iv} (h : Part p x) (k : Part q y) : ivLess (ivDiv p q) (ivDiv x y) = true := by
  cases hr : ivRight (ivDiv x y)
  · unfold ivLess
    rw [hr]
    rfl
  · obtain ⟨hb, h0, hq⟩ := div_right hr
    have b := part_bd h
    have c := part_bd k
    have e := div_yes hb h0 hq
    have h0' : Off q := by unfold Off at *; omega
    rw [e] at hr ⊢
    have hr' := right_of_of.1 hr
    have t : ∀ u v, (u = p.lo ∨ u = p.hi) → (v = q.lo ∨ v = q.hi) → min4 (qF x.lo y.lo) (qF x.lo y.hi) (qF x.hi y.lo) (qF x.hi y.hi) ≤ qF u v ∧ qF u v ≤ qC u v ∧ qC u v ≤ max4 (qC x.lo y.lo) (qC x.lo y.hi) (qC x.hi y.lo) (qC x.hi y.hi) :=
      fun u v hu hv => q_between (xl := x.lo) (xh := x.hi) (yl := y.lo) (yh := y.hi) (by omega) (by omega) h0 (by unfold min4; omega) (by unfold max4; omega)
    have t1 := t p.lo q.lo (.inl rfl) (.inl rfl)
    have t2 := t p.lo q.hi (.inl rfl) (.inr rfl)
    have t3 := t p.hi q.lo (.inr rfl) (.inl rfl)
    have t4 := t p.hi q.hi (.inr rfl) (.inr rfl)
    generalize min4 (qF x.lo y.lo) (qF x.lo y.hi) (qF x.hi y.lo) (qF x.hi y.hi) = m at *
    generalize max4 (qC x.lo y.lo) (qC x.lo y.hi) (qC x.hi y.lo) (qC x.hi y.hi) = M at *
    rw [div_yes (part_both h k).1 h0' (by omega)]
    exact less_of (by unfold min4 max4; omega)
/-- The exact quotient of numbers in two intervals lies in the answer. -/
theorem div_encloses {x y : Iv} {p q : Int} (h : ivRight (ivDiv x y) = true) (hp : x.lo ≤ p ∧ p ≤ x.hi) (hq : y.lo ≤ q ∧ q ≤ y.hi) :
    (0 < q ∧ (ivDiv x y).lo * q ≤ p * 65536 ∧ p * 65536 ≤ (ivDiv x y).hi * q) ∨ (q < 0 ∧ p * 65536 ≤ (ivDiv x y).lo * q ∧ (ivDiv x y).hi * q ≤ p * 65536) := by
  obtain ⟨hb, h0, hr⟩ := div_right h
  have e := div_yes hb h0 hr
  rw [e] at h ⊢
  rw [of_yes (right_of_of.1 h)]
  have t := q_between (m := min4 (qF x.lo y.lo) (qF x.lo y.hi) (qF x.hi y.lo) (qF x.hi y.hi)) (M := max4 (qC x.lo y.lo) (qC x.lo y.hi) (qC x.hi y.lo) (qC x.hi y.hi)) hp hq h0 (by unfold min4; omega) (by unfold max4; omega)
  dsimp only
  generalize min4 (qF x.lo y.lo) (qF x.lo y.hi) (qF x.hi y.lo) (qF x.hi y.hi) = m at *
  generalize max4 (qC x.lo y.lo) (qC x.lo y.hi) (qC x.hi y.lo) (qC x.hi y.hi) = M at *
  unfold Off at h0
  unfold qF qC at t
  by_cases hp : 0 < q
  · exact .inl ⟨hp, (fl_pos hp).1 t.1, (ce_pos hp).1 t.2.2⟩
  · have hn : q < 0 := by omega
    exact .inr ⟨hn, (fl_neg hn).1 t.1, (ce_neg hn).1 t.2.2⟩

end Go.Proofs.Ytgkkfmjlgmoefaa

