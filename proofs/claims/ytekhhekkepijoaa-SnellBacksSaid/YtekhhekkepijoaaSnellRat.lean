/-
  What is bent across the axis, in fractions: its length has One; bent back it has the way it was.
-/
import Derived.Test.YtekhhekkepijoaaSnellMath
namespace Go.Proofs.Ytekhhekkepijoaa
set_option linter.unusedVariables false

def axisP : Pl := ⟨⟨0, 0, false⟩, ⟨0, 0, false⟩, ⟨65536, 65536, false⟩⟩
theorem zero_mul' {a : Iv} (h : ivRight a = true) : ivMul ⟨0, 0, false⟩ a = ⟨0, 0, false⟩ := by rw [mul_comm', mul_zero h]
theorem one_mul' {a : Iv} (h : ivRight a = true) : ivMul ⟨65536, 65536, false⟩ a = a := by rw [mul_comm', mul_one h]
theorem zero_add' {a : Iv} (h : ivRight a = true) : ivAdd ⟨0, 0, false⟩ a = a := by rw [add_comm', add_zero h]
theorem dot_axis {d : Pl} (h : PRight d) : plDot d axisP = d.z := by
  unfold plDot axisP plSum
  dsimp only
  rw [mul_zero h.1, mul_zero h.2.1, mul_one h.2.2, show ivAdd ⟨0, 0, false⟩ ⟨0, 0, false⟩ = ⟨0, 0, false⟩ by decide, zero_add' h.2.2]
/-- Bent across the axis. -/
theorem bend_axis {d : Pl} {r : Iv} (h : (bendP d axisP r).2 = 1) :
    PRight d ∧ ivRight r = true ∧ 0 < d.z.lo ∧ ivRight (bendK d.z r) = true ∧ ivRight (ivMul d.x r) = true ∧ ivRight (ivMul d.y r) = true ∧
    ivRight (ivAdd (ivMul d.z r) (ivSub (ivRoot (bendK d.z r)) (ivMul r d.z))) = true ∧ 
    (bendP d axisP r).1 = ⟨ivMul d.x r, ivMul d.y r, ivAdd (ivMul d.z r) (ivSub (ivRoot (bendK d.z r)) (ivMul r d.z))⟩ := by
  rcases bend_parts d axisP r with ⟨g, g0, k, k0, o, e⟩ | ⟨-, -, -, -, e⟩ | e
  · have hd := (dot_rights g).1
    rw [dot_axis hd] at g g0 k k0 o e
    obtain ⟨o1, o2, o3⟩ := plRight_iff.1 o
    have f := (rights_mul (rights_add o3).2).2
    have x0 : ivRight (ivMul d.x r) = true := (rights_add o1).1
    have y0 : ivRight (ivMul d.y r) = true := (rights_add o2).1
    have ez : (bendO d axisP d.z r (bendK d.z r)) = ⟨ivMul d.x r, ivMul d.y r, ivAdd (ivMul d.z r) (ivSub (ivRoot (bendK d.z r)) (ivMul r d.z))⟩ := by
      unfold bendO plAdd plScale axisP
      dsimp only
      rw [zero_mul' f, one_mul' f, add_zero x0, add_zero y0]
    rw [ez] at e o3
    exact ⟨hd, (bendK_rights k).1, g0, k, x0, y0, o3, by rw [e]⟩
  · rw [e] at h; cases h
  · rw [e] at h; cases h
theorem inq_one' : InQ 1 oneI := by
  have h : InQ ((65536 : Int) / 65536 : Rat) oneI := inq_point (n := 65536) (by decide) (by decide) (by decide)
  have e : ((65536 : Int) / 65536 : Rat) = 1 := by decide +kernel
  rwa [e] at h
theorem inq_root_exact {x : Rat} {a : Iv} (h0 : 0 ≤ x) (hx : InQ (x * x) a) (h : ivRight (ivRoot a) = true) : InQ x (ivRoot a) := by
  obtain ⟨l0, r0, r1, r2, r3⟩ := root_ends h
  obtain ⟨-, x1, x2⟩ := hx
  have c2 := cast_le r2
  have c3 := cast_le r3
  have c4 := cast_le r0
  have c5 := cast_le (Int.le_trans r0 r1)
  rw [Rat.intCast_mul, Rat.intCast_mul] at c2 c3
  simp at c2 c3 c4 c5
  have y0 : 0 ≤ x * 65536 := by grind
  refine ⟨h, ?_, ?_⟩
  · generalize ((ivRoot a).lo : Rat) = L at *
    by_cases k : L ≤ x * 65536
    · exact k
    · exfalso
      have m1 := Rat.mul_lt_mul_of_pos_left (show x * 65536 < L by grind) (show 0 < L by grind)
      have m2 := Rat.mul_le_mul_of_nonneg_left (show x * 65536 ≤ L by grind) y0
      grind
  · generalize ((ivRoot a).hi : Rat) = U at *
    by_cases k : x * 65536 ≤ U
    · exact k
    · exfalso
      have m1 := Rat.mul_lt_mul_of_pos_left (show U < x * 65536 by grind) (show 0 < x * 65536 by grind)
      have m2 := Rat.mul_le_mul_of_nonneg_left (show U ≤ x * 65536 by grind) c5
      grind
/-- What is nearly in both: they meet. -/
theorem meet_near {x y : Rat} {a b : Iv} (hx : InQ x a) (hy : InQ y b) (h1 : (x - y) * 65536 < 1) (h2 : (y - x) * 65536 < 1) : ivRight (ivMeet a b) = true := by
  obtain ⟨ra, a1, a2⟩ := hx
  obtain ⟨rb, b1, b2⟩ := hy
  have ba := right_bd ra
  have bb := right_bd rb
  have k1 : a.lo ≤ b.hi := by
    by_cases k : a.lo ≤ b.hi
    · exact k
    · exfalso
      have := cast_le (show b.hi + 1 ≤ a.lo by omega)
      rw [Rat.intCast_add] at this
      simp at this
      grind
  have k2 : b.lo ≤ a.hi := by
    by_cases k : b.lo ≤ a.hi
    · exact k
    · exfalso
      have := cast_le (show a.hi + 1 ≤ b.lo by omega)
      rw [Rat.intCast_add] at this
      simp at this
      grind
  unfold ivMeet
  rw [if_pos (both_iff.2 ⟨ra, rb⟩)]
  exact right_of_of.2 (by omega)
theorem meet_self' {a : Iv} (h : ivRight a = true) : ivRight (ivMeet a a) = true := by
  have b := right_bd h
  unfold ivMeet
  rw [if_pos (both_iff.2 ⟨h, h⟩)]
  exact right_of_of.2 (by omega)
/-- What is nearly One is One. -/
theorem has_near {x : Rat} {a : Iv} (hx : InQ x a) (h1 : (x - 1) * 65536 < 1) (h2 : (1 - x) * 65536 < 1) : ivHas a 65536 = true := by
  obtain ⟨ra, a1, a2⟩ := hx
  have k1 : a.lo ≤ 65536 := by
    by_cases k : a.lo ≤ 65536
    · exact k
    · exfalso
      have := cast_le (show 65537 ≤ a.lo by omega)
      have e : ((65537 : Int) : Rat) = 65537 := rfl
      rw [e] at this
      grind
  have k2 : 65536 ≤ a.hi := by
    by_cases k : 65536 ≤ a.hi
    · exact k
    · exfalso
      have := cast_le (show a.hi ≤ 65535 by omega)
      have e : ((65535 : Int) : Rat) = 65535 := rfl
      rw [e] at this
      grind
  unfold ivHas
  rw [ra]
  simp [k1, k2]
/-- Fine roots: within a thousandth of a step. -/
theorem fine_root {X : Rat} {a : Iv} (hX : InQ X a) (h : ivRight (ivRoot a) = true) : ∃ τ : Rat, 0 ≤ X ∧ 0 ≤ τ ∧ τ * τ ≤ X ∧ X ≤ (τ + 1 / 65536000) * (τ + 1 / 65536000) ∧ InQ τ (ivRoot a) := by
  obtain ⟨x0, hi⟩ := inq_rootQ (M := 1000) (by decide) hX h
  obtain ⟨q0, q1, q2, v0, inv⟩ := rootQ_bd (N := 65536 * 1000) (X := X) (by decide) x0
  have e : ((65536 * 1000 : Nat) : Rat) = 65536000 := rfl
  rw [e] at q2 v0 inv
  have ev : (65536000 : Rat)⁻¹ = 1 / 65536000 := by decide +kernel
  rw [ev] at q2
  exact ⟨_, x0, q0, q1, q2, hi⟩

/-- A unit way of exact numbers: what of it lies in its answer. -/
theorem lean_unit {X Y : Int} (hX : -65536 ≤ X ∧ X ≤ 65536) (hY : -65536 ≤ Y ∧ Y ≤ 65536) (hr : PRight (plUnit ⟨⟨X, X, false⟩, ⟨Y, Y, false⟩, ⟨65536, 65536, false⟩⟩)) :
    ∃ α β γ : Rat, InQ α (plUnit ⟨⟨X, X, false⟩, ⟨Y, Y, false⟩, ⟨65536, 65536, false⟩⟩).x ∧ InQ β (plUnit ⟨⟨X, X, false⟩, ⟨Y, Y, false⟩, ⟨65536, 65536, false⟩⟩).y ∧ InQ γ (plUnit ⟨⟨X, X, false⟩, ⟨Y, Y, false⟩, ⟨65536, 65536, false⟩⟩).z ∧
      1 / 2 ≤ γ ∧ γ ≤ 2 ∧ 1 ≤ α * α + β * β + γ * γ ∧ α * α + β * β + γ * γ ≤ 1 + 1 / 13000000 := by
  have rx : ivRight ⟨X, X, false⟩ = true := right_of.2 (by omega)
  have ry : ivRight ⟨Y, Y, false⟩ = true := right_of.2 (by omega)
  have ix : InQ ((X : Rat) / 65536) ⟨X, X, false⟩ := inq_point rx (Int.le_refl _) (Int.le_refl _)
  have iy : InQ ((Y : Rat) / 65536) ⟨Y, Y, false⟩ := inq_point ry (Int.le_refl _) (Int.le_refl _)
  have iz : InQ 1 ⟨65536, 65536, false⟩ := inq_one'
  have cx1 := cast_le hX.1
  have cx2 := cast_le hX.2
  have cy1 := cast_le hY.1
  have cy2 := cast_le hY.2
  simp at cx1 cx2 cy1 cy2
  obtain ⟨a, ha⟩ : ∃ a : Rat, (X : Rat) / 65536 = a := ⟨_, rfl⟩
  obtain ⟨b, hb⟩ : ∃ b : Rat, (Y : Rat) / 65536 = b := ⟨_, rfl⟩
  rw [ha] at ix
  rw [hb] at iy
  have a1 : -1 ≤ a ∧ a ≤ 1 := by grind
  have b1 : -1 ≤ b ∧ b ≤ 1 := by grind
  have aa : a * a ≤ 1 := by
    have := Rat.mul_nonneg (show 0 ≤ 1 - a by grind) (show 0 ≤ 1 + a by grind)
    grind
  have bb : b * b ≤ 1 := by
    have := Rat.mul_nonneg (show 0 ≤ 1 - b by grind) (show 0 ≤ 1 + b by grind)
    grind
  have a0 := sq_nonneg_q a
  have b0 := sq_nonneg_q b
  have hL := (both_iff.1 (div_right hr.1).1).2
  obtain ⟨⟨q1, q2, q3⟩, -⟩ := sum_right (rights_root hL)
  have il : InQ (a * a + b * b + 1 * 1) (plLen2 ⟨⟨X, X, false⟩, ⟨Y, Y, false⟩, ⟨65536, 65536, false⟩⟩) := by
    have hs := rights_root hL
    exact inq_add (inq_add (inq_sqr ix q1) (inq_sqr iy q2) (rights_add hs).1) (inq_sqr iz q3) hs
  obtain ⟨σ, -, s0, s1, s2, is⟩ := fine_root il hL
  obtain ⟨i1, -⟩ := inq_quot ix is hr.1
  obtain ⟨i2, -⟩ := inq_quot iy is hr.2.1
  obtain ⟨i3, e3⟩ := inq_quot iz is hr.2.2
  obtain ⟨γ, hγ⟩ : ∃ γ : Rat, 1 / σ = γ := ⟨_, rfl⟩
  rw [hγ] at i3 e3
  have sne : ¬ σ = 0 := fun h => by rw [h] at e3; grind
  have ea : a / σ = a * γ := by rw [← hγ]; grind
  have eb : b / σ = b * γ := by rw [← hγ]; grind
  rw [ea] at i1
  rw [eb] at i2
  have slo : 9 / 10 ≤ σ := by
    by_cases k : 9 / 10 ≤ σ
    · exact k
    · exfalso
      have m := Rat.mul_le_mul_of_nonneg_left (show σ + 1 / 65536000 ≤ 1 - 1 / 11 by grind) (show 0 ≤ σ + 1 / 65536000 by grind)
      grind
  have shi : σ ≤ 2 := by
    by_cases k : σ ≤ 2
    · exact k
    · exfalso
      have m := Rat.mul_le_mul_of_nonneg_left (show 2 ≤ σ by grind) (show 0 ≤ σ by grind)
      grind
  have g0 : 0 < γ := by
    by_cases k : 0 < γ
    · exact k
    · exfalso
      have := Rat.mul_nonneg (show 0 ≤ -γ by grind) s0
      grind
  have g1 : 1 / 2 ≤ γ := by
    have := Rat.mul_le_mul_of_nonneg_left shi (Rat.le_of_lt g0)
    grind
  have g2 : γ ≤ 10 / 9 := by
    have := Rat.mul_le_mul_of_nonneg_left slo (Rat.le_of_lt g0)
    grind
  have gg := sq_nonneg_q γ
  have u1 := Rat.mul_le_mul_of_nonneg_right s1 gg
  have u2 := Rat.mul_le_mul_of_nonneg_right s2 gg
  have e5 : (a * a + b * b + 1 * 1) * (γ * γ) = a * γ * (a * γ) + b * γ * (b * γ) + γ * γ := by grind
  rw [e5] at u1 u2
  have e4 : σ * σ * (γ * γ) = 1 := by
    have : σ * σ * (γ * γ) = γ * σ * (γ * σ) := by grind
    rw [this, e3]
    grind
  rw [e4] at u1
  refine ⟨a * γ, b * γ, γ, i1, i2, i3, g1, by grind, u1, ?_⟩
  · have e : (σ + 1 / 65536000) * (σ + 1 / 65536000) * (γ * γ) = (1 + γ / 65536000) * (1 + γ / 65536000) := by grind
    rw [e] at u2
    have m := Rat.mul_le_mul_of_nonneg_left (show 1 + γ / 65536000 ≤ 1 + 1 / 58000000 by grind) (show 0 ≤ 1 + γ / 65536000 by grind)
    grind

/-- SnellKeeps in fractions: what is bent has One in its length's square. -/
theorem keeps_long {d : Pl} {r : Iv} {α β γ ρ : Rat} (ha : InQ α d.x) (hb : InQ β d.y) (hg : InQ γ d.z) (hr : InQ ρ r) (g1 : 1 / 2 ≤ γ) (g2 : γ ≤ 2) (t1 : 1 ≤ α * α + β * β + γ * γ) (t2 : α * α + β * β + γ * γ ≤ 1 + 1 / 13000000) (r0 : 0 ≤ ρ) (r1 : ρ ≤ 2)
    (h : (bendP d axisP r).2 = 1) :
    (ivRight (plLen2 (bendP d axisP r).1) = true → ivHas (plLen2 (bendP d axisP r).1) 65536 = true) ∧
    ∃ τ : Rat, 0 ≤ τ ∧ τ ≤ 5 ∧ τ * τ ≤ 1 - ρ * ρ * (1 - γ * γ) ∧ 1 - ρ * ρ * (1 - γ * γ) ≤ (τ + 1 / 65536000) * (τ + 1 / 65536000) ∧ InQ (α * ρ) (bendP d axisP r).1.x ∧ InQ (β * ρ) (bendP d axisP r).1.y ∧ InQ τ (bendP d axisP r).1.z := by
  obtain ⟨hd, rr, -, k, x0, y0, z0, e⟩ := bend_axis h
  rw [e]
  have ik : InQ (1 - ρ * ρ * (1 - γ * γ)) (bendK d.z r) := by
    obtain ⟨⟨-, k2⟩, -⟩ := sub_ends k
    obtain ⟨k3, k4⟩ := rights_mul k2
    exact inq_sub inq_one' (inq_mul (inq_sqr hr k3) (inq_sub inq_one' (inq_sqr hg (sub_ends k4).1.2) k4) k2) k
  have hf := (rights_add z0).2
  obtain ⟨⟨hq, hm⟩, -⟩ := sub_ends hf
  obtain ⟨τ, p0, s0, s1, s2, is⟩ := fine_root ik hq
  have iz : InQ τ (ivAdd (ivMul d.z r) (ivSub (ivRoot (bendK d.z r)) (ivMul r d.z))) := by
    have := inq_add (inq_mul hg hr (rights_add z0).1) (inq_sub is (inq_mul hr hg hm) hf) z0
    have e2 : γ * ρ + (τ - ρ * γ) = τ := by grind
    rwa [e2] at this
  have ix := inq_mul ha hr x0
  have iy := inq_mul hb hr y0
  have rr4 : ρ * ρ ≤ 4 := by
    have := Rat.mul_nonneg (show 0 ≤ 2 - ρ by grind) (show 0 ≤ 2 + ρ by grind)
    grind
  have rr0 := sq_nonneg_q ρ
  have gg4 : γ * γ ≤ 4 := by
    have := Rat.mul_nonneg (show 0 ≤ 2 - γ by grind) (show 0 ≤ 2 + γ by grind)
    grind
  have k17 : 1 - ρ * ρ * (1 - γ * γ) ≤ 17 := by
    have := Rat.mul_nonneg rr0 (show 0 ≤ 4 - γ * γ by grind)
    grind
  have t5 : τ ≤ 5 := by
    by_cases q : τ ≤ 5
    · exact q
    · exfalso
      have m := Rat.mul_le_mul_of_nonneg_left (show 5 ≤ τ by grind) s0
      grind
  refine ⟨fun hl => ?_, τ, s0, t5, s1, s2, ix, iy, iz⟩
  obtain ⟨⟨q1, q2, q3⟩, -⟩ := sum_right hl
  have hl' := hl
  unfold plLen2 plSum at hl' ⊢
  have il := inq_add (inq_add (inq_sqr ix q1) (inq_sqr iy q2) (rights_add hl').1) (inq_sqr iz q3) hl'
  have u1 := Rat.mul_le_mul_of_nonneg_left t1 rr0
  have u2 := Rat.mul_le_mul_of_nonneg_left t2 rr0
  have e3 : α * ρ * (α * ρ) + β * ρ * (β * ρ) + τ * τ - 1 = ρ * ρ * (α * α + β * β + γ * γ - 1) + (τ * τ - (1 - ρ * ρ * (1 - γ * γ))) := by grind
  refine has_near il ?_ ?_
  · grind
  · grind

theorem bend_tau {d : Pl} {r : Iv} {α β γ ρ : Rat} (ha : InQ α d.x) (hb : InQ β d.y) (hg : InQ γ d.z) (hr : InQ ρ r) (h : (bendP d axisP r).2 = 1) :
    ∃ τ : Rat, 0 ≤ τ ∧ τ * τ ≤ 1 - ρ * ρ * (1 - γ * γ) ∧ 1 - ρ * ρ * (1 - γ * γ) ≤ (τ + 1 / 65536000) * (τ + 1 / 65536000) ∧ InQ (α * ρ) (bendP d axisP r).1.x ∧ InQ (β * ρ) (bendP d axisP r).1.y ∧ InQ τ (bendP d axisP r).1.z := by
  obtain ⟨hd, rr, -, k, x0, y0, z0, e⟩ := bend_axis h
  rw [e]
  have ik : InQ (1 - ρ * ρ * (1 - γ * γ)) (bendK d.z r) := by
    obtain ⟨⟨-, k2⟩, -⟩ := sub_ends k
    obtain ⟨k3, k4⟩ := rights_mul k2
    exact inq_sub inq_one' (inq_mul (inq_sqr hr k3) (inq_sub inq_one' (inq_sqr hg (sub_ends k4).1.2) k4) k2) k
  have hf := (rights_add z0).2
  obtain ⟨⟨hq, hm⟩, -⟩ := sub_ends hf
  obtain ⟨τ, p0, s0, s1, s2, is⟩ := fine_root ik hq
  have iz := inq_add (inq_mul hg hr (rights_add z0).1) (inq_sub is (inq_mul hr hg hm) hf) z0
  have e2 : γ * ρ + (τ - ρ * γ) = τ := by grind
  rw [e2] at iz
  exact ⟨τ, s0, s1, s2, inq_mul ha hr x0, inq_mul hb hr y0, iz⟩
/-- What surely is not thrown back. -/
theorem bend_not_no {d : Pl} {r : Iv} {γ ρ : Rat} (hg : PRight d → InQ γ d.z) (hr : InQ ρ r) (h : 0 ≤ 1 - ρ * ρ * (1 - γ * γ)) : ¬ (bendP d axisP r).2 = 2 := by
  intro hn
  rcases bend_parts d axisP r with ⟨-, -, -, -, -, e⟩ | ⟨g, -, k, k0, -⟩ | e
  · rw [e] at hn; cases hn
  · have hd := (dot_rights g).1
    rw [dot_axis hd] at k k0
    have ik : InQ (1 - ρ * ρ * (1 - γ * γ)) (bendK d.z r) := by
      obtain ⟨⟨-, k2⟩, -⟩ := sub_ends k
      obtain ⟨k3, k4⟩ := rights_mul k2
      exact inq_sub inq_one' (inq_mul (inq_sqr hr k3) (inq_sub inq_one' (inq_sqr (hg hd) (sub_ends k4).1.2) k4) k2) k
    have := ik.2.2
    have c := cast_le (show (bendK d.z r).hi ≤ -1 by omega)
    have e : (((-1 : Int)) : Rat) = -1 := rfl
    rw [e] at c
    grind
  · rw [e] at hn; cases hn
/-- With the ratio One a way has its own in the answer. -/
theorem keeps_one {d : Pl} {γ : Rat} (hg : PRight d → InQ γ d.z) (g0 : 0 ≤ γ) :
    ¬ (bendP d axisP ⟨65536, 65536, false⟩).2 = 2 ∧ ((bendP d axisP ⟨65536, 65536, false⟩).2 = 1 → ivRight (ivMeet (bendP d axisP ⟨65536, 65536, false⟩).1.x d.x) = true ∧ ivRight (ivMeet (bendP d axisP ⟨65536, 65536, false⟩).1.z d.z) = true) := by
  have i1 : InQ 1 ⟨65536, 65536, false⟩ := inq_one'
  have gg := sq_nonneg_q γ
  have e1 : (1 : Rat) - 1 * 1 * (1 - γ * γ) = γ * γ := by grind
  refine ⟨bend_not_no hg i1 (by rw [e1]; exact gg), fun h => ?_⟩
  obtain ⟨hd, -, -, k, x0, y0, z0, e⟩ := bend_axis h
  rw [e]
  dsimp only
  have ig := hg hd
  have ik : InQ (γ * γ) (bendK d.z ⟨65536, 65536, false⟩) := by
    obtain ⟨⟨-, k2⟩, -⟩ := sub_ends k
    obtain ⟨k3, k4⟩ := rights_mul k2
    have := inq_sub inq_one' (inq_mul (inq_sqr i1 k3) (inq_sub inq_one' (inq_sqr ig (sub_ends k4).1.2) k4) k2) k
    rwa [e1] at this
  have hf := (rights_add z0).2
  obtain ⟨⟨hq, hm⟩, -⟩ := sub_ends hf
  have iz := inq_add (inq_mul ig i1 (rights_add z0).1) (inq_sub (inq_root_exact g0 ik hq) (inq_mul i1 ig hm) hf) z0
  have e2 : γ * 1 + (γ - 1 * γ) = γ := by grind
  rw [e2] at iz
  rw [mul_one hd.1]
  refine ⟨meet_self' hd.1, ?_⟩
  rw [mul_one hd.2.2] at iz ⊢
  exact meet_near iz ig (by grind) (by grind)
/-- Bent, and bent back with the ratio turned about: a way has itself in the answer. -/
theorem snell_back {d : Pl} {r q : Iv} {α β γ κ μ : Rat} (ha : InQ α d.x) (hb : InQ β d.y) (hg : InQ γ d.z) (hr : InQ κ r) (hq : InQ μ q) (hk : κ * μ = 1) (k0 : 1 / 2 ≤ κ) (k1 : κ ≤ 2) (m0 : 1 / 2 ≤ μ) (m1 : μ ≤ 2) (g1 : 1 / 2 ≤ γ) (g2 : γ ≤ 2)
    (h : (bendP d axisP r).2 = 1) :
    ¬ (bendP (bendP d axisP r).1 axisP q).2 = 2 ∧ ((bendP (bendP d axisP r).1 axisP q).2 = 1 →
      ivRight (ivMeet (bendP (bendP d axisP r).1 axisP q).1.x d.x) = true ∧ ivRight (ivMeet (bendP (bendP d axisP r).1 axisP q).1.y d.y) = true ∧ ivRight (ivMeet (bendP (bendP d axisP r).1 axisP q).1.z d.z) = true) := by
  obtain ⟨τ, t0, t1, t2, ix, iy, iz⟩ := bend_tau ha hb hg hr h
  generalize (bendP d axisP r).1 = p at *
  have kk4 : κ * κ ≤ 4 := by
    have := Rat.mul_nonneg (show 0 ≤ 2 - κ by grind) (show 0 ≤ 2 + κ by grind)
    grind
  have mm4 : μ * μ ≤ 4 := by
    have := Rat.mul_nonneg (show 0 ≤ 2 - μ by grind) (show 0 ≤ 2 + μ by grind)
    grind
  have gg4 : γ * γ ≤ 4 := by
    have := Rat.mul_nonneg (show 0 ≤ 2 - γ by grind) (show 0 ≤ 2 + γ by grind)
    grind
  have gg1 : 1 / 4 ≤ γ * γ := by
    have := Rat.mul_nonneg (show 0 ≤ γ - 1 / 2 by grind) (show 0 ≤ γ + 1 / 2 by grind)
    grind
  have kk0 := sq_nonneg_q κ
  have mm0 := sq_nonneg_q μ
  have t5 : τ ≤ 5 := by
    by_cases c : τ ≤ 5
    · exact c
    · exfalso
      have m := Rat.mul_le_mul_of_nonneg_left (show 5 ≤ τ by grind) t0
      have := Rat.mul_nonneg kk0 (show 0 ≤ 4 - γ * γ by grind)
      grind
  have hkk : κ * κ * (μ * μ) = 1 := by
    have : κ * κ * (μ * μ) = κ * μ * (κ * μ) := by grind
    rw [this, hk]
    grind
  have u1 := Rat.mul_le_mul_of_nonneg_left t1 mm0
  have u2 := Rat.mul_le_mul_of_nonneg_left t2 mm0
  have ek : μ * μ * (1 - κ * κ * (1 - γ * γ)) = μ * μ - (1 - γ * γ) := by
    have : μ * μ * (1 - κ * κ * (1 - γ * γ)) = μ * μ - κ * κ * (μ * μ) * (1 - γ * γ) := by grind
    rw [this, hkk]
    grind
  rw [ek] at u1 u2
  have hi2 : 1 - μ * μ * (1 - τ * τ) ≤ γ * γ := by grind
  have w := Rat.mul_le_mul_of_nonneg_right mm4 (show 0 ≤ 2 * τ * (1 / 65536000) + 1 / 65536000 * (1 / 65536000) by grind)
  have lo2 : γ * γ - 44 / 65536000 ≤ 1 - μ * μ * (1 - τ * τ) := by
    have : μ * μ * ((τ + 1 / 65536000) * (τ + 1 / 65536000)) = μ * μ * (τ * τ) + μ * μ * (2 * τ * (1 / 65536000) + 1 / 65536000 * (1 / 65536000)) := by grind
    grind
  refine ⟨bend_not_no (fun _ => iz) hq (by grind), fun h2 => ?_⟩
  obtain ⟨σ, s0, s1, s2, jx, jy, jz⟩ := bend_tau ix iy iz hq h2
  have ex : α * κ * μ = α := by
    have : α * κ * μ = α * (κ * μ) := by grind
    rw [this, hk]
    grind
  have ey : β * κ * μ = β := by
    have : β * κ * μ = β * (κ * μ) := by grind
    rw [this, hk]
    grind
  rw [ex] at jx
  rw [ey] at jy
  refine ⟨meet_near jx ha (by grind) (by grind), meet_near jy hb (by grind) (by grind), meet_near jz hg ?_ ?_⟩
  · -- σ is not above γ
    by_cases c : σ ≤ γ
    · grind
    · exfalso
      have m := Rat.mul_lt_mul_of_pos_left (show γ < σ by grind) (show 0 < σ by grind)
      have m2 := Rat.mul_le_mul_of_nonneg_left (show γ ≤ σ by grind) (show 0 ≤ γ by grind)
      grind
  · by_cases c : (γ - σ) * 65536 < 1
    · exact c
    · exfalso
      have m := Rat.mul_le_mul_of_nonneg_left (show σ + 1 / 65536000 ≤ γ - 999 / 65536000 by grind) (show 0 ≤ σ + 1 / 65536000 by grind)
      have m2 := Rat.mul_le_mul_of_nonneg_left (show σ + 1 / 65536000 ≤ γ - 999 / 65536000 by grind) (show 0 ≤ γ - 999 / 65536000 by grind)
      grind
end Go.Proofs.Ytekhhekkepijoaa

