/-
  Beams behind one another, in plain numbers.
-/
import Derived.Test.YtnkiikdlmlaklaaBeam
import Derived.Test.YtnkiikdlmlaklaaTurnMath
namespace Go.Proofs.Ytnkiikdlmlaklaa
set_option linter.unusedVariables false

/-- The same beam, N and D times a number. -/
def timesB (b : Bp) (s : Int) : Bp := ⟨⟨b.n.x * s, b.n.y * s⟩, ⟨b.d.x * s, b.d.y * s⟩⟩
theorem carried_times (b : Bp) (s : Int) (m : M4) : carried (timesB b s) m = timesB (carried b m) s := by
  unfold carried mixP timesB
  dsimp only
  congr 1 <;> congr 1 <;> grind
theorem same_times {b : Bp} {s : Int} (h1 : isBp b = true) (h2 : isBp (timesB b s) = true) : sameP b (timesB b s) = true := by
  unfold sameP
  rw [h1, h2]
  unfold timesB
  simp only [Bool.true_and, Bool.and_eq_true, decide_eq_true_eq]
  constructor <;> grind
theorem zeroP_times {x y s : Int} (hs : s ≠ 0) : zeroP ⟨x * s, y * s⟩ = zeroP ⟨x, y⟩ := by
  unfold zeroP
  dsimp only
  have e : ∀ n : Int, decide (n * s = 0) = decide (n = 0) := fun n => by
    by_cases h : n = 0
    · subst h; simp
    · have : n * s ≠ 0 := Int.mul_ne_zero h hs
      simp [h, this]
  rw [e, e]
theorem small_true {n : Int} (h : -1048576 ≤ n ∧ n ≤ 1048576) : smallI n = true := by unfold smallI; simp [h.1, h.2]
theorem first_same {x y u v s : Int} (hx : -40 ≤ x ∧ x ≤ 40) (hy : -40 ≤ y ∧ y ≤ 40) (hu : -40 ≤ u ∧ u ≤ 40) (hv : -40 ≤ v ∧ v ≤ 40) (hs : 1 ≤ s ∧ s ≤ 5) : sameP ⟨⟨x, y⟩, ⟨u, v⟩⟩ ⟨⟨x * s, y * s⟩, ⟨u * s, v * s⟩⟩ = isBp ⟨⟨x, y⟩, ⟨u, v⟩⟩ := by
  have b1 := small_mul hx (n := s) (by omega)
  have b2 := small_mul hy (n := s) (by omega)
  have b3 := small_mul hu (n := s) (by omega)
  have b4 := small_mul hv (n := s) (by omega)
  have e : isBp ⟨⟨x * s, y * s⟩, ⟨u * s, v * s⟩⟩ = isBp ⟨⟨x, y⟩, ⟨u, v⟩⟩ := by
    unfold isBp smallP
    dsimp only
    rw [zeroP_times (by omega), zeroP_times (by omega), small_true (n := x) (by omega), small_true (n := y) (by omega), small_true (n := u) (by omega), small_true (n := v) (by omega), small_true (n := x * s) (by omega), small_true (n := y * s) (by omega), small_true (n := u * s) (by omega), small_true (n := v * s) (by omega)]
  cases h : isBp ⟨⟨x, y⟩, ⟨u, v⟩⟩
  · unfold sameP; rw [h]; rfl
  · exact same_times (b := ⟨⟨x, y⟩, ⟨u, v⟩⟩) (s := s) h (e.trans h)
/-- A matrix' number, made of any. -/
def mk8 (n : Int) : Int := if n.tmod 23 = 22 then n else n % 13 - 6
theorem carry_yes {b : Bp} {m : M4} (h : carryB b m = true) : carryP b m = carried b m ∧ isBp b = true ∧ isBp (carried b m) = true := by
  unfold carryB at h
  simp only [Bool.and_eq_true] at h
  exact ⟨if_pos (by unfold carryB; simp [h]), h.1, h.2.2⟩
theorem carry_no {b : Bp} {m : M4} (h : carryB b m = false) : carryP b m = ⟨⟨0, 0⟩, ⟨0, 0⟩⟩ := by
  unfold carryP
  rw [h]
  rfl
/-- What a step makes of a beam, and of the same one times a number. -/
theorem carry_form (x y u v s : Int) (m : M4) :
    (carryB ⟨⟨x, y⟩, ⟨u, v⟩⟩ m = false ∧ carryP ⟨⟨x, y⟩, ⟨u, v⟩⟩ m = ⟨⟨0, 0⟩, ⟨0, 0⟩⟩) ∨
    ∃ x' y' u' v', carryB ⟨⟨x, y⟩, ⟨u, v⟩⟩ m = true ∧ carryP ⟨⟨x, y⟩, ⟨u, v⟩⟩ m = ⟨⟨x', y'⟩, ⟨u', v'⟩⟩ ∧ isBp ⟨⟨x', y'⟩, ⟨u', v'⟩⟩ = true ∧
      ((carryB ⟨⟨x * s, y * s⟩, ⟨u * s, v * s⟩⟩ m = false ∧ carryP ⟨⟨x * s, y * s⟩, ⟨u * s, v * s⟩⟩ m = ⟨⟨0, 0⟩, ⟨0, 0⟩⟩) ∨
       (carryB ⟨⟨x * s, y * s⟩, ⟨u * s, v * s⟩⟩ m = true ∧ carryP ⟨⟨x * s, y * s⟩, ⟨u * s, v * s⟩⟩ m = ⟨⟨x' * s, y' * s⟩, ⟨u' * s, v' * s⟩⟩ ∧ (-1048576 ≤ x' * s ∧ x' * s ≤ 1048576) ∧ (-1048576 ≤ y' * s ∧ y' * s ≤ 1048576) ∧ (-1048576 ≤ u' * s ∧ u' * s ≤ 1048576) ∧ (-1048576 ≤ v' * s ∧ v' * s ≤ 1048576) ∧ sameP ⟨⟨x', y'⟩, ⟨u', v'⟩⟩ ⟨⟨x' * s, y' * s⟩, ⟨u' * s, v' * s⟩⟩ = true)) := by
  cases h : carryB ⟨⟨x, y⟩, ⟨u, v⟩⟩ m
  · exact .inl ⟨rfl, carry_no h⟩
  · obtain ⟨h1, -, h3⟩ := carry_yes h
    refine .inr ?_
    have ht := carried_times ⟨⟨x, y⟩, ⟨u, v⟩⟩ s m
    obtain ⟨x', y', u', v', hE⟩ : ∃ x' y' u' v', carried ⟨⟨x, y⟩, ⟨u, v⟩⟩ m = ⟨⟨x', y'⟩, ⟨u', v'⟩⟩ := ⟨_, _, _, _, rfl⟩
    rw [hE] at h1 h3 ht
    refine ⟨x', y', u', v', rfl, h1, h3, ?_⟩
    have hq : timesB ⟨⟨x, y⟩, ⟨u, v⟩⟩ s = ⟨⟨x * s, y * s⟩, ⟨u * s, v * s⟩⟩ := rfl
    have hq' : timesB ⟨⟨x', y'⟩, ⟨u', v'⟩⟩ s = ⟨⟨x' * s, y' * s⟩, ⟨u' * s, v' * s⟩⟩ := rfl
    cases g : carryB ⟨⟨x * s, y * s⟩, ⟨u * s, v * s⟩⟩ m
    · exact .inl ⟨rfl, carry_no g⟩
    · obtain ⟨g1, -, g3⟩ := carry_yes g
      rw [← hq, ht] at g3
      rw [← hq, ht, hq, hq'] at g1
      obtain ⟨b1, b2, b3, b4⟩ := isBp_bd (hq' ▸ g3)
      exact .inr ⟨rfl, g1, b1, b2, b3, b4, hq' ▸ same_times h3 g3⟩
theorem bp_bd40 {x y u v : Int} (hx : -40 ≤ x ∧ x ≤ 40) (hy : -40 ≤ y ∧ y ≤ 40) (hu : -40 ≤ u ∧ u ≤ 40) (hv : -40 ≤ v ∧ v ≤ 40) : (-1048576 ≤ x ∧ x ≤ 1048576) ∧ (-1048576 ≤ y ∧ y ≤ 1048576) ∧ (-1048576 ≤ u ∧ u ≤ 1048576) ∧ (-1048576 ≤ v ∧ v ≤ 1048576) := by omega
theorem scale_bd {x s : Int} (hx : -1048576 ≤ x ∧ x ≤ 1048576) (hs : 1 ≤ s ∧ s ≤ 5) : -5242880 ≤ x * s ∧ x * s ≤ 5242880 := by
  have a : (x * s).natAbs = x.natAbs * s.natAbs := Int.natAbs_mul x s
  have b : x.natAbs * s.natAbs ≤ 1048576 * 5 := Nat.mul_le_mul (by omega) (by omega)
  omega
end Go.Proofs.Ytnkiikdlmlaklaa

