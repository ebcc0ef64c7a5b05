/-
  The calls of chapter 9 at known texts and numbers.
-/
import Derived.Test.YtgikkcnpnnbgdaaGreatDoorDec2
import Derived.Test.YtgikkcnpnnbgdaaGreatDoorPrint
namespace Go.Proofs.YtgikkcnpnnbgdaaGreatDoor
set_option linter.unusedVariables false
open Go.ChangeShapes Go.WideShapes Go.ChangeAt Go.RowKit

/-- Digits, reckoned in so many steps. -/
def digF : Nat → Nat → List UInt8
  | 0, u => [UInt8.ofNat (48 + u)]
  | f + 1, u => if u < 10 then [UInt8.ofNat (48 + u)] else digF f (u / 10) ++ [UInt8.ofNat (48 + u % 10)]
theorem digF_eq : ∀ (f u : Nat), u < 10 ^ (f + 1) → Lib.decDigits u = digF f u
  | 0, u, h => by rw [decDigits_small (by simpa using h)]; rfl
  | f + 1, u, h => by
    unfold digF
    by_cases h9 : u < 10
    · rw [if_pos h9, decDigits_small h9]
    · rw [if_neg h9, decDigits_big h9, digF_eq f (u / 10) (by rw [Nat.pow_succ] at h; omega)]
def printF (d : Dec) : List UInt8 :=
  if decRight d = true ∧ headP d ≤ 99999 then
    (if d.c < 0 then [45] else []) ++ (digF 12 (headP d) ++ if d.s = 0 then [] else 46 :: (digF 12 (d.c.natAbs % 10 ^ d.s.toNat + 10 ^ d.s.toNat)).tail)
  else []
theorem printF_eq (d : Dec) : printP d = printF d := by
  unfold printP printF
  by_cases h : decRight d = true ∧ headP d ≤ 99999
  · rw [if_pos h, if_pos h]
    have h6 : d.s.toNat ≤ 6 := by
      obtain ⟨c, s⟩ := d
      obtain ⟨_, h3, h4, _⟩ := decRight_bd h.1
      simp only
      omega
    have hp : (10 : Nat) ^ d.s.toNat ≤ 10 ^ 6 := Nat.pow_le_pow_right (by decide) h6
    have hm : d.c.natAbs % 10 ^ d.s.toNat < 10 ^ d.s.toNat := Nat.mod_lt _ (Nat.pow_pos (by decide))
    rw [digF_eq 12 (headP d) (by have := h.2; omega)]
    unfold tailL
    rw [digF_eq 12 _ (by omega)]
  · rw [if_neg h, if_neg h]

theorem printF_c (W : World) (d : Dec) (ht : Tab W) (l : List UInt8) (e : printF d = l) : Calls Tryz.prog 29 #[decV d] W fun e w' => e = .returned (.string (bsOf l)) ∧ More W w' := by
  have := print_c W d ht
  rw [printF_eq, e] at this
  exact this

theorem lit_Lit9_0 (W : World) : Calls Tryz.prog 40 #[.string ⟨#[49, 46, 53, 48]⟩] W fun e w' => e = .returned (.tuple #[decV ⟨15, 1⟩, .bool true]) ∧ More W w' := lit_of (read_c ⟨#[49, 46, 53, 48]⟩ (by decide +kernel) W) (by kernel_rfl)
-- no meniscus/dec.Of
-- no meniscus/iv.Of

theorem print_15 (W : World) (ht : Tab W) : Calls Tryz.prog 29 #[decV ⟨15, 1⟩] W fun e w' => e = .returned (.string (bsOf [49, 46, 53])) ∧ More W w' := printF_c W _ ht _ (by kernel_rfl)

end Go.Proofs.YtgikkcnpnnbgdaaGreatDoor

