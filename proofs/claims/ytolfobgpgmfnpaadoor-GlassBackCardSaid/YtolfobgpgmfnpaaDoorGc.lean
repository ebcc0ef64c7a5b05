/-
  The contracts of package num, and of the plain saying of chapter 1.
  The contracts of the numbers that are handed in: any number as a number of steps.
  The calls of package gauss, at whole numbers and at those that are none.
  The contracts of package iv: each call answers what the plain interval of the same name is, and makes no more than memory of its own.
  The contracts of what the statements of chapter 1 lean on: the plain saying of the chapter, and the numbers that are handed in.
  The contracts of the plain saying of chapter 2: each call answers what the plain interval of the same name is.
-/
import Derived.Test.YtolfobgpgmfnpaaDoorRows
import Derived.Test.YtolfobgpgmfnpaaDoorGa
import Derived.WalkKit
import Derived.ProofKit
import Derived.OpenShut
import Derived.Outline
import Derived.Lib.Hide
import Derived.Test.YtolfobgpgmfnpaaDoorGb
import Derived.Test.YtolfobgpgmfnpaaDoorWord
import Derived.Laws.Externs
import Derived.WalkLawsBesides

namespace Go.Proofs.YtolfobgpgmfnpaaDoor
set_option linter.unusedVariables false
open Go.ChangeShapes Go.WideShapes Go.ChangeAt Go.RowKit

theorem ret_int {k : IntKind} {a b : Int} (h : a = b) : Ending.returned (.int k a) = .returned (.int k b) := by rw [h]

end Go.Proofs.YtolfobgpgmfnpaaDoor

namespace Go.Proofs.YtolfobgpgmfnpaaDoor
set_option linter.unusedVariables false
open Go.ChangeShapes Go.WideShapes Go.ChangeAt Go.RowKit

set_option maxHeartbeats 4000000 in
theorem pick_c (n m : Int) (hn : -9223372036854775808 ≤ n) (hn' : n ≤ 9223372036854775807) (hm : 0 < m) (hm' : m ≤ 9223372036854775807) (W : World) :
    Calls Tryd.prog 12 #[.int .i64 n, .int .i64 m] W fun e w' => e = .returned (.int .i64 (n % m)) ∧ W = w' := by
  have h1 := Int.emod_nonneg n (show m ≠ 0 by omega)
  have h2 := Int.emod_lt_of_pos n hm
  by_cases h0 : 0 ≤ n
  · have h3 : ¬ n % m < 0 := by omega
    go_enter Tryd.func12, Tryd.ntmps12
    go_wp2_with fail
    go_ret
    exact ⟨rfl, rfl⟩
  · have h4 : n.tmod m = -((-n).tmod m) := by rw [Int.neg_tmod]; omega
    have h5 : (-n).tmod m = (-n) % m := Int.tmod_eq_emod_of_nonneg (by omega)
    have h6 := Int.emod_nonneg (-n) (show m ≠ 0 by omega)
    have h7 := Int.emod_lt_of_pos (-n) hm
    have h8 : n % m = if n.tmod m < 0 then n.tmod m + m else n.tmod m := by
      have h9 := Int.tmod_eq_emod (a := n) (b := m)
      have h10 : m.natAbs = m := by omega
      split at h9 <;> split <;> omega
    rw [h8]
    clear h8
    by_cases h11 : n.tmod m < 0
    · rw [if_pos h11]
      have hb : -m < n.tmod m := by omega
      clear h4 h5 h6 h7 h1 h2
      go_enter Tryd.func12, Tryd.ntmps12
      go_wp2_with fail
      go_ret
      exact ⟨rfl, rfl⟩
    · rw [if_neg h11]
      clear h4 h5 h6 h7 h1 h2
      go_enter Tryd.func12, Tryd.ntmps12
      go_wp2_with fail
      go_ret
      exact ⟨rfl, rfl⟩

end Go.Proofs.YtolfobgpgmfnpaaDoor

namespace Go.Proofs.YtolfobgpgmfnpaaDoor
set_option linter.unusedVariables false
open Go.ChangeShapes Go.WideShapes Go.ChangeAt Go.RowKit

abbrev Fl := Nat
/-- A complex number of whole parts, with the signs of its zeros. -/
structure Cx where
  x : Int
  s : Bool
  y : Int
  t : Bool
@[reducible] def cxV (c : Cx) : Value := .complex .f64 (ww c.x c.s) (ww c.y c.t)
/-- Any complex number. -/
structure Cw where
  a : Nat
  b : Nat
@[reducible] def cwV (c : Cw) : Value := .complex .f64 c.a c.b
structure Pt where
  x : Int
  y : Int
@[reducible] def ptV (p : Pt) : Value := .agg #[.int .i64 p.x, .int .i64 p.y]
structure Bm where
  n : Cx
  d : Cx
@[reducible] def bmV (b : Bm) : Value := .agg #[cxV b.n, cxV b.d]
structure Bp where
  n : Pt
  d : Pt
@[reducible] def bpV (b : Bp) : Value := .agg #[.int .i64 b.n.x, .int .i64 b.n.y, .int .i64 b.d.x, .int .i64 b.d.y]
structure M4 where
  a : Int
  b : Int
  c : Int
  d : Int
@[reducible] def m4V (m : M4) : Value := .agg #[.int .i64 m.a, .int .i64 m.b, .int .i64 m.c, .int .i64 m.d]
/-- A word of a float64. -/
def OkW (x : Nat) : Prop := x < 18446744073709551616
/-- Within the bounds. -/
def OkIn (x : Nat) : Prop := inLo x = true
theorem okW_ww (n : Int) (z : Bool) : OkW (ww n z) := ww_lt n z

@[go_sem] theorem fmt64 : FloatKind.f64.format = Ieee.double := rfl
@[go_sem] theorem unary_negf (k : FloatKind) (b : Nat) : Op.unary .neg (.float k b) = pure (.float k (Op.negFloat k b)) := rfl
section
variable (P : Program) (w : World) (a : Addr) (m : Mode)
@[go_sem] theorem run_store_complex (k : FloatKind) (x y : Nat) : (store a (.complex k x y) m).run P w = stored P w a (.complex k x y) m := run_store P w a _ m rfl
@[go_sem] theorem run_store_float (k : FloatKind) (x : Nat) : (store a (.float k x) m).run P w = stored P w a (.float k x) m := run_store P w a _ m rfl
end


attribute [go_sem] ofInt_ww

/-! What operations on whole parts give. -/
section
variable {P : Program}
@[reducible] def In52 (n : Int) : Prop := -4503599627370495 ≤ n ∧ n ≤ 4503599627370495
theorem cadd {a b c d : Int} (s t u v : Bool) (ha : In52 a) (hb : In52 b) (hc : In52 c) (hd : In52 d) (T : TypeId) (w : World) :
    (binOp .add T (.complex .f64 (ww a s) (ww b t)) (.complex .f64 (ww c u) (ww d v))).run P w = .ok (.complex .f64 (ww (a + c) (zn a s && zn c u)) (ww (b + d) (zn b t && zn d v))) w := by
  refine run_complex_sum w .add (.inl rfl) T .f64 _ _ _ _ _ _ ?_
  have e1 := add_ww (a := a) (b := c) s u (by omega) (by omega) (by omega)
  have e2 := add_ww (a := b) (b := d) t v (by omega) (by omega) (by omega)
  unfold cSumBits floatBits
  show ((Ieee.double.add (ww a s) (ww c u)).bind fun re => (Ieee.double.add (ww b t) (ww d v)).bind fun im => some (re, im)) = _
  rw [e1, e2]
  rfl
theorem cmul {a b c d : Int} (s t u v : Bool) (ha : In52 a) (hb : In52 b) (hc : In52 c) (hd : In52 d) (h1 : In52 (a * c)) (h2 : In52 (b * d)) (h3 : In52 (a * d)) (h4 : In52 (b * c)) (x y : Int) (hx : a * c - b * d = x) (hy : a * d + b * c = y) :
    ∃ p q, ∀ (T : TypeId) (w : World), (binOp .mul T (.complex .f64 (ww a s) (ww b t)) (.complex .f64 (ww c u) (ww d v))).run P w = .ok (.complex .f64 (ww x p) (ww y q)) w := by
  subst hx hy
  have e1 := mul_ww (a := a) (b := c) s u (by omega) (by omega) (by omega)
  have e2 := mul_ww (a := b) (b := d) t v (by omega) (by omega) (by omega)
  have e3 := mul_ww (a := a) (b := d) s v (by omega) (by omega) (by omega)
  have e4 := mul_ww (a := b) (b := c) t u (by omega) (by omega) (by omega)
  have e5 := sub_ww (a := a * c) (b := b * d) (zn a s ^^ zn c u) (zn b t ^^ zn d v) (by omega) (by omega) (by omega)
  have e6 := add_ww (a := a * d) (b := b * c) (zn a s ^^ zn d v) (zn b t ^^ zn c u) (by omega) (by omega) (by omega)
  generalize (zn (a * c) (zn a s ^^ zn c u) && !zn (b * d) (zn b t ^^ zn d v)) = p at e5
  generalize (zn (a * d) (zn a s ^^ zn d v) && zn (b * c) (zn b t ^^ zn c u)) = q at e6
  have key : cMulBits (ww a s) (ww b t) (ww c u) (ww d v) = some (ww (a * c - b * d) p, ww (a * d + b * c) q) := by
    unfold cMulBits floatBits
    show ((Ieee.double.mul (ww a s) (ww c u)).bind fun ac => (Ieee.double.mul (ww b t) (ww d v)).bind fun bd => (Ieee.double.sub ac bd).bind fun re =>
      (Ieee.double.mul (ww a s) (ww d v)).bind fun ad => (Ieee.double.mul (ww b t) (ww c u)).bind fun bc => (Ieee.double.add ad bc).bind fun im => some (re, im)) = _
    rw [e1, e2, e3, e4]
    simp only [Option.bind_some]
    rw [e5, e6]
    rfl
  exact ⟨p, q, fun T w => run_complex_mul w T _ _ _ _ _ _ key⟩
theorem fadd {a c : Int} (s u : Bool) (ha : In52 a) (hc : In52 c) (T : TypeId) (w : World) :
    (binOp .add T (.float .f64 (ww a s)) (.float .f64 (ww c u))).run P w = .ok (.float .f64 (ww (a + c) (zn a s && zn c u))) w := by
  refine run_float_arith w .add T .f64 _ _ _ ?_
  exact add_ww (a := a) (b := c) s u (by omega) (by omega) (by omega)
theorem fmul {a c : Int} (s u : Bool) (ha : In52 a) (hc : In52 c) (h1 : In52 (a * c)) (T : TypeId) (w : World) :
    (binOp .mul T (.float .f64 (ww a s)) (.float .f64 (ww c u))).run P w = .ok (.float .f64 (ww (a * c) (zn a s ^^ zn c u))) w := by
  refine run_float_arith w .mul T .f64 _ _ _ ?_
  exact mul_ww (a := a) (b := c) s u (by omega) (by omega) (by omega)
end
theorem eq_ww {a b : Int} (s t : Bool) (ha : In52 a) (hb : In52 b) : (Ieee.double.order (ww a s) (ww b t) == some .eq) = decide (a = b) := by
  rw [order_ww s t (by omega) (by omega), cmp_eq]
theorem lt_ww {a b : Int} (s t : Bool) (ha : In52 a) (hb : In52 b) : (Ieee.double.order (ww a s) (ww b t) == some .lt) = decide (a < b) := by
  rw [order_ww s t (by omega) (by omega), Int.compare_eq_ite_lt]
  by_cases h : a < b
  · simp [h]
  · by_cases h2 : b < a <;> simp [h, h2]

def smallI (n : Int) : Bool := decide (-1048576 ≤ n) && decide (n ≤ 1048576)
def OkNot (a b : Nat) : Prop := (wp a && wp b) = false

@[go_sem] theorem and3 (n : Int) : _root_.Go.bits .and .i64 n 3 = n % 4 := by
  have h3 : (BitVec.ofInt 64 3).toNat = 2 ^ 2 - 1 := by decide
  have key : (BitVec.ofInt 64 n &&& BitVec.ofInt 64 3).toNat = (n % ((2 ^ 64 : Nat) : Int)).toNat % 2 ^ 2 := by
    rw [BitVec.toNat_and, BitVec.toNat_ofInt, h3, Nat.and_two_pow_sub_one_eq_mod]
  show IntKind.i64.wrap ((BitVec.ofInt 64 n &&& BitVec.ofInt 64 3).toNat : Nat) = n % 4
  rw [key, IntKind.wrap_i64]
  omega

/-- Squares, and products, of what is within bounds. -/
theorem sq_in {n : Int} (h : -1048577 ≤ n ∧ n ≤ 1048577) : 0 ≤ n * n ∧ n * n ≤ 1099513724929 := by
  have a : n * n = n.natAbs * n.natAbs := by rw [← Int.natAbs_mul_self]; rfl
  have b : n.natAbs * n.natAbs ≤ 1048577 * 1048577 := Nat.mul_le_mul (by omega) (by omega)
  have c : ((n.natAbs * n.natAbs : Nat) : Int) = (n.natAbs : Int) * n.natAbs := by simp
  omega
theorem mul_in {m n : Int} (hm : -2097152 ≤ m ∧ m ≤ 2097152) (h : -2097152 ≤ n ∧ n ≤ 2097152) : -4398046511104 ≤ m * n ∧ m * n ≤ 4398046511104 := by
  have a : (m * n).natAbs = m.natAbs * n.natAbs := Int.natAbs_mul m n
  have b : m.natAbs * n.natAbs ≤ 2097152 * 2097152 := Nat.mul_le_mul (by omega) (by omega)
  omega

/-! In plain numbers. -/
def nrm (x y : Int) : Int := x * x + y * y
def nearI (n : Int) : Int := if n < 0 then n + 1 else n
def farI (x y : Int) : Int := max (x * x) ((x + 1) * (x + 1)) + max (y * y) ((y + 1) * (y + 1))
def clampI (n k : Int) : Int := min (max n 0) k
def discI (x y n : Int) : Int := if farI x y ≤ clampI n 1048576 * clampI n 1048576 then 1 else if clampI n 1048576 * clampI n 1048576 < nrm (nearI x) (nearI y) then 2 else 0
def turn1 (p : Pt) : Pt := ⟨-p.y, p.x⟩
def turnN : Nat → Pt → Pt
  | 0, p => p
  | k + 1, p => turnN k (turn1 p)
def turnI (p : Pt) (k : Int) : Pt := turnN (k % 4).toNat p
@[reducible] def cxP (p : Pt) : Value := .complex .f64 (ww p.x false) (ww p.y false)

structure Fx where
  n : Int
  z : Bool
@[reducible] def fxV (f : Fx) : Value := .float .f64 (ww f.n f.z)

theorem turnI_0 {x y k : Int} (h : k % 4 = 0) : turnI ⟨x, y⟩ k = ⟨x, y⟩ := by unfold turnI; rw [h]; rfl
theorem turnI_1 {x y k : Int} (h : k % 4 = 1) : turnI ⟨x, y⟩ k = ⟨-y, x⟩ := by unfold turnI; rw [h]; rfl
theorem turnI_2 {x y k : Int} (h : k % 4 = 2) : turnI ⟨x, y⟩ k = ⟨-x, -y⟩ := by unfold turnI; rw [h]; rfl
theorem turnI_3 {x y k : Int} (h : k % 4 = 3) : turnI ⟨x, y⟩ k = ⟨y, -x⟩ := by unfold turnI; rw [h]; show (⟨- -y, -x⟩ : Pt) = _; rw [Int.neg_neg]
/-- One quarter. -/
theorem mul_i {P : Program} {x y : Int} (s t : Bool) (hx : -1048577 ≤ x ∧ x ≤ 1048577) (hy : -1048577 ≤ y ∧ y ≤ 1048577) :
    ∃ p q, ∀ (T : TypeId) (w : World), (binOp .mul T (.complex .f64 (ww x s) (ww y t)) (.complex .f64 0 4607182418800017408)).run P w = .ok (.complex .f64 (ww (-y) p) (ww x q)) w := by
  have := cmul (P := P) (a := x) (b := y) (c := 0) (d := 1) s t false false (by omega) (by omega) (by decide) (by decide) (by omega) (by omega) (by omega) (by omega) (-y) x (by omega) (by omega)
  rw [← lit_zero, ← lit_one] at this
  exact this

def zeroP (p : Pt) : Bool := decide (p.x = 0) && decide (p.y = 0)
def smallP (p : Pt) : Bool := smallI p.x && smallI p.y
def isBp (b : Bp) : Bool := smallP b.n && (smallP b.d && (!zeroP b.n || !zeroP b.d))
def smallM (m : M4) : Bool := smallI m.a && (smallI m.b && (smallI m.c && smallI m.d))
/-- The whole number of a complex one. -/
def Cx.pt (c : Cx) : Pt := ⟨c.x, c.y⟩
def Bm.bp (b : Bm) : Bp := ⟨b.n.pt, b.d.pt⟩
/-- A whole number without signs of its zeros. -/
def Pt.cx (p : Pt) : Cx := ⟨p.x, false, p.y, false⟩
def mixP (b : Bp) (k l : Int) : Pt := ⟨k * b.n.x + l * b.d.x, k * b.n.y + l * b.d.y⟩
def carried (b : Bp) (m : M4) : Bp := ⟨mixP b m.a m.b, mixP b m.c m.d⟩
def zeroBp : Bp := ⟨⟨0, 0⟩, ⟨0, 0⟩⟩
def carryB (b : Bp) (m : M4) : Bool := isBp b && (smallM m && isBp (carried b m))

theorem neq0 {x y : Int} (s t : Bool) (hx : In52 x) (hy : In52 y) : (Ieee.double.order (ww x s) 0 == some .eq && Ieee.double.order (ww y t) 0 == some .eq) = zeroP ⟨x, y⟩ := by
  have e1 := eq_ww (a := x) (b := 0) s false hx (by decide)
  have e2 := eq_ww (a := y) (b := 0) t false hy (by decide)
  rw [← lit_zero] at e1 e2
  rw [e1, e2]
  rfl

end Go.Proofs.YtolfobgpgmfnpaaDoor

namespace Go.Proofs.YtolfobgpgmfnpaaDoor
set_option linter.unusedVariables false
open Go.ChangeShapes Go.WideShapes Go.ChangeAt Go.RowKit

end Go.Proofs.YtolfobgpgmfnpaaDoor

namespace Go.Proofs.YtolfobgpgmfnpaaDoor
set_option linter.unusedVariables false
open Go.ChangeShapes Go.WideShapes Go.ChangeAt Go.RowKit

end Go.Proofs.YtolfobgpgmfnpaaDoor

namespace Go.Proofs.YtolfobgpgmfnpaaDoor
set_option linter.unusedVariables false
open Go.ChangeShapes Go.WideShapes Go.ChangeAt Go.RowKit

end Go.Proofs.YtolfobgpgmfnpaaDoor
