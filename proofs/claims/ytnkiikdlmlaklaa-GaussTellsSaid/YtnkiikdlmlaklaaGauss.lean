/-
  The calls of package gauss, at whole numbers and at those that are none.
-/
import Derived.Test.YtnkiikdlmlaklaaWord
import Derived.Test.YtnkiikdlmlaklaaHand
import Derived.Laws.Externs
import Derived.WalkLawsBesides
namespace Go.Proofs.Ytnkiikdlmlaklaa
set_option linter.unusedVariables false
open Go.ChangeShapes Go.WideShapes Go.ChangeAt Go.RowKit

abbrev Fl := Nat
/-- A complex number of whole parts, with the signs of its zeros. -/
structure Cx where
  x : Int
  s : Bool
  y : Int
  t : Bool
@[reducible] def cxV (c : Cx) : Value := .complex .f64 (ww c.x c.s) (ww c.y c.t)
/-- Any complex number. -/
structure Cw where
  a : Nat
  b : Nat
@[reducible] def cwV (c : Cw) : Value := .complex .f64 c.a c.b
structure Pt where
  x : Int
  y : Int
@[reducible] def ptV (p : Pt) : Value := .agg #[.int .i64 p.x, .int .i64 p.y]
structure Bm where
  n : Cx
  d : Cx
@[reducible] def bmV (b : Bm) : Value := .agg #[cxV b.n, cxV b.d]
structure Bp where
  n : Pt
  d : Pt
@[reducible] def bpV (b : Bp) : Value := .agg #[.int .i64 b.n.x, .int .i64 b.n.y, .int .i64 b.d.x, .int .i64 b.d.y]
structure M4 where
  a : Int
  b : Int
  c : Int
  d : Int
@[reducible] def m4V (m : M4) : Value := .agg #[.int .i64 m.a, .int .i64 m.b, .int .i64 m.c, .int .i64 m.d]
/-- A word of a float64. -/
def OkW (x : Nat) : Prop := x < 18446744073709551616
/-- Within the bounds. -/
def OkIn (x : Nat) : Prop := inLo x = true
theorem okW_ww (n : Int) (z : Bool) : OkW (ww n z) := ww_lt n z

@[go_sem] theorem fmt64 : FloatKind.f64.format = Ieee.double := rfl
@[go_sem] theorem unary_negf (k : FloatKind) (b : Nat) : Op.unary .neg (.float k b) = pure (.float k (Op.negFloat k b)) := rfl
section
variable (P : Program) (w : World) (a : Addr) (m : Mode)
@[go_sem] theorem run_store_complex (k : FloatKind) (x y : Nat) : (store a (.complex k x y) m).run P w = stored P w a (.complex k x y) m := run_store P w a _ m rfl
@[go_sem] theorem run_store_float (k : FloatKind) (x : Nat) : (store a (.float k x) m).run P w = stored P w a (.float k x) m := run_store P w a _ m rfl
end
theorem arch_trunc {x : Nat} (h : OkIn x) (w : World) : (callFunc 43 #[.float .f64 x]).run Try.prog w = .ok (.value (.float .f64 (truncw x))) w := by
  have e := run_callFunc_extern (P := Try.prog) (e := Extern.MathFloor.toIntegral "math.archTrunc" .zero) Try.func43 (by kernel_rfl) (by kernel_rfl) (by kernel_rfl) (by kernel_rfl) #[.float .f64 x] w
  rw [e]
  unfold OkIn inLo Ieee.Format.order at h
  have g : ∀ s t, Ieee.double.read x ≠ .nan s t := fun s t hh => by
    rw [hh] at h
    cases hd : Ieee.double.read 13920626448202203136 <;> rw [hd] at h <;> cases h
  have e2 : Extern.MathFloor.toIntegral "math.archTrunc" .zero #[.float .f64 x] = pure (.float .f64 (truncw x)) := by
    unfold Extern.MathFloor.toIntegral truncw
    show (match Ieee.double.read x with | .nan s t => _ | d => _) = _
    cases hd : Ieee.double.read x with
    | nan s t => exact absurd hd (g s t)
    | infinity s => rfl
    | number s m e => rfl
  rw [e2]
  rfl

set_option maxHeartbeats 4000000 in
theorem trunc_c (x : Fl) (h : OkIn x) (W : World) :
    Calls Try.prog 41 #[.float .f64 x] W fun e w' => e = .returned (.float .f64 (truncw x)) ∧ W = w' := by
  have hd := arch_trunc h
  go_enter Try.func41, Try.ntmps41
  go_wp2_with fail
  go_returns
  exact ⟨rfl, rfl⟩

set_option maxHeartbeats 4000000 in
theorem wholePart_c (x : Fl) (W : World) :
    Calls Try.prog 32 #[.float .f64 x] W fun e w' => e = .returned (.bool (wp x)) ∧ W = w' := by
  unfold wp
  cases h1 : inLo x
  · have g := h1
    unfold inLo at g
    go_enter Try.func32, Try.ntmps32
    go_wp2_with (first | (go_at_call 41; (with_reducible refine (trunc_c _ (by assumption) _).mono ?_); rintro e w' ⟨rfl, rfl⟩))
    go_returns
    exact ⟨rfl, rfl⟩
  · have o : OkIn x := h1
    have g := h1
    unfold inLo at g
    cases h2 : inHi x
    · have g2 := h2
      unfold inHi at g2
      go_enter Try.func32, Try.ntmps32
      go_wp2_with (first | (go_at_call 41; (with_reducible refine (trunc_c _ (by assumption) _).mono ?_); rintro e w' ⟨rfl, rfl⟩))
      go_returns
      exact ⟨rfl, rfl⟩
    · have g2 := h2
      unfold inHi at g2
      cases h3 : isT x
      · have g3 := h3
        unfold isT at g3
        go_enter Try.func32, Try.ntmps32
        go_wp2_with (first | (go_at_call 41; (with_reducible refine (trunc_c _ (by assumption) _).mono ?_); rintro e w' ⟨rfl, rfl⟩))
        go_returns
        exact ⟨rfl, rfl⟩
      · have g3 := h3
        unfold isT at g3
        go_enter Try.func32, Try.ntmps32
        go_wp2_with (first | (go_at_call 41; (with_reducible refine (trunc_c _ (by assumption) _).mono ?_); rintro e w' ⟨rfl, rfl⟩))
        go_returns
        exact ⟨rfl, rfl⟩


attribute [go_sem] ofInt_ww

/-! What operations on whole parts give. -/
section
variable {P : Program}
@[reducible] def In52 (n : Int) : Prop := -4503599627370495 ≤ n ∧ n ≤ 4503599627370495
theorem cadd {a b c d : Int} (s t u v : Bool) (ha : In52 a) (hb : In52 b) (hc : In52 c) (hd : In52 d) (T : TypeId) (w : World) :
    (binOp .add T (.complex .f64 (ww a s) (ww b t)) (.complex .f64 (ww c u) (ww d v))).run P w = .ok (.complex .f64 (ww (a + c) (zn a s && zn c u)) (ww (b + d) (zn b t && zn d v))) w := by
  refine run_complex_sum w .add (.inl rfl) T .f64 _ _ _ _ _ _ ?_
  have e1 := add_ww (a := a) (b := c) s u (by omega) (by omega) (by omega)
  have e2 := add_ww (a := b) (b := d) t v (by omega) (by omega) (by omega)
  unfold cSumBits floatBits
  show ((Ieee.double.add (ww a s) (ww c u)).bind fun re => (Ieee.double.add (ww b t) (ww d v)).bind fun im => some (re, im)) = _
  rw [e1, e2]
  rfl
theorem cmul {a b c d : Int} (s t u v : Bool) (ha : In52 a) (hb : In52 b) (hc : In52 c) (hd : In52 d) (h1 : In52 (a * c)) (h2 : In52 (b * d)) (h3 : In52 (a * d)) (h4 : In52 (b * c)) (x y : Int) (hx : a * c - b * d = x) (hy : a * d + b * c = y) :
    ∃ p q, ∀ (T : TypeId) (w : World), (binOp .mul T (.complex .f64 (ww a s) (ww b t)) (.complex .f64 (ww c u) (ww d v))).run P w = .ok (.complex .f64 (ww x p) (ww y q)) w := by
  subst hx hy
  have e1 := mul_ww (a := a) (b := c) s u (by omega) (by omega) (by omega)
  have e2 := mul_ww (a := b) (b := d) t v (by omega) (by omega) (by omega)
  have e3 := mul_ww (a := a) (b := d) s v (by omega) (by omega) (by omega)
  have e4 := mul_ww (a := b) (b := c) t u (by omega) (by omega) (by omega)
  have e5 := sub_ww (a := a * c) (b := b * d) (zn a s ^^ zn c u) (zn b t ^^ zn d v) (by omega) (by omega) (by omega)
  have e6 := add_ww (a := a * d) (b := b * c) (zn a s ^^ zn d v) (zn b t ^^ zn c u) (by omega) (by omega) (by omega)
  generalize (zn (a * c) (zn a s ^^ zn c u) && !zn (b * d) (zn b t ^^ zn d v)) = p at e5
  generalize (zn (a * d) (zn a s ^^ zn d v) && zn (b * c) (zn b t ^^ zn c u)) = q at e6
  have key : cMulBits (ww a s) (ww b t) (ww c u) (ww d v) = some (ww (a * c - b * d) p, ww (a * d + b * c) q) := by
    unfold cMulBits floatBits
    show ((Ieee.double.mul (ww a s) (ww c u)).bind fun ac => (Ieee.double.mul (ww b t) (ww d v)).bind fun bd => (Ieee.double.sub ac bd).bind fun re =>
      (Ieee.double.mul (ww a s) (ww d v)).bind fun ad => (Ieee.double.mul (ww b t) (ww c u)).bind fun bc => (Ieee.double.add ad bc).bind fun im => some (re, im)) = _
    rw [e1, e2, e3, e4]
    simp only [Option.bind_some]
    rw [e5, e6]
    rfl
  exact ⟨p, q, fun T w => run_complex_mul w T _ _ _ _ _ _ key⟩
theorem fadd {a c : Int} (s u : Bool) (ha : In52 a) (hc : In52 c) (T : TypeId) (w : World) :
    (binOp .add T (.float .f64 (ww a s)) (.float .f64 (ww c u))).run P w = .ok (.float .f64 (ww (a + c) (zn a s && zn c u))) w := by
  refine run_float_arith w .add T .f64 _ _ _ ?_
  exact add_ww (a := a) (b := c) s u (by omega) (by omega) (by omega)
theorem fmul {a c : Int} (s u : Bool) (ha : In52 a) (hc : In52 c) (h1 : In52 (a * c)) (T : TypeId) (w : World) :
    (binOp .mul T (.float .f64 (ww a s)) (.float .f64 (ww c u))).run P w = .ok (.float .f64 (ww (a * c) (zn a s ^^ zn c u))) w := by
  refine run_float_arith w .mul T .f64 _ _ _ ?_
  exact mul_ww (a := a) (b := c) s u (by omega) (by omega) (by omega)
end
theorem eq_ww {a b : Int} (s t : Bool) (ha : In52 a) (hb : In52 b) : (Ieee.double.order (ww a s) (ww b t) == some .eq) = decide (a = b) := by
  rw [order_ww s t (by omega) (by omega), cmp_eq]
theorem lt_ww {a b : Int} (s t : Bool) (ha : In52 a) (hb : In52 b) : (Ieee.double.order (ww a s) (ww b t) == some .lt) = decide (a < b) := by
  rw [order_ww s t (by omega) (by omega), Int.compare_eq_ite_lt]
  by_cases h : a < b
  · simp [h]
  · by_cases h2 : b < a <;> simp [h, h2]

def smallI (n : Int) : Bool := decide (-1048576 ≤ n) && decide (n ≤ 1048576)
def OkNot (a b : Nat) : Prop := (wp a && wp b) = false

set_option maxHeartbeats 4000000 in
theorem whole_x (c : Cx) (h1 : -4503599627370495 ≤ c.x) (h2 : c.x ≤ 4503599627370495) (h3 : -4503599627370495 ≤ c.y) (h4 : c.y ≤ 4503599627370495) (W : World) :
    Calls Try.prog 13 #[cxV c] W fun e w' => e = .returned (.bool (smallI c.x && smallI c.y)) ∧ W = w' := by
  obtain ⟨x, s, y, t⟩ := c
  dsimp only at h1 h2 h3 h4 ⊢
  have e1 := wp_ww (n := x) s (by omega)
  have e2 := wp_ww (n := y) t (by omega)
  have e3 : smallI x = (decide (-1048576 ≤ x) && decide (x ≤ 1048576)) := rfl
  have e4 : smallI y = (decide (-1048576 ≤ y) && decide (y ≤ 1048576)) := rfl
  rw [← e3] at e1
  rw [← e4] at e2
  cases g1 : smallI x <;> cases g2 : smallI y <;> rw [g1] at e1 <;> rw [g2] at e2 <;> clear e3 e4
  all_goals
    go_enter Try.func13, Try.ntmps13
    go_wp2_with (first | (go_at_call 32; (with_reducible refine (wholePart_c _ _).mono ?_); rintro e w' ⟨rfl, rfl⟩))
    go_returns
    exact ⟨rfl, rfl⟩

set_option maxHeartbeats 4000000 in
theorem whole_n (c : Cw) (h : OkNot c.a c.b) (W : World) :
    Calls Try.prog 13 #[cwV c] W fun e w' => e = .returned (.bool false) ∧ W = w' := by
  obtain ⟨a, b⟩ := c
  unfold OkNot at h
  cases g1 : wp a <;> cases g2 : wp b
  · skip
    go_enter Try.func13, Try.ntmps13
    go_wp2_with (first | (go_at_call 32; (with_reducible refine (wholePart_c _ _).mono ?_); rintro e w' ⟨rfl, rfl⟩))
    go_returns
    exact ⟨rfl, rfl⟩
  · skip
    go_enter Try.func13, Try.ntmps13
    go_wp2_with (first | (go_at_call 32; (with_reducible refine (wholePart_c _ _).mono ?_); rintro e w' ⟨rfl, rfl⟩))
    go_returns
    exact ⟨rfl, rfl⟩
  · skip
    go_enter Try.func13, Try.ntmps13
    go_wp2_with (first | (go_at_call 32; (with_reducible refine (wholePart_c _ _).mono ?_); rintro e w' ⟨rfl, rfl⟩))
    go_returns
    exact ⟨rfl, rfl⟩
  · rw [g1, g2] at h
    cases h

set_option maxHeartbeats 4000000 in
theorem plain_c (c : Cx) (h1 : -4503599627370495 ≤ c.x) (h2 : c.x ≤ 4503599627370495) (h3 : -4503599627370495 ≤ c.y) (h4 : c.y ≤ 4503599627370495) (W : World) :
    Calls Try.prog 30 #[cxV c] W fun e w' => e = .returned (cxV ⟨c.x, false, c.y, false⟩) ∧ W = w' := by
  obtain ⟨x, s, y, t⟩ := c
  dsimp only at h1 h2 h3 h4 ⊢
  have e := cadd (P := Try.prog) (a := x) (b := y) (c := 0) (d := 0) s t false false ⟨h1, h2⟩ ⟨h3, h4⟩ (by decide) (by decide)
  rw [← lit_zero] at e
  have z0 : zn 0 false = false := rfl
  rw [z0, Bool.and_false, Bool.and_false, Int.add_zero, Int.add_zero] at e
  go_enter Try.func30, Try.ntmps30
  go_wp2_with fail
  go_returns
  exact ⟨rfl, rfl⟩

set_option maxHeartbeats 4000000 in
theorem conj_c (c : Cx) (h3 : -4503599627370495 ≤ c.y) (h4 : c.y ≤ 4503599627370495) (W : World) :
    Calls Try.prog 31 #[cxV c] W fun e w' => e = .returned (cxV ⟨c.x, c.s, -c.y, !c.t⟩) ∧ W = w' := by
  obtain ⟨x, s, y, t⟩ := c
  dsimp only at h3 h4 ⊢
  have e := neg_ww (n := y) t (by omega)
  go_enter Try.func31, Try.ntmps31
  go_wp2_with fail
  go_returns
  exact ⟨rfl, rfl⟩

@[go_sem] theorem and3 (n : Int) : _root_.Go.bits .and .i64 n 3 = n % 4 := by
  have h3 : (BitVec.ofInt 64 3).toNat = 2 ^ 2 - 1 := by decide
  have key : (BitVec.ofInt 64 n &&& BitVec.ofInt 64 3).toNat = (n % ((2 ^ 64 : Nat) : Int)).toNat % 2 ^ 2 := by
    rw [BitVec.toNat_and, BitVec.toNat_ofInt, h3, Nat.and_two_pow_sub_one_eq_mod]
  show IntKind.i64.wrap ((BitVec.ofInt 64 n &&& BitVec.ofInt 64 3).toNat : Nat) = n % 4
  rw [key, IntKind.wrap_i64]
  omega

/-- Squares, and products, of what is within bounds. -/
theorem sq_in {n : Int} (h : -1048577 ≤ n ∧ n ≤ 1048577) : 0 ≤ n * n ∧ n * n ≤ 1099513724929 := by
  have a : n * n = n.natAbs * n.natAbs := by rw [← Int.natAbs_mul_self]; rfl
  have b : n.natAbs * n.natAbs ≤ 1048577 * 1048577 := Nat.mul_le_mul (by omega) (by omega)
  have c : ((n.natAbs * n.natAbs : Nat) : Int) = (n.natAbs : Int) * n.natAbs := by simp
  omega
theorem mul_in {m n : Int} (hm : -2097152 ≤ m ∧ m ≤ 2097152) (h : -2097152 ≤ n ∧ n ≤ 2097152) : -4398046511104 ≤ m * n ∧ m * n ≤ 4398046511104 := by
  have a : (m * n).natAbs = m.natAbs * n.natAbs := Int.natAbs_mul m n
  have b : m.natAbs * n.natAbs ≤ 2097152 * 2097152 := Nat.mul_le_mul (by omega) (by omega)
  omega

set_option maxHeartbeats 4000000 in
theorem norm_c (c : Cx) (h1 : -1048577 ≤ c.x) (h2 : c.x ≤ 1048577) (h3 : -1048577 ≤ c.y) (h4 : c.y ≤ 1048577) (W : World) :
    Calls Try.prog 33 #[cxV c] W fun e w' => e = .returned (.int .i64 (c.x * c.x + c.y * c.y)) ∧ W = w' := by
  obtain ⟨x, s, y, t⟩ := c
  dsimp only at h1 h2 h3 h4 ⊢
  have q1 := sq_in ⟨h1, h2⟩
  have q2 := sq_in ⟨h3, h4⟩
  have q3 := mul_in (m := x) (n := y) (by omega) (by omega)
  have e1 : y * -y = -(y * y) := Int.mul_neg y y
  have e2 : x * -y = -(x * y) := Int.mul_neg x y
  have e3 : y * x = x * y := Int.mul_comm y x
  obtain ⟨p, q, e⟩ := cmul (P := Try.prog) (a := x) (b := y) (c := x) (d := -y) s t s (!t) (by omega) (by omega) (by omega) (by omega) (by omega) (by rw [e1]; omega) (by rw [e2]; omega) (by rw [e3]; omega) (x * x + y * y) 0 (by rw [e1]; omega) (by rw [e2, e3]; omega)
  have v : ∀ w, (convert 24 3 (.float .f64 (ww (x * x + y * y) p))).run Try.prog w = .ok (.int .i64 (x * x + y * y)) w := fun w => run_convert_float_int w _ _ .f64 .i64 _ _ (by kernel_rfl) (by kernel_rfl) (val_ww p (by omega))
  clear e1 e2 e3
  go_enter Try.func33, Try.ntmps33
  go_wp2_with (first | (go_at_call 31; (with_reducible refine (conj_c _ (by (try dsimp only); omega) (by (try dsimp only); omega) _).mono ?_); rintro e w' ⟨rfl, rfl⟩) | (go_at_call 31; (with_reducible refine (conj_c ⟨_, _, _, _⟩ (by (try dsimp only); omega) (by (try dsimp only); omega) _).mono ?_); rintro e w' ⟨rfl, rfl⟩))
  go_returns
  exact ⟨rfl, rfl⟩

/-! In plain numbers. -/
def nrm (x y : Int) : Int := x * x + y * y
def nearI (n : Int) : Int := if n < 0 then n + 1 else n
def farI (x y : Int) : Int := max (x * x) ((x + 1) * (x + 1)) + max (y * y) ((y + 1) * (y + 1))
def clampI (n k : Int) : Int := min (max n 0) k
def discI (x y n : Int) : Int := if farI x y ≤ clampI n 1048576 * clampI n 1048576 then 1 else if clampI n 1048576 * clampI n 1048576 < nrm (nearI x) (nearI y) then 2 else 0
def turn1 (p : Pt) : Pt := ⟨-p.y, p.x⟩
def turnN : Nat → Pt → Pt
  | 0, p => p
  | k + 1, p => turnN k (turn1 p)
def turnI (p : Pt) (k : Int) : Pt := turnN (k % 4).toNat p
@[reducible] def cxP (p : Pt) : Value := .complex .f64 (ww p.x false) (ww p.y false)

structure Fx where
  n : Int
  z : Bool
@[reducible] def fxV (f : Fx) : Value := .float .f64 (ww f.n f.z)

set_option maxHeartbeats 4000000 in
theorem nearer_c (f : Fx) (h1 : -1048577 ≤ f.n) (h2 : f.n ≤ 1048577) (W : World) :
    Calls Try.prog 42 #[fxV f] W fun e w' => e = .returned (fxV ⟨nearI f.n, !decide (f.n < 0) && f.z⟩) ∧ W = w' := by
  obtain ⟨n, z⟩ := f
  dsimp only at h1 h2 ⊢
  unfold nearI
  have e := lt_ww (a := n) (b := 0) z false (by omega) (by omega)
  rw [← lit_zero] at e
  by_cases h : n < 0
  · rw [if_pos h, decide_eq_true h, Bool.not_true, Bool.false_and]
    have g := fadd (P := Try.prog) (a := n) (c := 1) z false (by omega) (by omega)
    rw [← lit_one] at g
    have z1 : (zn n z && zn 1 false) = false := by rw [show zn 1 false = false from rfl, Bool.and_false]
    rw [z1] at g
    rw [decide_eq_true h] at e
    go_enter Try.func42, Try.ntmps42
    go_wp2_with fail
    go_returns
    exact ⟨rfl, rfl⟩
  · rw [if_neg h, decide_eq_false h, Bool.not_false, Bool.true_and]
    rw [decide_eq_false h] at e
    go_enter Try.func42, Try.ntmps42
    go_wp2_with fail
    go_returns
    exact ⟨rfl, rfl⟩

set_option maxHeartbeats 4000000 in
theorem nearest_c (c : Cx) (h1 : -1048577 ≤ c.x) (h2 : c.x ≤ 1048577) (h3 : -1048577 ≤ c.y) (h4 : c.y ≤ 1048577) (W : World) :
    Calls Try.prog 35 #[cxV c] W fun e w' => e = .returned (cxV ⟨nearI c.x, !decide (c.x < 0) && c.s, nearI c.y, !decide (c.y < 0) && c.t⟩) ∧ W = w' := by
  obtain ⟨x, s, y, t⟩ := c
  dsimp only at h1 h2 h3 h4 ⊢
  go_enter Try.func35, Try.ntmps35
  go_wp2_with (first | (go_at_call 42; (with_reducible refine (nearer_c _ (by (try dsimp only); omega) (by (try dsimp only); omega) _).mono ?_); rintro e w' ⟨rfl, rfl⟩) | (go_at_call 42; (with_reducible refine (nearer_c ⟨_, _⟩ (by (try dsimp only); omega) (by (try dsimp only); omega) _).mono ?_); rintro e w' ⟨rfl, rfl⟩))
  go_returns
  exact ⟨rfl, rfl⟩

set_option maxHeartbeats 4000000 in
theorem farthest_c (c : Cx) (h1 : -1048576 ≤ c.x) (h2 : c.x ≤ 1048576) (h3 : -1048576 ≤ c.y) (h4 : c.y ≤ 1048576) (W : World) :
    Calls Try.prog 34 #[cxV c] W fun e w' => e = .returned (.int .i64 (farI c.x c.y)) ∧ W = w' := by
  obtain ⟨x, s, y, t⟩ := c
  dsimp only at h1 h2 h3 h4 ⊢
  have e1 := cadd (P := Try.prog) (a := x) (b := y) (c := 1) (d := 0) s t false false (by omega) (by omega) (by decide) (by decide)
  have e2 := cadd (P := Try.prog) (a := x) (b := y) (c := 0) (d := 1) s t false false (by omega) (by omega) (by decide) (by decide)
  have e3 := cadd (P := Try.prog) (a := x + 1) (b := y) (c := 0) (d := 1) false false false false (by omega) (by omega) (by decide) (by decide)
  rw [← lit_one, ← lit_zero] at e1 e2 e3
  have z0 : zn 0 false = false := rfl
  have z1 : zn 1 false = false := rfl
  simp only [z0, z1, Bool.and_false, Int.add_zero] at e1 e2 e3
  unfold farI
  go_enter Try.func34, Try.ntmps34
  go_wp2_with (first | (go_at_call 33; (with_reducible refine (norm_c _ (by (try dsimp only); omega) (by (try dsimp only); omega) (by (try dsimp only); omega) (by (try dsimp only); omega) _).mono ?_); rintro e w' ⟨rfl, rfl⟩) | (go_at_call 33; (with_reducible refine (norm_c ⟨_, _, _, _⟩ (by (try dsimp only); omega) (by (try dsimp only); omega) (by (try dsimp only); omega) (by (try dsimp only); omega) _).mono ?_); rintro e w' ⟨rfl, rfl⟩))
  go_returns
  exact ⟨rfl, rfl⟩

set_option maxHeartbeats 4000000 in
theorem gnorm_c (c : Cx) (h1 : -1048576 ≤ c.x) (h2 : c.x ≤ 1048576) (h3 : -1048576 ≤ c.y) (h4 : c.y ≤ 1048576) (W : World) :
    Calls Try.prog 14 #[cxV c] W fun e w' => e = .returned (.int .i64 (nrm c.x c.y)) ∧ W = w' := by
  obtain ⟨x, s, y, t⟩ := c
  dsimp only at h1 h2 h3 h4 ⊢
  have g1 : smallI x = true := by unfold smallI; simp [h1, h2]
  have g2 : smallI y = true := by unfold smallI; simp [h3, h4]
  unfold nrm
  go_enter Try.func14, Try.ntmps14
  go_wp2_with (first | (go_at_call 13; (with_reducible refine (whole_x _ (by (try dsimp only); omega) (by (try dsimp only); omega) (by (try dsimp only); omega) (by (try dsimp only); omega) _).mono ?_); rintro e w' ⟨rfl, rfl⟩) | (go_at_call 13; (with_reducible refine (whole_x ⟨_, _, _, _⟩ (by (try dsimp only); omega) (by (try dsimp only); omega) (by (try dsimp only); omega) (by (try dsimp only); omega) _).mono ?_); rintro e w' ⟨rfl, rfl⟩) | (go_at_call 13; (with_reducible refine (whole_n _ (by assumption) _).mono ?_); rintro e w' ⟨rfl, rfl⟩) | (go_at_call 13; (with_reducible refine (whole_n ⟨_, _⟩ (by assumption) _).mono ?_); rintro e w' ⟨rfl, rfl⟩) | (go_at_call 33; (with_reducible refine (norm_c _ (by (try dsimp only); omega) (by (try dsimp only); omega) (by (try dsimp only); omega) (by (try dsimp only); omega) _).mono ?_); rintro e w' ⟨rfl, rfl⟩) | (go_at_call 33; (with_reducible refine (norm_c ⟨_, _, _, _⟩ (by (try dsimp only); omega) (by (try dsimp only); omega) (by (try dsimp only); omega) (by (try dsimp only); omega) _).mono ?_); rintro e w' ⟨rfl, rfl⟩))
  go_returns
  exact ⟨rfl, rfl⟩

set_option maxHeartbeats 4000000 in
theorem gnorm_n (c : Cw) (h : OkNot c.a c.b) (W : World) :
    Calls Try.prog 14 #[cwV c] W fun e w' => e = .returned (.int .i64 0) ∧ W = w' := by
  obtain ⟨a, b⟩ := c
  go_enter Try.func14, Try.ntmps14
  go_wp2_with (first | (go_at_call 13; (with_reducible refine (whole_x _ (by (try dsimp only); omega) (by (try dsimp only); omega) (by (try dsimp only); omega) (by (try dsimp only); omega) _).mono ?_); rintro e w' ⟨rfl, rfl⟩) | (go_at_call 13; (with_reducible refine (whole_x ⟨_, _, _, _⟩ (by (try dsimp only); omega) (by (try dsimp only); omega) (by (try dsimp only); omega) (by (try dsimp only); omega) _).mono ?_); rintro e w' ⟨rfl, rfl⟩) | (go_at_call 13; (with_reducible refine (whole_n _ (by assumption) _).mono ?_); rintro e w' ⟨rfl, rfl⟩) | (go_at_call 13; (with_reducible refine (whole_n ⟨_, _⟩ (by assumption) _).mono ?_); rintro e w' ⟨rfl, rfl⟩) | (go_at_call 33; (with_reducible refine (norm_c _ (by (try dsimp only); omega) (by (try dsimp only); omega) (by (try dsimp only); omega) (by (try dsimp only); omega) _).mono ?_); rintro e w' ⟨rfl, rfl⟩) | (go_at_call 33; (with_reducible refine (norm_c ⟨_, _, _, _⟩ (by (try dsimp only); omega) (by (try dsimp only); omega) (by (try dsimp only); omega) (by (try dsimp only); omega) _).mono ?_); rintro e w' ⟨rfl, rfl⟩))
  go_returns
  exact ⟨rfl, rfl⟩

set_option maxHeartbeats 4000000 in
theorem mirror_c (c : Cx) (h1 : -1048576 ≤ c.x) (h2 : c.x ≤ 1048576) (h3 : -1048576 ≤ c.y) (h4 : c.y ≤ 1048576) (W : World) :
    Calls Try.prog 12 #[cxV c] W fun e w' => e = .returned (cxP ⟨c.x, -c.y⟩) ∧ W = w' := by
  obtain ⟨x, s, y, t⟩ := c
  dsimp only at h1 h2 h3 h4 ⊢
  have g1 : smallI x = true := by unfold smallI; simp [h1, h2]
  have g2 : smallI y = true := by unfold smallI; simp [h3, h4]
  go_enter Try.func12, Try.ntmps12
  go_wp2_with (first | (go_at_call 13; (with_reducible refine (whole_x _ (by (try dsimp only); omega) (by (try dsimp only); omega) (by (try dsimp only); omega) (by (try dsimp only); omega) _).mono ?_); rintro e w' ⟨rfl, rfl⟩) | (go_at_call 13; (with_reducible refine (whole_x ⟨_, _, _, _⟩ (by (try dsimp only); omega) (by (try dsimp only); omega) (by (try dsimp only); omega) (by (try dsimp only); omega) _).mono ?_); rintro e w' ⟨rfl, rfl⟩) | (go_at_call 13; (with_reducible refine (whole_n _ (by assumption) _).mono ?_); rintro e w' ⟨rfl, rfl⟩) | (go_at_call 13; (with_reducible refine (whole_n ⟨_, _⟩ (by assumption) _).mono ?_); rintro e w' ⟨rfl, rfl⟩) | (go_at_call 30; (with_reducible refine (plain_c _ (by (try dsimp only); omega) (by (try dsimp only); omega) (by (try dsimp only); omega) (by (try dsimp only); omega) _).mono ?_); rintro e w' ⟨rfl, rfl⟩) | (go_at_call 30; (with_reducible refine (plain_c ⟨_, _, _, _⟩ (by (try dsimp only); omega) (by (try dsimp only); omega) (by (try dsimp only); omega) (by (try dsimp only); omega) _).mono ?_); rintro e w' ⟨rfl, rfl⟩) | (go_at_call 31; (with_reducible refine (conj_c _ (by (try dsimp only); omega) (by (try dsimp only); omega) _).mono ?_); rintro e w' ⟨rfl, rfl⟩) | (go_at_call 31; (with_reducible refine (conj_c ⟨_, _, _, _⟩ (by (try dsimp only); omega) (by (try dsimp only); omega) _).mono ?_); rintro e w' ⟨rfl, rfl⟩))
  go_returns
  exact ⟨rfl, rfl⟩

set_option maxHeartbeats 4000000 in
theorem mirror_n (c : Cw) (h : OkNot c.a c.b) (W : World) :
    Calls Try.prog 12 #[cwV c] W fun e w' => e = .returned (cxP ⟨0, 0⟩) ∧ W = w' := by
  obtain ⟨a, b⟩ := c
  unfold cxP
  dsimp only
  rw [← lit_zero]
  go_enter Try.func12, Try.ntmps12
  go_wp2_with (first | (go_at_call 13; (with_reducible refine (whole_x _ (by (try dsimp only); omega) (by (try dsimp only); omega) (by (try dsimp only); omega) (by (try dsimp only); omega) _).mono ?_); rintro e w' ⟨rfl, rfl⟩) | (go_at_call 13; (with_reducible refine (whole_x ⟨_, _, _, _⟩ (by (try dsimp only); omega) (by (try dsimp only); omega) (by (try dsimp only); omega) (by (try dsimp only); omega) _).mono ?_); rintro e w' ⟨rfl, rfl⟩) | (go_at_call 13; (with_reducible refine (whole_n _ (by assumption) _).mono ?_); rintro e w' ⟨rfl, rfl⟩) | (go_at_call 13; (with_reducible refine (whole_n ⟨_, _⟩ (by assumption) _).mono ?_); rintro e w' ⟨rfl, rfl⟩) | (go_at_call 30; (with_reducible refine (plain_c _ (by (try dsimp only); omega) (by (try dsimp only); omega) (by (try dsimp only); omega) (by (try dsimp only); omega) _).mono ?_); rintro e w' ⟨rfl, rfl⟩) | (go_at_call 30; (with_reducible refine (plain_c ⟨_, _, _, _⟩ (by (try dsimp only); omega) (by (try dsimp only); omega) (by (try dsimp only); omega) (by (try dsimp only); omega) _).mono ?_); rintro e w' ⟨rfl, rfl⟩) | (go_at_call 31; (with_reducible refine (conj_c _ (by (try dsimp only); omega) (by (try dsimp only); omega) _).mono ?_); rintro e w' ⟨rfl, rfl⟩) | (go_at_call 31; (with_reducible refine (conj_c ⟨_, _, _, _⟩ (by (try dsimp only); omega) (by (try dsimp only); omega) _).mono ?_); rintro e w' ⟨rfl, rfl⟩))
  go_returns
  exact ⟨rfl, rfl⟩

set_option maxHeartbeats 4000000 in
theorem disc_c (c : Cx) (n : Int) (h1 : -1048576 ≤ c.x) (h2 : c.x ≤ 1048576) (h3 : -1048576 ≤ c.y) (h4 : c.y ≤ 1048576) (W : World) :
    Calls Try.prog 15 #[cxV c, .int .i64 n] W fun e w' => e = .returned (.int .i64 (discI c.x c.y n)) ∧ W = w' := by
  obtain ⟨x, s, y, t⟩ := c
  dsimp only at h1 h2 h3 h4 ⊢
  have g1 : smallI x = true := by unfold smallI; simp [h1, h2]
  have g2 : smallI y = true := by unfold smallI; simp [h3, h4]
  have g3 : nearI x * nearI x + nearI y * nearI y = nrm (nearI x) (nearI y) := rfl
  have b1 : -1048577 ≤ nearI x ∧ nearI x ≤ 1048577 := by unfold nearI; split <;> omega
  have b2 : -1048577 ≤ nearI y ∧ nearI y ≤ 1048577 := by unfold nearI; split <;> omega
  obtain ⟨b3, b4⟩ := b1
  obtain ⟨b5, b6⟩ := b2
  have c1 : 0 ≤ clampI n 1048576 ∧ clampI n 1048576 ≤ 1048576 := by unfold clampI; omega
  have c2 := sq_in (n := clampI n 1048576) (by omega)
  have c3 : min (max n 0) 1048576 = clampI n 1048576 := rfl
  unfold discI
  by_cases d1 : farI x y ≤ clampI n 1048576 * clampI n 1048576
  · rw [if_pos d1]
    go_enter Try.func15, Try.ntmps15
    go_wp2_with (first | (go_at_call 13; (with_reducible refine (whole_x _ (by (try dsimp only); omega) (by (try dsimp only); omega) (by (try dsimp only); omega) (by (try dsimp only); omega) _).mono ?_); rintro e w' ⟨rfl, rfl⟩) | (go_at_call 13; (with_reducible refine (whole_x ⟨_, _, _, _⟩ (by (try dsimp only); omega) (by (try dsimp only); omega) (by (try dsimp only); omega) (by (try dsimp only); omega) _).mono ?_); rintro e w' ⟨rfl, rfl⟩) | (go_at_call 13; (with_reducible refine (whole_n _ (by assumption) _).mono ?_); rintro e w' ⟨rfl, rfl⟩) | (go_at_call 13; (with_reducible refine (whole_n ⟨_, _⟩ (by assumption) _).mono ?_); rintro e w' ⟨rfl, rfl⟩) | (go_at_call 33; (with_reducible refine (norm_c _ (by (try dsimp only); omega) (by (try dsimp only); omega) (by (try dsimp only); omega) (by (try dsimp only); omega) _).mono ?_); rintro e w' ⟨rfl, rfl⟩) | (go_at_call 33; (with_reducible refine (norm_c ⟨_, _, _, _⟩ (by (try dsimp only); omega) (by (try dsimp only); omega) (by (try dsimp only); omega) (by (try dsimp only); omega) _).mono ?_); rintro e w' ⟨rfl, rfl⟩) | (go_at_call 34; (with_reducible refine (farthest_c _ (by (try dsimp only); omega) (by (try dsimp only); omega) (by (try dsimp only); omega) (by (try dsimp only); omega) _).mono ?_); rintro e w' ⟨rfl, rfl⟩) | (go_at_call 34; (with_reducible refine (farthest_c ⟨_, _, _, _⟩ (by (try dsimp only); omega) (by (try dsimp only); omega) (by (try dsimp only); omega) (by (try dsimp only); omega) _).mono ?_); rintro e w' ⟨rfl, rfl⟩) | (go_at_call 35; (with_reducible refine (nearest_c _ (by (try dsimp only); omega) (by (try dsimp only); omega) (by (try dsimp only); omega) (by (try dsimp only); omega) _).mono ?_); rintro e w' ⟨rfl, rfl⟩) | (go_at_call 35; (with_reducible refine (nearest_c ⟨_, _, _, _⟩ (by (try dsimp only); omega) (by (try dsimp only); omega) (by (try dsimp only); omega) (by (try dsimp only); omega) _).mono ?_); rintro e w' ⟨rfl, rfl⟩))
    go_returns
    exact ⟨rfl, rfl⟩
  · rw [if_neg d1]
    by_cases d2 : clampI n 1048576 * clampI n 1048576 < nrm (nearI x) (nearI y)
    · rw [if_pos d2]
      go_enter Try.func15, Try.ntmps15
      go_wp2_with (first | (go_at_call 13; (with_reducible refine (whole_x _ (by (try dsimp only); omega) (by (try dsimp only); omega) (by (try dsimp only); omega) (by (try dsimp only); omega) _).mono ?_); rintro e w' ⟨rfl, rfl⟩) | (go_at_call 13; (with_reducible refine (whole_x ⟨_, _, _, _⟩ (by (try dsimp only); omega) (by (try dsimp only); omega) (by (try dsimp only); omega) (by (try dsimp only); omega) _).mono ?_); rintro e w' ⟨rfl, rfl⟩) | (go_at_call 13; (with_reducible refine (whole_n _ (by assumption) _).mono ?_); rintro e w' ⟨rfl, rfl⟩) | (go_at_call 13; (with_reducible refine (whole_n ⟨_, _⟩ (by assumption) _).mono ?_); rintro e w' ⟨rfl, rfl⟩) | (go_at_call 33; (with_reducible refine (norm_c _ (by (try dsimp only); omega) (by (try dsimp only); omega) (by (try dsimp only); omega) (by (try dsimp only); omega) _).mono ?_); rintro e w' ⟨rfl, rfl⟩) | (go_at_call 33; (with_reducible refine (norm_c ⟨_, _, _, _⟩ (by (try dsimp only); omega) (by (try dsimp only); omega) (by (try dsimp only); omega) (by (try dsimp only); omega) _).mono ?_); rintro e w' ⟨rfl, rfl⟩) | (go_at_call 34; (with_reducible refine (farthest_c _ (by (try dsimp only); omega) (by (try dsimp only); omega) (by (try dsimp only); omega) (by (try dsimp only); omega) _).mono ?_); rintro e w' ⟨rfl, rfl⟩) | (go_at_call 34; (with_reducible refine (farthest_c ⟨_, _, _, _⟩ (by (try dsimp only); omega) (by (try dsimp only); omega) (by (try dsimp only); omega) (by (try dsimp only); omega) _).mono ?_); rintro e w' ⟨rfl, rfl⟩) | (go_at_call 35; (with_reducible refine (nearest_c _ (by (try dsimp only); omega) (by (try dsimp only); omega) (by (try dsimp only); omega) (by (try dsimp only); omega) _).mono ?_); rintro e w' ⟨rfl, rfl⟩) | (go_at_call 35; (with_reducible refine (nearest_c ⟨_, _, _, _⟩ (by (try dsimp only); omega) (by (try dsimp only); omega) (by (try dsimp only); omega) (by (try dsimp only); omega) _).mono ?_); rintro e w' ⟨rfl, rfl⟩))
      go_returns
      exact ⟨rfl, rfl⟩
    · rw [if_neg d2]
      go_enter Try.func15, Try.ntmps15
      go_wp2_with (first | (go_at_call 13; (with_reducible refine (whole_x _ (by (try dsimp only); omega) (by (try dsimp only); omega) (by (try dsimp only); omega) (by (try dsimp only); omega) _).mono ?_); rintro e w' ⟨rfl, rfl⟩) | (go_at_call 13; (with_reducible refine (whole_x ⟨_, _, _, _⟩ (by (try dsimp only); omega) (by (try dsimp only); omega) (by (try dsimp only); omega) (by (try dsimp only); omega) _).mono ?_); rintro e w' ⟨rfl, rfl⟩) | (go_at_call 13; (with_reducible refine (whole_n _ (by assumption) _).mono ?_); rintro e w' ⟨rfl, rfl⟩) | (go_at_call 13; (with_reducible refine (whole_n ⟨_, _⟩ (by assumption) _).mono ?_); rintro e w' ⟨rfl, rfl⟩) | (go_at_call 33; (with_reducible refine (norm_c _ (by (try dsimp only); omega) (by (try dsimp only); omega) (by (try dsimp only); omega) (by (try dsimp only); omega) _).mono ?_); rintro e w' ⟨rfl, rfl⟩) | (go_at_call 33; (with_reducible refine (norm_c ⟨_, _, _, _⟩ (by (try dsimp only); omega) (by (try dsimp only); omega) (by (try dsimp only); omega) (by (try dsimp only); omega) _).mono ?_); rintro e w' ⟨rfl, rfl⟩) | (go_at_call 34; (with_reducible refine (farthest_c _ (by (try dsimp only); omega) (by (try dsimp only); omega) (by (try dsimp only); omega) (by (try dsimp only); omega) _).mono ?_); rintro e w' ⟨rfl, rfl⟩) | (go_at_call 34; (with_reducible refine (farthest_c ⟨_, _, _, _⟩ (by (try dsimp only); omega) (by (try dsimp only); omega) (by (try dsimp only); omega) (by (try dsimp only); omega) _).mono ?_); rintro e w' ⟨rfl, rfl⟩) | (go_at_call 35; (with_reducible refine (nearest_c _ (by (try dsimp only); omega) (by (try dsimp only); omega) (by (try dsimp only); omega) (by (try dsimp only); omega) _).mono ?_); rintro e w' ⟨rfl, rfl⟩) | (go_at_call 35; (with_reducible refine (nearest_c ⟨_, _, _, _⟩ (by (try dsimp only); omega) (by (try dsimp only); omega) (by (try dsimp only); omega) (by (try dsimp only); omega) _).mono ?_); rintro e w' ⟨rfl, rfl⟩))
      go_returns
      exact ⟨rfl, rfl⟩

set_option maxHeartbeats 4000000 in
theorem disc_n (c : Cw) (n : Int) (h : OkNot c.a c.b) (W : World) :
    Calls Try.prog 15 #[cwV c, .int .i64 n] W fun e w' => e = .returned (.int .i64 0) ∧ W = w' := by
  obtain ⟨a, b⟩ := c
  go_enter Try.func15, Try.ntmps15
  go_wp2_with (first | (go_at_call 13; (with_reducible refine (whole_x _ (by (try dsimp only); omega) (by (try dsimp only); omega) (by (try dsimp only); omega) (by (try dsimp only); omega) _).mono ?_); rintro e w' ⟨rfl, rfl⟩) | (go_at_call 13; (with_reducible refine (whole_x ⟨_, _, _, _⟩ (by (try dsimp only); omega) (by (try dsimp only); omega) (by (try dsimp only); omega) (by (try dsimp only); omega) _).mono ?_); rintro e w' ⟨rfl, rfl⟩) | (go_at_call 13; (with_reducible refine (whole_n _ (by assumption) _).mono ?_); rintro e w' ⟨rfl, rfl⟩) | (go_at_call 13; (with_reducible refine (whole_n ⟨_, _⟩ (by assumption) _).mono ?_); rintro e w' ⟨rfl, rfl⟩) | (go_at_call 33; (with_reducible refine (norm_c _ (by (try dsimp only); omega) (by (try dsimp only); omega) (by (try dsimp only); omega) (by (try dsimp only); omega) _).mono ?_); rintro e w' ⟨rfl, rfl⟩) | (go_at_call 33; (with_reducible refine (norm_c ⟨_, _, _, _⟩ (by (try dsimp only); omega) (by (try dsimp only); omega) (by (try dsimp only); omega) (by (try dsimp only); omega) _).mono ?_); rintro e w' ⟨rfl, rfl⟩) | (go_at_call 34; (with_reducible refine (farthest_c _ (by (try dsimp only); omega) (by (try dsimp only); omega) (by (try dsimp only); omega) (by (try dsimp only); omega) _).mono ?_); rintro e w' ⟨rfl, rfl⟩) | (go_at_call 34; (with_reducible refine (farthest_c ⟨_, _, _, _⟩ (by (try dsimp only); omega) (by (try dsimp only); omega) (by (try dsimp only); omega) (by (try dsimp only); omega) _).mono ?_); rintro e w' ⟨rfl, rfl⟩) | (go_at_call 35; (with_reducible refine (nearest_c _ (by (try dsimp only); omega) (by (try dsimp only); omega) (by (try dsimp only); omega) (by (try dsimp only); omega) _).mono ?_); rintro e w' ⟨rfl, rfl⟩) | (go_at_call 35; (with_reducible refine (nearest_c ⟨_, _, _, _⟩ (by (try dsimp only); omega) (by (try dsimp only); omega) (by (try dsimp only); omega) (by (try dsimp only); omega) _).mono ?_); rintro e w' ⟨rfl, rfl⟩))
  go_returns
  exact ⟨rfl, rfl⟩

theorem turnI_0 {x y k : Int} (h : k % 4 = 0) : turnI ⟨x, y⟩ k = ⟨x, y⟩ := by unfold turnI; rw [h]; rfl
theorem turnI_1 {x y k : Int} (h : k % 4 = 1) : turnI ⟨x, y⟩ k = ⟨-y, x⟩ := by unfold turnI; rw [h]; rfl
theorem turnI_2 {x y k : Int} (h : k % 4 = 2) : turnI ⟨x, y⟩ k = ⟨-x, -y⟩ := by unfold turnI; rw [h]; rfl
theorem turnI_3 {x y k : Int} (h : k % 4 = 3) : turnI ⟨x, y⟩ k = ⟨y, -x⟩ := by unfold turnI; rw [h]; show (⟨- -y, -x⟩ : Pt) = _; rw [Int.neg_neg]
/-- One quarter. -/
theorem mul_i {P : Program} {x y : Int} (s t : Bool) (hx : -1048577 ≤ x ∧ x ≤ 1048577) (hy : -1048577 ≤ y ∧ y ≤ 1048577) :
    ∃ p q, ∀ (T : TypeId) (w : World), (binOp .mul T (.complex .f64 (ww x s) (ww y t)) (.complex .f64 0 4607182418800017408)).run P w = .ok (.complex .f64 (ww (-y) p) (ww x q)) w := by
  have := cmul (P := P) (a := x) (b := y) (c := 0) (d := 1) s t false false (by omega) (by omega) (by decide) (by decide) (by omega) (by omega) (by omega) (by omega) (-y) x (by omega) (by omega)
  rw [← lit_zero, ← lit_one] at this
  exact this

set_option maxRecDepth 100000 in
set_option maxHeartbeats 4000000 in
theorem turn_c (c : Cx) (k : Int) (h1 : -1048576 ≤ c.x) (h2 : c.x ≤ 1048576) (h3 : -1048576 ≤ c.y) (h4 : c.y ≤ 1048576) (W : World) :
    Calls Try.prog 11 #[cxV c, .int .i64 k] W fun e w' => e = .returned (cxP (turnI ⟨c.x, c.y⟩ k)) ∧ W = w' := by
  obtain ⟨x, s, y, t⟩ := c
  dsimp only at h1 h2 h3 h4 ⊢
  have g1 : smallI x = true := by unfold smallI; simp [h1, h2]
  have g2 : smallI y = true := by unfold smallI; simp [h3, h4]
  obtain ⟨s1, t1, m1⟩ := mul_i (P := Try.prog) (x := x) (y := y) s t (by omega) (by omega)
  obtain ⟨s2, t2, m2⟩ := mul_i (P := Try.prog) (x := -y) (y := x) s1 t1 (by omega) (by omega)
  obtain ⟨s3, t3, m3⟩ := mul_i (P := Try.prog) (x := -x) (y := -y) s2 t2 (by omega) (by omega)
  rw [Int.neg_neg] at m3
  have hk : k % 4 = 0 ∨ k % 4 = 1 ∨ k % 4 = 2 ∨ k % 4 = 3 := by omega
  rcases hk with hk | hk | hk | hk
  · rw [turnI_0 hk]
    go_enter Try.func11, Try.ntmps11
    go_wp2_with (first | (go_at_call 13; (with_reducible refine (whole_x _ (by (try dsimp only); omega) (by (try dsimp only); omega) (by (try dsimp only); omega) (by (try dsimp only); omega) _).mono ?_); rintro e w' ⟨rfl, rfl⟩) | (go_at_call 13; (with_reducible refine (whole_x ⟨_, _, _, _⟩ (by (try dsimp only); omega) (by (try dsimp only); omega) (by (try dsimp only); omega) (by (try dsimp only); omega) _).mono ?_); rintro e w' ⟨rfl, rfl⟩) | (go_at_call 13; (with_reducible refine (whole_n _ (by assumption) _).mono ?_); rintro e w' ⟨rfl, rfl⟩) | (go_at_call 13; (with_reducible refine (whole_n ⟨_, _⟩ (by assumption) _).mono ?_); rintro e w' ⟨rfl, rfl⟩) | (go_at_call 30; (with_reducible refine (plain_c _ (by (try dsimp only); omega) (by (try dsimp only); omega) (by (try dsimp only); omega) (by (try dsimp only); omega) _).mono ?_); rintro e w' ⟨rfl, rfl⟩) | (go_at_call 30; (with_reducible refine (plain_c ⟨_, _, _, _⟩ (by (try dsimp only); omega) (by (try dsimp only); omega) (by (try dsimp only); omega) (by (try dsimp only); omega) _).mono ?_); rintro e w' ⟨rfl, rfl⟩))
    repeat (any_goals (first | (refine wp_loop_rounds 5 ?_) | (rw [rounds_succ]; go_wp2_with (first | (go_at_call 13; (with_reducible refine (whole_x _ (by (try dsimp only); omega) (by (try dsimp only); omega) (by (try dsimp only); omega) (by (try dsimp only); omega) _).mono ?_); rintro e w' ⟨rfl, rfl⟩) | (go_at_call 13; (with_reducible refine (whole_x ⟨_, _, _, _⟩ (by (try dsimp only); omega) (by (try dsimp only); omega) (by (try dsimp only); omega) (by (try dsimp only); omega) _).mono ?_); rintro e w' ⟨rfl, rfl⟩) | (go_at_call 13; (with_reducible refine (whole_n _ (by assumption) _).mono ?_); rintro e w' ⟨rfl, rfl⟩) | (go_at_call 13; (with_reducible refine (whole_n ⟨_, _⟩ (by assumption) _).mono ?_); rintro e w' ⟨rfl, rfl⟩) | (go_at_call 30; (with_reducible refine (plain_c _ (by (try dsimp only); omega) (by (try dsimp only); omega) (by (try dsimp only); omega) (by (try dsimp only); omega) _).mono ?_); rintro e w' ⟨rfl, rfl⟩) | (go_at_call 30; (with_reducible refine (plain_c ⟨_, _, _, _⟩ (by (try dsimp only); omega) (by (try dsimp only); omega) (by (try dsimp only); omega) (by (try dsimp only); omega) _).mono ?_); rintro e w' ⟨rfl, rfl⟩)))))
    go_returns
    exact ⟨rfl, rfl⟩
  · rw [turnI_1 hk]
    go_enter Try.func11, Try.ntmps11
    go_wp2_with (first | (go_at_call 13; (with_reducible refine (whole_x _ (by (try dsimp only); omega) (by (try dsimp only); omega) (by (try dsimp only); omega) (by (try dsimp only); omega) _).mono ?_); rintro e w' ⟨rfl, rfl⟩) | (go_at_call 13; (with_reducible refine (whole_x ⟨_, _, _, _⟩ (by (try dsimp only); omega) (by (try dsimp only); omega) (by (try dsimp only); omega) (by (try dsimp only); omega) _).mono ?_); rintro e w' ⟨rfl, rfl⟩) | (go_at_call 13; (with_reducible refine (whole_n _ (by assumption) _).mono ?_); rintro e w' ⟨rfl, rfl⟩) | (go_at_call 13; (with_reducible refine (whole_n ⟨_, _⟩ (by assumption) _).mono ?_); rintro e w' ⟨rfl, rfl⟩) | (go_at_call 30; (with_reducible refine (plain_c _ (by (try dsimp only); omega) (by (try dsimp only); omega) (by (try dsimp only); omega) (by (try dsimp only); omega) _).mono ?_); rintro e w' ⟨rfl, rfl⟩) | (go_at_call 30; (with_reducible refine (plain_c ⟨_, _, _, _⟩ (by (try dsimp only); omega) (by (try dsimp only); omega) (by (try dsimp only); omega) (by (try dsimp only); omega) _).mono ?_); rintro e w' ⟨rfl, rfl⟩))
    repeat (any_goals (first | (refine wp_loop_rounds 5 ?_) | (rw [rounds_succ]; go_wp2_with (first | (go_at_call 13; (with_reducible refine (whole_x _ (by (try dsimp only); omega) (by (try dsimp only); omega) (by (try dsimp only); omega) (by (try dsimp only); omega) _).mono ?_); rintro e w' ⟨rfl, rfl⟩) | (go_at_call 13; (with_reducible refine (whole_x ⟨_, _, _, _⟩ (by (try dsimp only); omega) (by (try dsimp only); omega) (by (try dsimp only); omega) (by (try dsimp only); omega) _).mono ?_); rintro e w' ⟨rfl, rfl⟩) | (go_at_call 13; (with_reducible refine (whole_n _ (by assumption) _).mono ?_); rintro e w' ⟨rfl, rfl⟩) | (go_at_call 13; (with_reducible refine (whole_n ⟨_, _⟩ (by assumption) _).mono ?_); rintro e w' ⟨rfl, rfl⟩) | (go_at_call 30; (with_reducible refine (plain_c _ (by (try dsimp only); omega) (by (try dsimp only); omega) (by (try dsimp only); omega) (by (try dsimp only); omega) _).mono ?_); rintro e w' ⟨rfl, rfl⟩) | (go_at_call 30; (with_reducible refine (plain_c ⟨_, _, _, _⟩ (by (try dsimp only); omega) (by (try dsimp only); omega) (by (try dsimp only); omega) (by (try dsimp only); omega) _).mono ?_); rintro e w' ⟨rfl, rfl⟩)))))
    go_returns
    exact ⟨rfl, rfl⟩
  · rw [turnI_2 hk]
    go_enter Try.func11, Try.ntmps11
    go_wp2_with (first | (go_at_call 13; (with_reducible refine (whole_x _ (by (try dsimp only); omega) (by (try dsimp only); omega) (by (try dsimp only); omega) (by (try dsimp only); omega) _).mono ?_); rintro e w' ⟨rfl, rfl⟩) | (go_at_call 13; (with_reducible refine (whole_x ⟨_, _, _, _⟩ (by (try dsimp only); omega) (by (try dsimp only); omega) (by (try dsimp only); omega) (by (try dsimp only); omega) _).mono ?_); rintro e w' ⟨rfl, rfl⟩) | (go_at_call 13; (with_reducible refine (whole_n _ (by assumption) _).mono ?_); rintro e w' ⟨rfl, rfl⟩) | (go_at_call 13; (with_reducible refine (whole_n ⟨_, _⟩ (by assumption) _).mono ?_); rintro e w' ⟨rfl, rfl⟩) | (go_at_call 30; (with_reducible refine (plain_c _ (by (try dsimp only); omega) (by (try dsimp only); omega) (by (try dsimp only); omega) (by (try dsimp only); omega) _).mono ?_); rintro e w' ⟨rfl, rfl⟩) | (go_at_call 30; (with_reducible refine (plain_c ⟨_, _, _, _⟩ (by (try dsimp only); omega) (by (try dsimp only); omega) (by (try dsimp only); omega) (by (try dsimp only); omega) _).mono ?_); rintro e w' ⟨rfl, rfl⟩))
    repeat (any_goals (first | (refine wp_loop_rounds 5 ?_) | (rw [rounds_succ]; go_wp2_with (first | (go_at_call 13; (with_reducible refine (whole_x _ (by (try dsimp only); omega) (by (try dsimp only); omega) (by (try dsimp only); omega) (by (try dsimp only); omega) _).mono ?_); rintro e w' ⟨rfl, rfl⟩) | (go_at_call 13; (with_reducible refine (whole_x ⟨_, _, _, _⟩ (by (try dsimp only); omega) (by (try dsimp only); omega) (by (try dsimp only); omega) (by (try dsimp only); omega) _).mono ?_); rintro e w' ⟨rfl, rfl⟩) | (go_at_call 13; (with_reducible refine (whole_n _ (by assumption) _).mono ?_); rintro e w' ⟨rfl, rfl⟩) | (go_at_call 13; (with_reducible refine (whole_n ⟨_, _⟩ (by assumption) _).mono ?_); rintro e w' ⟨rfl, rfl⟩) | (go_at_call 30; (with_reducible refine (plain_c _ (by (try dsimp only); omega) (by (try dsimp only); omega) (by (try dsimp only); omega) (by (try dsimp only); omega) _).mono ?_); rintro e w' ⟨rfl, rfl⟩) | (go_at_call 30; (with_reducible refine (plain_c ⟨_, _, _, _⟩ (by (try dsimp only); omega) (by (try dsimp only); omega) (by (try dsimp only); omega) (by (try dsimp only); omega) _).mono ?_); rintro e w' ⟨rfl, rfl⟩)))))
    go_returns
    exact ⟨rfl, rfl⟩
  · rw [turnI_3 hk]
    go_enter Try.func11, Try.ntmps11
    go_wp2_with (first | (go_at_call 13; (with_reducible refine (whole_x _ (by (try dsimp only); omega) (by (try dsimp only); omega) (by (try dsimp only); omega) (by (try dsimp only); omega) _).mono ?_); rintro e w' ⟨rfl, rfl⟩) | (go_at_call 13; (with_reducible refine (whole_x ⟨_, _, _, _⟩ (by (try dsimp only); omega) (by (try dsimp only); omega) (by (try dsimp only); omega) (by (try dsimp only); omega) _).mono ?_); rintro e w' ⟨rfl, rfl⟩) | (go_at_call 13; (with_reducible refine (whole_n _ (by assumption) _).mono ?_); rintro e w' ⟨rfl, rfl⟩) | (go_at_call 13; (with_reducible refine (whole_n ⟨_, _⟩ (by assumption) _).mono ?_); rintro e w' ⟨rfl, rfl⟩) | (go_at_call 30; (with_reducible refine (plain_c _ (by (try dsimp only); omega) (by (try dsimp only); omega) (by (try dsimp only); omega) (by (try dsimp only); omega) _).mono ?_); rintro e w' ⟨rfl, rfl⟩) | (go_at_call 30; (with_reducible refine (plain_c ⟨_, _, _, _⟩ (by (try dsimp only); omega) (by (try dsimp only); omega) (by (try dsimp only); omega) (by (try dsimp only); omega) _).mono ?_); rintro e w' ⟨rfl, rfl⟩))
    repeat (any_goals (first | (refine wp_loop_rounds 5 ?_) | (rw [rounds_succ]; go_wp2_with (first | (go_at_call 13; (with_reducible refine (whole_x _ (by (try dsimp only); omega) (by (try dsimp only); omega) (by (try dsimp only); omega) (by (try dsimp only); omega) _).mono ?_); rintro e w' ⟨rfl, rfl⟩) | (go_at_call 13; (with_reducible refine (whole_x ⟨_, _, _, _⟩ (by (try dsimp only); omega) (by (try dsimp only); omega) (by (try dsimp only); omega) (by (try dsimp only); omega) _).mono ?_); rintro e w' ⟨rfl, rfl⟩) | (go_at_call 13; (with_reducible refine (whole_n _ (by assumption) _).mono ?_); rintro e w' ⟨rfl, rfl⟩) | (go_at_call 13; (with_reducible refine (whole_n ⟨_, _⟩ (by assumption) _).mono ?_); rintro e w' ⟨rfl, rfl⟩) | (go_at_call 30; (with_reducible refine (plain_c _ (by (try dsimp only); omega) (by (try dsimp only); omega) (by (try dsimp only); omega) (by (try dsimp only); omega) _).mono ?_); rintro e w' ⟨rfl, rfl⟩) | (go_at_call 30; (with_reducible refine (plain_c ⟨_, _, _, _⟩ (by (try dsimp only); omega) (by (try dsimp only); omega) (by (try dsimp only); omega) (by (try dsimp only); omega) _).mono ?_); rintro e w' ⟨rfl, rfl⟩)))))
    go_returns
    exact ⟨rfl, rfl⟩

set_option maxHeartbeats 4000000 in
theorem turn_n (c : Cw) (k : Int) (h : OkNot c.a c.b) (W : World) :
    Calls Try.prog 11 #[cwV c, .int .i64 k] W fun e w' => e = .returned (cxP ⟨0, 0⟩) ∧ W = w' := by
  obtain ⟨a, b⟩ := c
  unfold cxP
  dsimp only
  rw [← lit_zero]
  go_enter Try.func11, Try.ntmps11
  go_wp2_with (first | (go_at_call 13; (with_reducible refine (whole_x _ (by (try dsimp only); omega) (by (try dsimp only); omega) (by (try dsimp only); omega) (by (try dsimp only); omega) _).mono ?_); rintro e w' ⟨rfl, rfl⟩) | (go_at_call 13; (with_reducible refine (whole_x ⟨_, _, _, _⟩ (by (try dsimp only); omega) (by (try dsimp only); omega) (by (try dsimp only); omega) (by (try dsimp only); omega) _).mono ?_); rintro e w' ⟨rfl, rfl⟩) | (go_at_call 13; (with_reducible refine (whole_n _ (by assumption) _).mono ?_); rintro e w' ⟨rfl, rfl⟩) | (go_at_call 13; (with_reducible refine (whole_n ⟨_, _⟩ (by assumption) _).mono ?_); rintro e w' ⟨rfl, rfl⟩) | (go_at_call 30; (with_reducible refine (plain_c _ (by (try dsimp only); omega) (by (try dsimp only); omega) (by (try dsimp only); omega) (by (try dsimp only); omega) _).mono ?_); rintro e w' ⟨rfl, rfl⟩) | (go_at_call 30; (with_reducible refine (plain_c ⟨_, _, _, _⟩ (by (try dsimp only); omega) (by (try dsimp only); omega) (by (try dsimp only); omega) (by (try dsimp only); omega) _).mono ?_); rintro e w' ⟨rfl, rfl⟩))
  go_returns
  exact ⟨rfl, rfl⟩

def zeroP (p : Pt) : Bool := decide (p.x = 0) && decide (p.y = 0)
def smallP (p : Pt) : Bool := smallI p.x && smallI p.y
def isBp (b : Bp) : Bool := smallP b.n && (smallP b.d && (!zeroP b.n || !zeroP b.d))
def smallM (m : M4) : Bool := smallI m.a && (smallI m.b && (smallI m.c && smallI m.d))
/-- The whole number of a complex one. -/
def Cx.pt (c : Cx) : Pt := ⟨c.x, c.y⟩
def Bm.bp (b : Bm) : Bp := ⟨b.n.pt, b.d.pt⟩
/-- A whole number without signs of its zeros. -/
def Pt.cx (p : Pt) : Cx := ⟨p.x, false, p.y, false⟩
def mixP (b : Bp) (k l : Int) : Pt := ⟨k * b.n.x + l * b.d.x, k * b.n.y + l * b.d.y⟩
def carried (b : Bp) (m : M4) : Bp := ⟨mixP b m.a m.b, mixP b m.c m.d⟩
def zeroBp : Bp := ⟨⟨0, 0⟩, ⟨0, 0⟩⟩
def carryB (b : Bp) (m : M4) : Bool := isBp b && (smallM m && isBp (carried b m))

theorem neq0 {x y : Int} (s t : Bool) (hx : In52 x) (hy : In52 y) : (Ieee.double.order (ww x s) 0 == some .eq && Ieee.double.order (ww y t) 0 == some .eq) = zeroP ⟨x, y⟩ := by
  have e1 := eq_ww (a := x) (b := 0) s false hx (by decide)
  have e2 := eq_ww (a := y) (b := 0) t false hy (by decide)
  rw [← lit_zero] at e1 e2
  rw [e1, e2]
  rfl

set_option maxHeartbeats 4000000 in
theorem isBeam_c (b : Bm) (h1 : -4503599627370495 ≤ b.n.x) (h2 : b.n.x ≤ 4503599627370495) (h3 : -4503599627370495 ≤ b.n.y) (h4 : b.n.y ≤ 4503599627370495) (h5 : -4503599627370495 ≤ b.d.x) (h6 : b.d.x ≤ 4503599627370495) (h7 : -4503599627370495 ≤ b.d.y) (h8 : b.d.y ≤ 4503599627370495) (W : World) :
    Calls Try.prog 27 #[bmV b] W fun e w' => e = .returned (.bool (isBp ⟨⟨b.n.x, b.n.y⟩, ⟨b.d.x, b.d.y⟩⟩)) ∧ More W w' := by
  obtain ⟨⟨x, s, y, t⟩, ⟨u, p, v, q⟩⟩ := b
  dsimp only at h1 h2 h3 h4 h5 h6 h7 h8 ⊢
  have e1 := neq0 (x := x) (y := y) s t (by omega) (by omega)
  have e2 := neq0 (x := u) (y := v) p q (by omega) (by omega)
  unfold isBp smallP
  dsimp only
  cases g1 : (smallI x && smallI y)
  · skip
    go_enter Try.func27, Try.ntmps27
    go_wp2_with (first | (go_at_call 13; (with_reducible refine (whole_x _ (by (try dsimp only); omega) (by (try dsimp only); omega) (by (try dsimp only); omega) (by (try dsimp only); omega) _).mono ?_); rintro e w' ⟨rfl, rfl⟩) | (go_at_call 13; (with_reducible refine (whole_x ⟨_, _, _, _⟩ (by (try dsimp only); omega) (by (try dsimp only); omega) (by (try dsimp only); omega) (by (try dsimp only); omega) _).mono ?_); rintro e w' ⟨rfl, rfl⟩) | (go_at_call 13; (with_reducible refine (whole_n _ (by assumption) _).mono ?_); rintro e w' ⟨rfl, rfl⟩) | (go_at_call 13; (with_reducible refine (whole_n ⟨_, _⟩ (by assumption) _).mono ?_); rintro e w' ⟨rfl, rfl⟩))
    go_returns
    exact ⟨rfl, (by repeat (first | exact More.refl _ | refine More.alloc ?_ _ | refine More.more ?_ _ | refine More.drew ?_ | refine More.drewN ?_ _))⟩
  · cases g2 : (smallI u && smallI v)
    · skip
      go_enter Try.func27, Try.ntmps27
      go_wp2_with (first | (go_at_call 13; (with_reducible refine (whole_x _ (by (try dsimp only); omega) (by (try dsimp only); omega) (by (try dsimp only); omega) (by (try dsimp only); omega) _).mono ?_); rintro e w' ⟨rfl, rfl⟩) | (go_at_call 13; (with_reducible refine (whole_x ⟨_, _, _, _⟩ (by (try dsimp only); omega) (by (try dsimp only); omega) (by (try dsimp only); omega) (by (try dsimp only); omega) _).mono ?_); rintro e w' ⟨rfl, rfl⟩) | (go_at_call 13; (with_reducible refine (whole_n _ (by assumption) _).mono ?_); rintro e w' ⟨rfl, rfl⟩) | (go_at_call 13; (with_reducible refine (whole_n ⟨_, _⟩ (by assumption) _).mono ?_); rintro e w' ⟨rfl, rfl⟩))
      go_returns
      exact ⟨rfl, (by repeat (first | exact More.refl _ | refine More.alloc ?_ _ | refine More.more ?_ _ | refine More.drew ?_ | refine More.drewN ?_ _))⟩
    · cases g5 : zeroP ⟨x, y⟩ <;> rw [g5] at e1
      · skip
        go_enter Try.func27, Try.ntmps27
        go_wp2_with (first | (go_at_call 13; (with_reducible refine (whole_x _ (by (try dsimp only); omega) (by (try dsimp only); omega) (by (try dsimp only); omega) (by (try dsimp only); omega) _).mono ?_); rintro e w' ⟨rfl, rfl⟩) | (go_at_call 13; (with_reducible refine (whole_x ⟨_, _, _, _⟩ (by (try dsimp only); omega) (by (try dsimp only); omega) (by (try dsimp only); omega) (by (try dsimp only); omega) _).mono ?_); rintro e w' ⟨rfl, rfl⟩) | (go_at_call 13; (with_reducible refine (whole_n _ (by assumption) _).mono ?_); rintro e w' ⟨rfl, rfl⟩) | (go_at_call 13; (with_reducible refine (whole_n ⟨_, _⟩ (by assumption) _).mono ?_); rintro e w' ⟨rfl, rfl⟩))
        go_returns
        exact ⟨rfl, (by repeat (first | exact More.refl _ | refine More.alloc ?_ _ | refine More.more ?_ _ | refine More.drew ?_ | refine More.drewN ?_ _))⟩
      · cases g6 : zeroP ⟨u, v⟩ <;> rw [g6] at e2
        · skip
          go_enter Try.func27, Try.ntmps27
          go_wp2_with (first | (go_at_call 13; (with_reducible refine (whole_x _ (by (try dsimp only); omega) (by (try dsimp only); omega) (by (try dsimp only); omega) (by (try dsimp only); omega) _).mono ?_); rintro e w' ⟨rfl, rfl⟩) | (go_at_call 13; (with_reducible refine (whole_x ⟨_, _, _, _⟩ (by (try dsimp only); omega) (by (try dsimp only); omega) (by (try dsimp only); omega) (by (try dsimp only); omega) _).mono ?_); rintro e w' ⟨rfl, rfl⟩) | (go_at_call 13; (with_reducible refine (whole_n _ (by assumption) _).mono ?_); rintro e w' ⟨rfl, rfl⟩) | (go_at_call 13; (with_reducible refine (whole_n ⟨_, _⟩ (by assumption) _).mono ?_); rintro e w' ⟨rfl, rfl⟩))
          go_returns
          exact ⟨rfl, (by repeat (first | exact More.refl _ | refine More.alloc ?_ _ | refine More.more ?_ _ | refine More.drew ?_ | refine More.drewN ?_ _))⟩
        · skip
          go_enter Try.func27, Try.ntmps27
          go_wp2_with (first | (go_at_call 13; (with_reducible refine (whole_x _ (by (try dsimp only); omega) (by (try dsimp only); omega) (by (try dsimp only); omega) (by (try dsimp only); omega) _).mono ?_); rintro e w' ⟨rfl, rfl⟩) | (go_at_call 13; (with_reducible refine (whole_x ⟨_, _, _, _⟩ (by (try dsimp only); omega) (by (try dsimp only); omega) (by (try dsimp only); omega) (by (try dsimp only); omega) _).mono ?_); rintro e w' ⟨rfl, rfl⟩) | (go_at_call 13; (with_reducible refine (whole_n _ (by assumption) _).mono ?_); rintro e w' ⟨rfl, rfl⟩) | (go_at_call 13; (with_reducible refine (whole_n ⟨_, _⟩ (by assumption) _).mono ?_); rintro e w' ⟨rfl, rfl⟩))
          go_returns
          exact ⟨rfl, (by repeat (first | exact More.refl _ | refine More.alloc ?_ _ | refine More.more ?_ _ | refine More.drew ?_ | refine More.drewN ?_ _))⟩

end Go.Proofs.Ytnkiikdlmlaklaa

