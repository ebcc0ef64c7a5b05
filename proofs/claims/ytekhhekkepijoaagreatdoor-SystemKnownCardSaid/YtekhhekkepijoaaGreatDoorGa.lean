/-
  The world with more blocks behind it, and draws made: what a call leaves that makes memory of its own and touches nothing that was there.
  Plain numbers: what the steps of chapter 1 come to. Nothing of the program stands here.
  Regions that draw their order, whose operations read and whose calls make memory of their own: one walk in the text's order serves every order; what ends the region (stores, one behind the other) is walked behind it.
  Regions of many operations that draw their order: which waits for which is looked up in numbers, and one walk in the text's order serves every order.
  Regions that draw their order, with one block laid in their midst and stores at their end: the block may be laid at any time; one walk in the text's order serves every order.
  Regions that draw their order, some of whose operations answer what is not one value in every order (a slice that is laid, a callee's new slice): of such a slot a fact is known that more blocks don't turn; whatever reads it is shown for every value of which the fact holds.
  A struct of many cells goes into a block, and comes out of it, at once: cell by cell the check of a walk doubles with each. What serves every struct.
  Regions that draw their order, with a store at their end, and an operation that takes a part of an answer and may come ahead of that store or behind it: as if it came ahead.
  Regions that draw their order, with a slice laid in their midst and stores at their end: the head by itself, in whatever order; then the tail.
  Regions that draw their order, with several blocks laid in their midst and stores at their end: the blocks lie apart, in whatever order they were laid.
  A scope with one label to which the run comes back, and others to which it goes onward.
-/
import Derived.WalkKit
import Derived.ProofKit
import Derived.OpenShut
import Derived.Outline
import Derived.Lib.Hide
import Derived.Deep.Draws
import Derived.Handy
import Derived.Lib.MinMax
import Derived.StillTail
import Derived.Deep.Quiet
import Derived.Deep.QuietTactic
import Derived.BigQuiet
import Derived.CheckFast
import Derived.ScopeJumps

namespace Go.Proofs.YtekhhekkepijoaaGreatDoor
set_option linter.unusedVariables false
open Go.RowKit

/-- Blocks that are laid behind those of a world, and how many draws are made then, in all. -/
structure Rest where
  X : Array Obj
  n : Nat
instance Rest.some : Inhabited Rest := ⟨⟨#[], 0⟩⟩
def Rest.plus (r s : Rest) : Rest := ⟨r.X ++ s.X, s.n⟩
def Rest.draw (r : Rest) (k : Nat) : Rest := ⟨r.X, r.n + k⟩
def Rest.len (r : Rest) : Nat := r.X.size
/-- The blocks of r behind those of w; its draws. -/
def more (w : World) (r : Rest) : World := { w with heap := w.heap ++ r.X, drawn := r.n }

section
variable (w : World) (r s : Rest) (m : Nat)
@[go_sem, simp] theorem more_more : more (more w r) s = more w (r.plus s) := by
  unfold more Rest.plus; simp
@[go_sem, simp] theorem more_drew : (more w r).drew = more w (r.draw 1) := rfl
@[go_sem, simp] theorem drew_more : more w.drew r = more w r := by
  unfold more World.drew; simp
@[go_sem, simp] theorem drewN_more : more (w.drewN m) r = more w r := by
  unfold more World.drewN; simp
@[go_sem, simp] theorem more_drewN : (more w r).drewN m = more w (r.draw m) := by
  unfold more World.drewN Rest.draw; simp
@[go_sem, simp] theorem size_more : (more w r).heap.size = w.heap.size + r.len := by
  unfold more Rest.len; simp
theorem heap_more (k : Nat) (h : k < w.heap.size) : (more w r).heap[k]? = w.heap[k]? := by
  unfold more; simp [Array.getElem?_append, h]
@[go_sem] theorem cell_more (b o : Nat) (h : b < w.heap.size) : (more w r).cell? ⟨b, o, none⟩ = w.cell? ⟨b, o, none⟩ :=
  World.cell?_of_block (heap_more w r b h)
@[go_sem] theorem frozen_more (b o : Nat) (h : b < w.heap.size) : (more w r).frozen? ⟨b, o, none⟩ = w.frozen? ⟨b, o, none⟩ :=
  World.frozen?_of_block (heap_more w r b h)
@[go_sem] theorem setCell_more (b o : Nat) (v : Value) (h : b < w.heap.size) : (more w r).setCell ⟨b, o, none⟩ v = more (w.setCell ⟨b, o, none⟩ v) r := by
  unfold more World.setCell
  congr 1
  apply Array.ext_getElem?
  intro k
  simp only [Array.getElem?_modify, Array.getElem?_append, Array.size_modify]
  by_cases hk : k < w.heap.size
  · simp [hk]
  · have : ¬ b = k := by omega
    simp [hk, this]
end

/-- w' is w with more blocks behind it. -/
def More (w w' : World) : Prop := ∃ r, w' = more w r
theorem more_self (w : World) : more w ⟨#[], w.drawn⟩ = w := by unfold more; simp
theorem More.refl (w : World) : More w w := ⟨⟨#[], w.drawn⟩, (more_self w).symm⟩
theorem More.alloc {w w' : World} (h : More w w') (o : Obj) : More w (w'.alloc o) := by
  obtain ⟨r, rfl⟩ := h
  exact ⟨⟨r.X.push o, r.n⟩, by unfold more World.alloc; simp⟩
theorem More.more {w w' : World} (h : More w w') (r : Rest) : More w (more w' r) := by
  obtain ⟨s, rfl⟩ := h
  exact ⟨_, more_more _ _ _⟩
theorem More.drew {w w' : World} (h : More w w') : More w w'.drew := by
  obtain ⟨r, rfl⟩ := h
  exact ⟨_, more_drew _ _⟩
theorem More.drewN {w w' : World} (h : More w w') (k : Nat) : More w (w'.drewN k) := by
  obtain ⟨r, rfl⟩ := h
  exact ⟨_, more_drewN _ _ _⟩
/-- Who leaves all that was there as it was, has made more. -/
theorem more_of_below {w w' : World} (h : Below w.heap.size w w') : More w w' := by
  refine ⟨⟨w'.heap.extract w.heap.size w'.heap.size, w'.drawn⟩, ?_⟩
  have e : w'.heap = w.heap ++ w'.heap.extract w.heap.size w'.heap.size := by
    apply Array.ext_getElem?
    intro k
    rw [Array.getElem?_append]
    split
    · rename_i hk; exact h.block k hk
    · rename_i hk
      rw [Array.getElem?_extract]
      have := h.size
      split
      · rw [show w.heap.size + (k - w.heap.size) = k by omega]
      · rename_i hn
        rw [Array.getElem?_eq_none (by omega)]
  obtain ⟨h1, h2, h3, h4, h5⟩ := w'
  obtain ⟨os, tape, out, -, -⟩ := h
  simp only at os tape out e
  subst os tape out
  unfold more
  simp only [World.mk.injEq, and_true]
  exact e
theorem More.trans {a b c : World} (h : More a b) (k : More b c) : More a c := by
  obtain ⟨r, rfl⟩ := h
  obtain ⟨s, rfl⟩ := k
  exact ⟨_, more_more _ _ _⟩
theorem More.below {w w' : World} (h : More w w') : Below w.heap.size w w' := by
  obtain ⟨r, rfl⟩ := h
  exact ⟨rfl, rfl, rfl, by simp, fun k hk => heap_more _ _ _ hk⟩

section
variable {P : Program} (w : World)
@[go_sem high] theorem run_min3 (ts : Array TypeId) (t : TypeId) (k k' k'' : IntKind) (x y z : Int) : (Builtin.min_ ts t #[.int k x, .int k' y, .int k'' z]).run P w = .ok (.int k (min (min x y) z)) w := by
  have e : ∀ x y : Int, (if y < x then y else x) = min x y := fun x y => by rw [Int.min_def]; split <;> split <;> omega
  simp [Builtin.min_, Builtin.min2, e]
@[go_sem high] theorem run_max3 (ts : Array TypeId) (t : TypeId) (k k' k'' : IntKind) (x y z : Int) : (Builtin.max_ ts t #[.int k x, .int k' y, .int k'' z]).run P w = .ok (.int k (max (max x y) z)) w := by
  have e : ∀ x y : Int, (if y > x then y else x) = max x y := fun x y => by rw [Int.max_def]; split <;> split <;> omega
  simp [Builtin.max_, Builtin.max2, e]
@[go_sem high] theorem run_min4 (ts : Array TypeId) (t : TypeId) (k k' k'' k3 : IntKind) (x y z u : Int) : (Builtin.min_ ts t #[.int k x, .int k' y, .int k'' z, .int k3 u]).run P w = .ok (.int k (min (min (min x y) z) u)) w := by
  have e : ∀ x y : Int, (if y < x then y else x) = min x y := fun x y => by rw [Int.min_def]; split <;> split <;> omega
  simp [Builtin.min_, Builtin.min2, e]
@[go_sem high] theorem run_max4 (ts : Array TypeId) (t : TypeId) (k k' k'' k3 : IntKind) (x y z u : Int) : (Builtin.max_ ts t #[.int k x, .int k' y, .int k'' z, .int k3 u]).run P w = .ok (.int k (max (max (max x y) z) u)) w := by
  have e : ∀ x y : Int, (if y > x then y else x) = max x y := fun x y => by rw [Int.max_def]; split <;> split <;> omega
  simp [Builtin.max_, Builtin.max2, e]
end

/-- Where blocks lie: sums of sizes, written from the right, told apart at once. -/
theorem lt_lit {a b x : Nat} (h : a < b) : a < b + x := by omega
attribute [go_sem] lt_lit Nat.add_assoc
end Go.Proofs.YtekhhekkepijoaaGreatDoor

namespace Go.Proofs.YtekhhekkepijoaaGreatDoor
set_option linter.unusedVariables false

theorem fdiv_of (a b : Int) (hb : b ≠ 0) : a.fdiv b = if (a.tmod b ≠ 0 ∧ ¬ ((a < 0) ↔ (b < 0))) then a.tdiv b - 1 else a.tdiv b := by
  rw [Int.fdiv_eq_tdiv]
  have hd : b ∣ a ↔ a.tmod b = 0 := Int.dvd_iff_tmod_eq_zero
  generalize a.tmod b = m at *
  generalize a.tdiv b = q at *
  by_cases h1 : m = 0
  · have : b ∣ a := hd.2 h1
    simp [this, h1]
  · have : ¬ b ∣ a := fun h => h1 (hd.1 h)
    rw [if_neg this]
    by_cases h3 : 0 ≤ b
    · have h4 : b.sign = 1 := Int.sign_eq_one_of_pos (by omega)
      by_cases h2 : 0 ≤ a
      · rw [if_pos h2, if_pos h3, if_neg (by omega)]; omega
      · rw [if_neg h2, if_pos h3, if_pos (by omega)]; omega
    · have h4 : b.sign = -1 := Int.sign_eq_neg_one_of_neg (by omega)
      by_cases h2 : 0 ≤ a
      · rw [if_pos h2, if_neg h3, if_pos (by omega)]
      · rw [if_neg h2, if_neg h3, if_neg (by omega)]; omega

theorem tdiv_bd (a b : Int) (ha : -9223372036854775808 ≤ a) (ha' : a ≤ 9223372036854775807) (h : ¬ (a = -9223372036854775808 ∧ b = -1)) : -9223372036854775808 ≤ a.tdiv b ∧ a.tdiv b ≤ 9223372036854775807 := by
  by_cases h1 : b = 1
  · subst h1; simp; omega
  · by_cases h2 : b = -1
    · subst h2; simp; omega
    · by_cases h3 : b = 0
      · subst h3; simp
      · have h4 : (a.tdiv b).natAbs ≤ a.natAbs / 2 := by
          rw [Int.natAbs_tdiv]; exact Nat.div_le_div_left (by omega) (by omega)
        omega

theorem tdiv_bd2 (a b : Int) (ha : -9223372036854775808 ≤ a) (ha' : a ≤ 9223372036854775807) (h : ¬ a.tmod b = 0) : -4611686018427387904 ≤ a.tdiv b ∧ a.tdiv b ≤ 4611686018427387904 := by
  by_cases h1 : b = 1
  · subst h1; simp at h
  · by_cases h2 : b = -1
    · subst h2; simp at h
    · by_cases h3 : b = 0
      · subst h3; simp
      · have h4 : (a.tdiv b).natAbs ≤ a.natAbs / 2 := by
          rw [Int.natAbs_tdiv]; exact Nat.div_le_div_left (by omega) (by omega)
        omega

theorem fdiv_abs (a b : Int) : (a.fdiv b).natAbs ≤ a.natAbs := by
  by_cases hb : b = 0
  · subst hb; simp
  · have h1 : (a.tdiv b).natAbs ≤ a.natAbs := by rw [Int.natAbs_tdiv]; exact Nat.div_le_self _ _
    rw [fdiv_of a b hb]
    split
    · rename_i h
      have h2 : 2 ≤ b.natAbs := by
        have : b ≠ 1 := by intro e; subst e; simp at h
        have : b ≠ -1 := by intro e; subst e; simp at h
        omega
      have h3 : a ≠ 0 := by intro e; subst e; simp at h
      have h4 : (a.tdiv b).natAbs ≤ a.natAbs / 2 := by
        rw [Int.natAbs_tdiv]; exact Nat.div_le_div_left h2 (by omega)
      omega
    · exact h1

/-- Is n a number of steps? -/
def isIn (n : Int) : Bool := decide (-1073741824 ≤ n) && decide (n ≤ 1073741824)
theorem isIn_iff {n : Int} : isIn n = true ↔ -1073741824 ≤ n ∧ n ≤ 1073741824 := by simp [isIn]
def told (n : Int) : Int × Bool := if isIn n then (n, true) else (0, false)
def quo (a b : Int) (up : Bool) : Int := if up then -((-a).fdiv b) else a.fdiv b
def divN (a b : Int) (up : Bool) : Int × Bool := if isIn a && isIn b && !(b == 0) then told (quo (a * 65536) b up) else (0, false)
/-- The root of n, bit by bit, the highest first: k bits are left. -/
def rootGo (n : Int) : Nat → Int → Int
  | 0, r => r
  | k + 1, r => rootGo n k (if (r + 2 ^ k) * (r + 2 ^ k) ≤ n then r + 2 ^ k else r)
def flRoot (n : Int) : Int := rootGo n 24 0
def upRoot (n : Int) (up : Bool) : Int := if up && !(flRoot n * flRoot n == n) then flRoot n + 1 else flRoot n
def rootN (a : Int) (up : Bool) : Int × Bool := if isIn a && !decide (a < 0) then told (upRoot (a * 65536) up) else (0, false)

theorem mul_bd {a b : Int} {A B : Int} (ha : -A ≤ a ∧ a ≤ A) (hb : -B ≤ b ∧ b ≤ B) : -(A * B) ≤ a * b ∧ a * b ≤ A * B := by
  have h0 : 0 ≤ A := by omega
  have h1 : (a * b).natAbs ≤ A.natAbs * B.natAbs := by rw [Int.natAbs_mul]; exact Nat.mul_le_mul (by omega) (by omega)
  have h2 : ((A.natAbs * B.natAbs : Nat) : Int) = A * B := by rw [Int.natCast_mul, Int.natAbs_of_nonneg h0, Int.natAbs_of_nonneg (by omega)]
  omega
/-- The value of the bit ahead of which k bits are left. -/
def bitv : Nat → Int
  | 0 => 0
  | k + 1 => 2 ^ k
theorem bitv_half (k : Nat) : bitv (k + 1) / 2 = bitv k := by
  cases k with
  | zero => rfl
  | succ k => show (2 : Int) ^ (k + 1) / 2 = 2 ^ k; rw [Int.pow_succ]; omega
theorem bitv_pos (k : Nat) : 0 < bitv (k + 1) := Int.pow_pos (by omega)
theorem bitv_le (k : Nat) (h : k < 24) : bitv (k + 1) ≤ 8388608 := by
  have h1 : 2 ^ k ≤ 2 ^ 23 := Nat.pow_le_pow_right (n := 2) (by omega) (by omega)
  have h2 : ((2 ^ k : Nat) : Int) = 2 ^ k := by rw [Int.natCast_pow]; rfl
  show (2 : Int) ^ k ≤ 8388608
  omega
theorem rootGo_succ (n : Int) (k : Nat) (r : Int) : rootGo n (k + 1) r = rootGo n k (if (r + bitv (k + 1)) * (r + bitv (k + 1)) ≤ n then r + bitv (k + 1) else r) := rfl

theorem rootGo_bd (n : Int) : ∀ (k : Nat) (x : Int), 0 ≤ x → x * x ≤ n → n < (x + 2 ^ k) * (x + 2 ^ k) →
    0 ≤ rootGo n k x ∧ rootGo n k x * rootGo n k x ≤ n ∧ n < (rootGo n k x + 1) * (rootGo n k x + 1) := by
  intro k
  induction k with
  | zero => intro x h0 h1 h2; exact ⟨h0, h1, by simpa [rootGo] using h2⟩
  | succ k ih =>
    intro x h0 h1 h2
    have hp : (0 : Int) < 2 ^ k := Int.pow_pos (by omega)
    show 0 ≤ rootGo n k _ ∧ _
    by_cases hc : (x + 2 ^ k) * (x + 2 ^ k) ≤ n
    · rw [rootGo, if_pos hc]
      refine ih _ (by omega) hc ?_
      rw [Int.pow_succ] at h2
      have : x + 2 ^ k + 2 ^ k = x + 2 ^ k * 2 := by omega
      rw [this]; exact h2
    · rw [rootGo, if_neg hc]
      exact ih _ h0 h1 (by omega)
theorem flRoot_bd (n : Int) (h0 : 0 ≤ n) (h1 : n < 281474976710656) : 0 ≤ flRoot n ∧ flRoot n * flRoot n ≤ n ∧ n < (flRoot n + 1) * (flRoot n + 1) :=
  rootGo_bd n 24 0 (by omega) (by simpa using h0) (by simpa using h1)
theorem flRoot_le (n m : Int) (h0 : 0 ≤ n) (h1 : n < 281474976710656) (hm : 0 ≤ m) (hn : n < (m + 1) * (m + 1)) : flRoot n ≤ m := by
  have ⟨a, b, c⟩ := flRoot_bd n h0 h1
  by_cases h : flRoot n ≤ m
  · exact h
  · have := Int.mul_le_mul (show m + 1 ≤ flRoot n by omega) (show m + 1 ≤ flRoot n by omega) (by omega) (by omega)
    omega
theorem in_root {a : Int} (ha : isIn a = true) (h0 : ¬ a < 0) : 0 ≤ flRoot (a * 65536) ∧ flRoot (a * 65536) ≤ 8388608 := by
  have := isIn_iff.1 ha
  exact ⟨(flRoot_bd _ (by omega) (by omega)).1, flRoot_le _ _ (by omega) (by omega) (by omega) (by omega)⟩

/-- A number of steps, of whatever number. -/
def hnum (n : Int) : Int :=
  if n % 9 = 0 then n else if n % 9 = 1 then (n.tdiv 9 % 201 - 100) * 65536 else if n % 9 = 2 then n.tdiv 9 % 9 - 4 else if n % 9 = 3 then n.tdiv 9 % 2147483657 - 1073741824 - 4 else n.tdiv 9 % 2621440 - 1310720
end Go.Proofs.YtekhhekkepijoaaGreatDoor

namespace Go.Proofs.YtekhhekkepijoaaGreatDoor
set_option linter.unusedVariables false
open Go.RowKit

/-- w with whatever is more. -/
def MoreC (w : World) : World → Prop := fun w' => ∃ r, w' = more w r

section
variable {P : Program} {ops : Array Oper} {md : Region.Mode} {C : World → Prop}

/-- The head's operations in whatever order, each quiet in C, then L. -/
def headQ (P : Program) (md : Region.Mode) (ops : Array Oper) (C : World → Prop) (n : Nat) (L : Array Bool → Act → Prop) : Nat → Array Bool → Act → Prop
  | 0, m, a => L m a
  | f + 1, m, a => Region.ready md ops m ≠ [] ∧ ∀ i ∈ Region.ready md ops m, i < n ∧ qOp P ops C i (headQ P md ops C n L f (m.setIfInBounds i true)) a

theorem any_of_headQ {n g : Nat} {L : Array Bool → Act → Prop} {Q : Exit → Act → World → Prop} (hL : ∀ m a w, C w → L m a → wpAny P md ops Q g m a w) :
    ∀ (f : Nat) (m : Array Bool) (a : Act) (w : World), C w → headQ P md ops C n L f m a → wpAny P md ops Q (f + g) m a w
  | 0, m, a, w, hC, h => by rw [Nat.zero_add]; exact hL _ _ _ hC h
  | f + 1, m, a, w, hC, h => by
    have e : f + 1 + g = (f + g) + 1 := by omega
    rw [e]
    exact ⟨fun h0 => absurd h0 h.1, fun i hi => wpOp_of_qOp hC (fun a' w' hC' => any_of_headQ hL f _ a' w' hC') (h.2 i hi).2⟩

end

theorem moreC_one (w : World) : MoreC w { w with drawn := w.drawn + 1 } := ⟨⟨#[], w.drawn + 1⟩, by unfold more; simp⟩

/-- A contract, met in the midst of such a region. -/
theorem quiet_call {P : Program} {f : FuncId} {args : Array Value} {w : World} {r : Rest} {v : Value}
    (h : Calls P f args (more w r) fun e w' => e = .returned v ∧ More (more w r) w') : Calls P f args (more w r) fun e w'' => e = .returned v ∧ ∃ s, w'' = more w s :=
  h.mono fun _ _ ⟨he, s, hm⟩ => ⟨he, r.plus s, by rw [hm, more_more]⟩
theorem quiet_call_same {P : Program} {f : FuncId} {args : Array Value} {w : World} {r : Rest} {v : Value}
    (h : Calls P f args (more w r) fun e w' => e = .returned v ∧ more w r = w') : Calls P f args (more w r) fun e w'' => e = .returned v ∧ ∃ s, w'' = more w s :=
  h.mono fun _ _ ⟨he, hm⟩ => ⟨he, r, hm.symm⟩
/-- The same where what it answers is known by a fact at hand. -/
theorem quiet_call_b {P : Program} {f : FuncId} {args : Array Value} {w : World} {r : Rest} {b c : Bool}
    (h : Calls P f args (more w r) fun e w' => e = .returned (.bool c) ∧ More (more w r) w') (e : c = b) : Calls P f args (more w r) fun e w'' => e = .returned (.bool b) ∧ ∃ s, w'' = more w s :=
  quiet_call (e ▸ h)
end Go.Proofs.YtekhhekkepijoaaGreatDoor

namespace Go.Proofs.YtekhhekkepijoaaGreatDoor
set_option linter.unusedVariables false
open Go.RowKit

/-- What was there before an operation, as a number: bit i for operation i. -/
def bits (l : List Oper) : List Nat := CheckFast.beforeL l 0 []
theorem bits_eq (l : List Oper) : bits l = (Region.before l.toArray).toList := by
  have h := CheckFast.beforeF_eq l.toArray
  unfold CheckFast.beforeF at h
  rw [← h]
  simp [bits]

/-- Each of the operations ahead is waited for, or apart. -/
def rowOk (ops : Array Oper) (o : Oper) (b : Nat) : Nat → Nat → List Oper → Bool
  | 0, _, _ => true
  | _ + 1, _, [] => true
  | n + 1, k, x :: r => (Nat.testBit b k || x.apart ops o) && CheckFast.force (k + 1) fun k' => rowOk ops o b n k' r
def allOk (ops : Array Oper) (all : List Oper) : Nat → List Oper → List Nat → Bool
  | _, [], _ => true
  | j, o :: r, b :: bs => (o.after.all (fun e => !Region.binds .any e || decide (e.on < j)) && rowOk ops o b j 0 all) && CheckFast.force (j + 1) fun j' => allOk ops all j' r bs
  | _, _ :: _, [] => false
def quickB (l : List Oper) : Bool := Region.noSelect l.toArray && allOk l.toArray l 0 l (bits l)

theorem rowOk_spec {ops : Array Oper} {o : Oper} {b : Nat} : ∀ (n k : Nat) (l : List Oper), rowOk ops o b n k l = true → ∀ i x, i < n → l[i]? = some x → Nat.testBit b (k + i) = true ∨ x.apart ops o = true
  | 0, _, _, _, i, _, hi, _ => by omega
  | n + 1, _, [], _, i, x, _, hx => by simp at hx
  | n + 1, k, y :: r, h, i, x, hi, hx => by
    simp only [rowOk, CheckFast.force_eq, Bool.and_eq_true, Bool.or_eq_true] at h
    cases i with
    | zero =>
      simp only [List.getElem?_cons_zero, Option.some.injEq] at hx
      subst hx
      exact h.1
    | succ i =>
      have := rowOk_spec n (k + 1) r h.2 i x (by omega) (by simpa using hx)
      rwa [show k + 1 + i = k + (i + 1) by omega] at this
theorem allOk_spec {ops : Array Oper} {all : List Oper} : ∀ (l : List Oper) (j : Nat) (bs : List Nat), allOk ops all j l bs = true → ∀ i o, l[i]? = some o →
    (∀ e ∈ o.after, Region.binds .any e = true → e.on < j + i) ∧ ∃ b, bs[i]? = some b ∧ rowOk ops o b (j + i) 0 all = true
  | [], _, _, _, i, o, ho => by simp at ho
  | x :: r, j, [], h, i, o, ho => by simp [allOk] at h
  | x :: r, j, b :: bs, h, i, o, ho => by
    simp only [allOk, CheckFast.force_eq, Bool.and_eq_true] at h
    cases i with
    | zero =>
      simp only [List.getElem?_cons_zero, Option.some.injEq] at ho
      subst ho
      refine ⟨fun e he hb => ?_, b, rfl, h.1.2⟩
      have := Array.all_eq_true_iff_forall_mem.1 h.1.1 e he
      simpa [hb] using this
    | succ i =>
      have := allOk_spec r (j + 1) bs h.2 i o (by simpa using ho)
      rw [show j + 1 + i = j + (i + 1) by omega] at this
      simpa using this

/-! What the numbers say. -/
def pushOne (A : Array Nat) (o : Oper) : Array Nat := A.push (CheckFast.one (fun i => A.getD i 0) o)
theorem before_fold (ops : Array Oper) : Region.before ops = ops.toList.foldl pushOne #[] := by
  unfold Region.before
  rw [← Array.foldl_toList]
  rfl
theorem fold_keep : ∀ (l : List Oper) (A : Array Nat) (i : Nat), i < A.size → (l.foldl pushOne A).getD i 0 = A.getD i 0
  | [], A, i, _ => rfl
  | o :: r, A, i, h => by
    rw [List.foldl_cons, fold_keep r _ i (by simp [pushOne]; omega)]
    simp only [pushOne, Array.getD_eq_getD_getElem?]
    rw [Array.getElem?_push, if_neg (by omega)]
theorem fold_at : ∀ (l : List Oper) (A : Array Nat) (k : Nat) (o : Oper), l[k]? = some o →
    (l.foldl pushOne A).getD (A.size + k) 0 = CheckFast.one (fun i => if i < A.size + k then (l.foldl pushOne A).getD i 0 else 0) o
  | [], _, _, _, h => by simp at h
  | x :: r, A, 0, o, h => by
    simp only [List.getElem?_cons_zero, Option.some.injEq] at h
    subst h
    rw [List.foldl_cons, Nat.add_zero, fold_keep r _ A.size (by simp [pushOne])]
    have e : (fun i => if i < A.size then (r.foldl pushOne (pushOne A x)).getD i 0 else 0) = fun i => A.getD i 0 := by
      funext i
      by_cases h : i < A.size
      · rw [if_pos h, fold_keep r _ i (by simp [pushOne]; omega)]
        simp only [pushOne, Array.getD_eq_getD_getElem?]
        rw [Array.getElem?_push, if_neg (by omega)]
      · rw [if_neg h]
        simp only [Array.getD_eq_getD_getElem?]
        rw [Array.getElem?_eq_none (by omega)]
        rfl
    rw [e]
    simp [pushOne]
  | x :: r, A, k + 1, o, h => by
    rw [List.foldl_cons]
    have := fold_at r (pushOne A x) k o (by simpa using h)
    have e : (pushOne A x).size + k = A.size + (k + 1) := by simp [pushOne]; omega
    rw [e] at this
    exact this
theorem one_bit {f : Nat → Nat} {o : Oper} {i : Nat} (h : Nat.testBit (CheckFast.one f o) i = true) : ∃ e ∈ o.after, Region.binds .any e = true ∧ (e.on = i ∨ Nat.testBit (f e.on) i = true) := by
  unfold CheckFast.one at h
  rw [← Array.foldl_toList] at h
  have key : ∀ (l : List Edge) (s : Nat), Nat.testBit (l.foldl (fun s e => if Region.binds .any e then s ||| 2 ^ e.on ||| f e.on else s) s) i = true →
      Nat.testBit s i = true ∨ ∃ e ∈ l, Region.binds .any e = true ∧ (e.on = i ∨ Nat.testBit (f e.on) i = true) := by
    intro l
    induction l with
    | nil => intro s hs; exact .inl hs
    | cons e l ih =>
      intro s hs
      rw [List.foldl_cons] at hs
      rcases ih _ hs with h1 | ⟨e', he', h2⟩
      · by_cases hb : Region.binds .any e = true
        · rw [if_pos hb, Nat.testBit_or, Nat.testBit_or, Nat.testBit_two_pow] at h1
          simp only [Bool.or_eq_true, decide_eq_true_eq] at h1
          rcases h1 with (h1 | h1) | h1
          · exact .inl h1
          · exact .inr ⟨e, by simp, hb, .inl h1⟩
          · exact .inr ⟨e, by simp, hb, .inr h1⟩
        · rw [if_neg hb] at h1
          exact .inl h1
      · exact .inr ⟨e', by simp [he'], h2⟩
  rcases key _ _ h with h1 | ⟨e, he, h2⟩
  · simp at h1
  · exact ⟨e, by simpa using he, h2⟩

section
variable {P : Program} {ops : Array Oper} {C : World → Prop}

/-- What is listed has all that it waits for listed. -/
def Shut (ops : Array Oper) (m : Array Bool) : Prop := ∀ j oj, ops[j]? = some oj → m.getD j false = true → ∀ e ∈ oj.after, Region.binds .any e = true → m.getD e.on false = true
theorem shut_set {m : Array Bool} {i : Nat} (h : Shut ops m) (hr : i ∈ Region.ready .any ops m) : Shut ops (m.setIfInBounds i true) := by
  obtain ⟨_, oi, hoi, hall⟩ := mem_ready.1 hr
  intro j oj hj hl e he hb
  by_cases hij : i = j
  · subst hij
    obtain rfl : oj = oi := Option.some.inj (hj.symm.trans hoi)
    exact getD_set_true (hall e he hb)
  · rw [getD_set_ne false hij] at hl
    exact getD_set_true (h j oj hj hl e he hb)
theorem shut_bit {m : Array Bool} (h : Shut ops m) (i : Nat) : ∀ (d j : Nat), j = d → ∀ oj, ops[j]? = some oj → (∀ e ∈ oj.after, Region.binds .any e = true → m.getD e.on false = true) →
    Nat.testBit ((Region.before ops).getD j 0) i = true → m.getD i false = true := by
  intro d
  induction d using Nat.strongRecOn with
  | _ d ih =>
    intro j hjd oj hj hall hb
    have hs := fold_at ops.toList #[] j oj (by simpa using hj)
    rw [before_fold] at hb
    simp only [List.size_toArray, List.length_nil, Nat.zero_add] at hs
    rw [hs] at hb
    obtain ⟨e, he, hbi, h1⟩ := one_bit hb
    rcases h1 with rfl | h1
    · exact hall e he hbi
    · by_cases hlt : e.on < j
      · rw [if_pos hlt, ← before_fold] at h1
        have hjs : j < ops.size := (Array.getElem?_eq_some_iff.1 hj).1
        have hoe : ops[e.on]? = some (ops[e.on]'(by omega)) := Array.getElem?_eq_getElem _
        exact ih e.on (by omega) e.on rfl _ hoe (fun e' he' hb' => h e.on _ hoe (hall e he hbi) e' he' hb') h1
      · rw [if_neg hlt] at h1
        simp at h1

/-- One that is ready may be taken first: whoever doesn't wait for it, however indirectly, is apart from it. -/
theorem anyQ_first {Q : Act → Prop} {i : Nat} {oi : Oper} {v : Value} (hi : ops[i]? = some oi) (hsel : ∀ (j : Nat) (o : Oper) cs b, ops[j]? = some o → o.op ≠ .select cs b) :
    ∀ (fuel : Nat) (m : Array Bool) (a : Act), Shut ops m →
      (∀ j oj, ops[j]? = some oj → j ≠ i → m.getD j true = false → Nat.testBit ((Region.before ops).getD j 0) i = false → oi.apart ops oj = true) →
      i ∈ Region.ready .any ops m → YieldsIn P ops C oi v a →
      wpAnyQ P .any ops C Q fuel (m.setIfInBounds i true) (a.put oi.dst v) → wpAnyQ P .any ops C Q (fuel + 1) m a := by
  intro fuel
  induction fuel with
  | zero =>
    intro m a _ _ hr hy H
    refine ⟨fun h => (by rw [h] at hr; cases hr), fun j hj => ?_⟩
    by_cases hji : j = i
    · subst hji; exact hy.qOp hi H
    · have := ready_mono hj hji
      rw [H.1] at this
      cases this
  | succ fuel ih =>
    intro m a hsh hfree hr hy H
    refine ⟨fun h => (by rw [h] at hr; cases hr), fun j hj => ?_⟩
    by_cases hji : j = i
    · subst hji; exact hy.qOp hi H
    · have h1 := H.2 j (ready_mono hj hji)
      obtain ⟨hjun, oj, hoj, hall⟩ := mem_ready.1 hj
      have hnb : Nat.testBit ((Region.before ops).getD j 0) i = false := by
        cases hb : Nat.testBit ((Region.before ops).getD j 0) i
        · rfl
        · have h3 := shut_bit hsh i j j rfl oj hoj hall hb
          have h4 := getD_both (mem_ready.1 hr).1
          rw [h3] at h4
          cases h4
      have h2 := qOp_put hoj (hfree j oj hoj hji hjun hnb) (fun cs b => hsel i oi cs b hi) (fun cs b => hsel j oj cs b hoj) hy h1
      refine qOp_mono (fun a' h3 => ih (m.setIfInBounds j true) a' (shut_set hsh hj) ?_ (ready_mono hr (Ne.symm hji)) h3.1 ?_) h2
      · intro k ok hk hki hkun hno
        refine hfree k ok hk hki ?_ hno
        by_cases hjk : j = k
        · subst hjk; exact hjun
        · rw [getD_set_ne true hjk] at hkun; exact hkun
      · rw [Array.setIfInBounds_comm _ _ hji]
        exact h3.2

/-- The first k are listed. -/
def FirstK (n k : Nat) (m : Array Bool) : Prop := m.size = n ∧ (∀ j, j < k → j < n → m.getD j false = true) ∧ ∀ j, k ≤ j → j < n → m.getD j true = false
theorem firstK_set {n k : Nat} {m : Array Bool} (h : FirstK n k m) (hk : k < n) : FirstK n (k + 1) (m.setIfInBounds k true) := by
  obtain ⟨h1, h2, h3⟩ := h
  refine ⟨by simpa using h1, fun j hj hn => ?_, fun j hj hn => ?_⟩
  · by_cases hjk : k = j
    · subst hjk
      simp [h1, hn]
    · rw [getD_set_ne false hjk]
      exact h2 j (by omega) hn
  · rw [getD_set_ne true (by omega)]
    exact h3 j (by omega) hn
theorem anyQ_lex {Q : Act → Prop} {all : List Oper} (ha : ops = all.toArray) (hsel : Region.noSelect ops = true) (hB : allOk ops all 0 all (bits all) = true) : ∀ (l : List Oper) (k : Nat) (m : Array Bool) (a : Act), (∀ j, l[j]? = ops[k + j]?) → k + l.length = ops.size →
    FirstK ops.size k m → wpQuiet P ops C Q l a → wpAnyQ P .any ops C Q l.length m a
  | [], k, m, a, _, hk, hf, h => by
    refine ⟨?_, h⟩
    apply List.eq_nil_iff_forall_not_mem.2
    intro i hi
    obtain ⟨hun, oi, hoi, _⟩ := mem_ready.1 hi
    have hlt := (Array.getElem?_eq_some_iff.1 hoi).1
    have h1 := hf.2.1 i (by simp at hk; omega) hlt
    rw [getD_both hun] at h1
    cases h1
  | o :: l, k, m, a, hl, hk, hf, h => by
    have h0 : ops[k]? = some o := by simpa using (hl 0).symm
    have hkn : k < ops.size := (Array.getElem?_eq_some_iff.1 h0).1
    have hst : qOp P ops C k (wpQuiet P ops C Q l) a := by unfold qOp; simp only [h0]; exact h
    obtain ⟨v, hy, hK⟩ := yieldsIn_of_qOp h0 hst
    have hops : ∀ (j : Nat) (oj : Oper), ops[j]? = some oj → all[j]? = some oj := fun j oj h => by
      rw [← List.getElem?_toArray, ← ha]
      exact h
    have hsp : ∀ (j : Nat) (oj : Oper), ops[j]? = some oj → (∀ e ∈ oj.after, Region.binds .any e = true → e.on < j) ∧ rowOk ops oj ((Region.before ops).getD j 0) j 0 all = true := by
      intro j oj hj
      obtain ⟨h1, b, hb, h2⟩ := allOk_spec all 0 _ hB j oj (hops j oj hj)
      rw [Nat.zero_add] at h1 h2
      refine ⟨h1, ?_⟩
      have e : (Region.before ops).getD j 0 = b := by
        rw [bits_eq, ← ha] at hb
        simp only [Array.getElem?_toList] at hb
        simp [Array.getD_eq_getD_getElem?, hb]
      rw [e]
      exact h2
    have hsh : Shut ops m := by
      intro j oj hj hlj e he hb
      have h1 := (hsp j oj hj).1 e he hb
      have hjn : j < ops.size := (Array.getElem?_eq_some_iff.1 hj).1
      have hjk : j < k := by
        rcases Nat.lt_or_ge j k with h | h
        · exact h
        · have := hf.2.2 j h hjn
          rw [getD_both this] at hlj
          cases hlj
      exact hf.2.1 e.on (by omega) (by omega)
    have hr : k ∈ Region.ready .any ops m := mem_ready.2 ⟨hf.2.2 k (Nat.le_refl _) hkn, o, h0, fun e he hb => hf.2.1 e.on ((hsp k o h0).1 e he hb) (by have := (hsp k o h0).1 e he hb; omega)⟩
    refine anyQ_first h0 (Region.noSelect_spec hsel) l.length m a hsh (fun j oj hj hne hun hnb => ?_) hr hy
      (anyQ_lex ha hsel hB l (k + 1) _ _ (fun j => by have := hl (j + 1); simpa [Nat.add_assoc, Nat.add_comm 1 j] using this) (by simp only [List.length_cons] at hk; omega) (firstK_set hf hkn) hK)
    have hjn : j < ops.size := (Array.getElem?_eq_some_iff.1 hj).1
    have hkj : k < j := by
      rcases Nat.lt_or_ge j k with h | h
      · have := hf.2.1 j h hjn
        rw [getD_both hun] at this
        cases this
      · omega
    rcases rowOk_spec j 0 all (hsp j oj hj).2 k o hkj (hops k o h0) with h1 | h1
    · rw [Nat.zero_add, hnb] at h1
      cases h1
    · exact h1
end

theorem wp_quick {P : Program} {id : Nat} {Q : Exit → Act → World → Prop} {a : Act} {w : World} {l : List Oper} {C : World → Prop} (hm : P.follows .mixedOrders = true) (hB : quickB l = true)
    (hC : C { w with drawn := w.drawn + 1 }) (h : wpQuiet P l.toArray C (fun a' => ∀ w', C w' → Q .normal a' w') l a) : (Code.region id l.toArray true).wp P Q a w := by
  simp only [quickB, Bool.and_eq_true] at hB
  refine wp_region_any hm (wpAny_of_quiet (Q := fun a' => ∀ w', C w' → Q .normal a' w') (fun _ w' hw' h => h w' hw') _ _ _ _ hC ?_)
  have := anyQ_lex (P := P) (C := C) (Q := fun a' => ∀ w', C w' → Q .normal a' w') (ops := l.toArray) rfl hB.1 hB.2 l 0 (Array.replicate l.toArray.size false) a (by simp) (by simp)
    ⟨by simp, fun j hj => by omega, fun j _ hn => getD_in (by simpa using hn) (getD_replicate_false _ _)⟩ h
  simpa using this
/-- Many operations, in the class 'w, and more'. -/
theorem wp_more_quick {P : Program} {id : Nat} {Q : Exit → Act → World → Prop} {a : Act} {w : World} {l : List Oper} (hm : P.follows .mixedOrders = true) (hB : quickB l = true)
    (h : wpQuiet P l.toArray (fun w' => ∃ r, w' = more w r) (fun a' => ∀ r, Q .normal a' (more w r)) l a) : (Code.region id l.toArray true).wp P Q a w :=
  wp_quick (C := MoreC w) hm hB (moreC_one w) (by
    have e : (fun a' => ∀ w', MoreC w w' → Q .normal a' w') = (fun a' => ∀ r, Q .normal a' (more w r)) := by
      funext a'
      exact propext ⟨fun h r => h _ ⟨r, rfl⟩, fun h w' ⟨r, e⟩ => by rw [e]; exact h r⟩
    rw [e]
    exact h)
theorem wp_more_quick_m {P : Program} {id : Nat} {Q : Exit → Act → World → Prop} {a : Act} {w : World} {s : Rest} {l : List Oper} (hm : P.follows .mixedOrders = true) (hB : quickB l = true)
    (h : wpQuiet P l.toArray (fun w' => ∃ r, w' = more w r) (fun a' => ∀ r, Q .normal a' (more w r)) l a) : (Code.region id l.toArray true).wp P Q a (more w s) :=
  wp_quick (C := MoreC w) hm hB ⟨s.draw 1, by rw [← more_drew]; rfl⟩ (by
    have e : (fun a' => ∀ w', MoreC w w' → Q .normal a' w') = (fun a' => ∀ r, Q .normal a' (more w r)) := by
      funext a'
      exact propext ⟨fun h r => h _ ⟨r, rfl⟩, fun h w' ⟨r, e⟩ => by rw [e]; exact h r⟩
    rw [e]
    exact h)
end Go.Proofs.YtekhhekkepijoaaGreatDoor

namespace Go.Proofs.YtekhhekkepijoaaGreatDoor
set_option linter.unusedVariables false
open Go.RowKit

/-! What a call answers is one value: the machine goes one way. -/

section
variable {P : Program} {ops : Array Oper} {C : World → Prop}

end

/-! The check of such a region: by numbers, one look a pair. n: where the tail begins; p: the place of the block that is laid. -/

def rowOkP (ops : Array Oper) (o : Oper) (b p : Nat) : Nat → Nat → List Oper → Bool
  | 0, _, _ => true
  | _ + 1, _, [] => true
  | n + 1, k, x :: r => (decide (k = p) || (Nat.testBit b k || x.apart ops o)) && CheckFast.force (k + 1) fun k' => rowOkP ops o b p n k' r
def fullB (b j : Nat) : Bool := b % 2 ^ j == 2 ^ j - 1
def fillOk (ops : Array Oper) (o : Oper) (p d : Nat) : Nat → Nat → List Oper → Bool
  | 0, _, _ => true
  | _ + 1, _, [] => true
  | n + 1, k, x :: r => (decide (k = p) || (!(x.looksAt ops).contains d && x.dst != some d)) && CheckFast.force (k + 1) fun k' => fillOk ops o p d n k' r
def heapOk (ops : Array Oper) (all : List Oper) (n p d : Nat) : Nat → List Oper → List Nat → Bool
  | _, [], _ => true
  | j, o :: r, b :: bs => (o.after.all (fun e => !Region.binds .any e || decide (e.on < j)) &&
      (if j = p then o.after.all (fun e => !Region.binds .any e) && (o.dst == some d && fillOk ops o p d n 0 all) else if j < n then rowOkP ops o b p j 0 all else fullB b j)) &&
      CheckFast.force (j + 1) fun j' => heapOk ops all n p d j' r bs
  | _, _ :: _, [] => false
def heapB (l : List Oper) (n p d : Nat) : Bool := Region.noSelect l.toArray && decide (n ≤ l.length) && heapOk l.toArray l n p d 0 l (bits l)

theorem rowOkP_spec {ops : Array Oper} {o : Oper} {b p : Nat} : ∀ (n k : Nat) (l : List Oper), rowOkP ops o b p n k l = true → ∀ i x, i < n → l[i]? = some x → k + i = p ∨ Nat.testBit b (k + i) = true ∨ x.apart ops o = true
  | 0, _, _, _, i, _, hi, _ => by omega
  | n + 1, _, [], _, i, x, _, hx => by simp at hx
  | n + 1, k, y :: r, h, i, x, hi, hx => by
    simp only [rowOkP, CheckFast.force_eq, Bool.and_eq_true, Bool.or_eq_true, decide_eq_true_eq] at h
    cases i with
    | zero =>
      simp only [List.getElem?_cons_zero, Option.some.injEq] at hx
      subst hx
      exact h.1
    | succ i =>
      have := rowOkP_spec n (k + 1) r h.2 i x (by omega) (by simpa using hx)
      rwa [show k + 1 + i = k + (i + 1) by omega] at this
theorem fillOk_spec {ops : Array Oper} {o : Oper} {p d : Nat} : ∀ (n k : Nat) (l : List Oper), fillOk ops o p d n k l = true → ∀ i x, i < n → l[i]? = some x → k + i = p ∨ (d ∉ x.looksAt ops ∧ x.dst ≠ some d)
  | 0, _, _, _, i, _, hi, _ => by omega
  | n + 1, _, [], _, i, x, _, hx => by simp at hx
  | n + 1, k, y :: r, h, i, x, hi, hx => by
    simp only [fillOk, CheckFast.force_eq, Bool.and_eq_true, Bool.or_eq_true, decide_eq_true_eq] at h
    cases i with
    | zero =>
      simp only [List.getElem?_cons_zero, Option.some.injEq] at hx
      subst hx
      rcases h.1 with h1 | h1
      · exact .inl h1
      · exact .inr (by simpa using h1)
    | succ i =>
      have := fillOk_spec n (k + 1) r h.2 i x (by omega) (by simpa using hx)
      rwa [show k + 1 + i = k + (i + 1) by omega] at this
theorem fullB_spec {b j : Nat} (h : fullB b j = true) : ∀ i, i < j → Nat.testBit b i = true := fun i hi => by
  have h1 : b % 2 ^ j = 2 ^ j - 1 := by simpa [fullB] using h
  have h2 := congrArg (Nat.testBit · i) h1
  simpa [Nat.testBit_mod_two_pow, Nat.testBit_two_pow_sub_one, hi] using h2

/-- What the check says of one operation. -/
structure HeapAt (ops : Array Oper) (n p d j : Nat) (o : Oper) : Prop where
  back : ∀ e ∈ o.after, Region.binds .any e = true → e.on < j
  lay : j = p → (∀ e ∈ o.after, Region.binds .any e = false) ∧ o.dst = some d ∧ ∀ i x, i < n → i ≠ p → ops[i]? = some x → d ∉ x.looksAt ops ∧ x.dst ≠ some d
  head : j ≠ p → j < n → ∀ i x, i < j → i ≠ p → ops[i]? = some x → Nat.testBit ((Region.before ops).getD j 0) i = true ∨ x.apart ops o = true
  tail : j ≠ p → n ≤ j → ∀ i, i < j → Nat.testBit ((Region.before ops).getD j 0) i = true

theorem heapOk_spec {ops : Array Oper} {all : List Oper} {n p d : Nat} (ha : ops = all.toArray) : ∀ (l : List Oper) (j : Nat) (bs : List Nat), heapOk ops all n p d j l bs = true → (∀ i b, bs[i]? = some b → (Region.before ops).getD (j + i) 0 = b) →
    ∀ i o, l[i]? = some o → HeapAt ops n p d (j + i) o
  | [], _, _, _, _, i, o, ho => by simp at ho
  | x :: r, j, [], h, _, i, o, ho => by simp [heapOk] at h
  | x :: r, j, b :: bs, h, hb, i, o, ho => by
    simp only [heapOk, CheckFast.force_eq, Bool.and_eq_true] at h
    have hall : ∀ (k : Nat) (y : Oper), ops[k]? = some y → all[k]? = some y := fun k y hk => by
      rw [← List.getElem?_toArray, ← ha]; exact hk
    cases i with
    | zero =>
      simp only [List.getElem?_cons_zero, Option.some.injEq] at ho
      subst ho
      have hbj : (Region.before ops).getD (j + 0) 0 = b := hb 0 b rfl
      obtain ⟨⟨h1, h2⟩, -⟩ := h
      refine ⟨fun e he hbi => ?_, fun hj => ?_, fun hj hn i' x' hi hip hx => ?_, fun hj hn i' hi => ?_⟩
      · have := Array.all_eq_true_iff_forall_mem.1 h1 e he
        simpa [hbi] using this
      · rw [if_pos (by simpa using hj)] at h2
        simp only [Bool.and_eq_true, beq_iff_eq] at h2
        refine ⟨fun e he => ?_, h2.2.1, fun i' x' hi hip hx => ?_⟩
        · have := Array.all_eq_true_iff_forall_mem.1 h2.1 e he
          simpa using this
        · rcases fillOk_spec n 0 all h2.2.2 i' x' hi (hall _ _ hx) with h3 | h3
          · omega
          · exact h3
      · rw [Nat.add_zero] at hj hn hi
        rw [if_neg hj, if_pos hn] at h2
        rw [hbj]
        rcases rowOkP_spec j 0 all h2 i' x' hi (hall _ _ hx) with h3 | h3 | h3
        · omega
        · rw [Nat.zero_add] at h3; exact .inl h3
        · exact .inr h3
      · rw [Nat.add_zero] at hj hn hi
        rw [if_neg hj, if_neg (by omega)] at h2
        rw [hbj]
        exact fullB_spec h2 i' hi
    | succ i =>
      have := heapOk_spec ha r (j + 1) bs h.2 (fun i b hi => by
        have := hb (i + 1) b (by simpa using hi)
        rwa [show j + (i + 1) = j + 1 + i by omega] at this) i o (by simpa using ho)
      rwa [show j + 1 + i = j + (i + 1) by omega] at this

section
variable {P : Program} {ops : Array Oper} {C : World → Prop} {n p d : Nat}

/-- The first k are listed, and p; no other. -/
def FirstP (s k p : Nat) (m : Array Bool) : Prop := m.size = s ∧ (∀ j, j < k → j < s → m.getD j false = true) ∧ (p < s → m.getD p false = true) ∧ ∀ j, k ≤ j → j < s → j ≠ p → m.getD j true = false
theorem firstP_set {s k : Nat} {m : Array Bool} (h : FirstP s k p m) (hk : k < s) : FirstP s (k + 1) p (m.setIfInBounds k true) := by
  obtain ⟨h1, h2, h3, h4⟩ := h
  refine ⟨by simpa using h1, fun j hj hn => ?_, fun hp => getD_set_true (h3 hp), fun j hj hn hjp => ?_⟩
  · by_cases hjk : k = j
    · subst hjk
      simp [h1, hn]
    · rw [getD_set_ne false hjk]
      exact h2 j (by omega) hn
  · rw [getD_set_ne true (by omega)]
    exact h4 j (by omega) hn hjp
theorem firstP_shut {k : Nat} {m : Array Bool} (H : ∀ j o, ops[j]? = some o → HeapAt ops n p d j o) (h : FirstP ops.size k p m) : Shut ops m := by
  intro j oj hj hl e he hb
  have hjs : j < ops.size := (Array.getElem?_eq_some_iff.1 hj).1
  by_cases hjp : j = p
  · have := ((H j oj hj).lay hjp).1 e he
    rw [hb] at this
    cases this
  · have hjk : j < k := by
      rcases Nat.lt_or_ge j k with h' | h'
      · exact h'
      · have := h.2.2.2 j h' hjs hjp
        rw [getD_both this] at hl
        cases hl
    have := (H j oj hj).back e he hb
    exact h.2.1 e.on (by omega) (by omega)

theorem headQ_firstB {i : Nat} {oi : Oper} {v : Value} {L : Array Bool → Act → Prop} (H : ∀ j o, ops[j]? = some o → HeapAt ops n p d j o) (hpn : p < n ∨ ops.size ≤ p) (hi : ops[i]? = some oi) (hsel : ∀ (j : Nat) (o : Oper) cs b, ops[j]? = some o → o.op ≠ .select cs b)
    (hin : i < n) (hdone : ∀ m a, L m a → ∀ j ∈ Region.ready .any ops m, n ≤ j) :
    ∀ (f : Nat) (m : Array Bool) (a : Act), Shut ops m →
      (∀ j oj, ops[j]? = some oj → j ≠ i → m.getD j true = false → Nat.testBit ((Region.before ops).getD j 0) i = false → oi.apart ops oj = true) →
      i ∈ Region.ready .any ops m → YieldsIn P ops C oi v a → headQ P .any ops C n L f (m.setIfInBounds i true) (a.put oi.dst v) → headQ P .any ops C n L (f + 1) m a := by
  intro f
  have hlow : ∀ (m : Array Bool), Shut ops m → i ∈ Region.ready .any ops m → ∀ j ∈ Region.ready .any ops m, Nat.testBit ((Region.before ops).getD j 0) i = false ∧ j < n := by
    intro m hsh hr j hj
    obtain ⟨hjun, oj, hoj, hall⟩ := mem_ready.1 hj
    have hnb : Nat.testBit ((Region.before ops).getD j 0) i = false := by
      cases hb : Nat.testBit ((Region.before ops).getD j 0) i
      · rfl
      · have h3 := shut_bit hsh i j j rfl oj hoj hall hb
        have h4 := getD_both (mem_ready.1 hr).1
        rw [h3] at h4
        cases h4
    refine ⟨hnb, Nat.lt_of_not_le fun hle => ?_⟩
    have hjs := (Array.getElem?_eq_some_iff.1 hoj).1
    have := (H j oj hoj).tail (by omega) hle i (by omega)
    rw [hnb] at this
    cases this
  induction f with
  | zero =>
    intro m a hsh _ hr hy h
    refine ⟨fun h => (by rw [h] at hr; cases hr), fun j hj => ⟨(hlow m hsh hr j hj).2, ?_⟩⟩
    by_cases hji : j = i
    · subst hji
      exact hy.qOp hi h
    · have := hdone _ _ h j (ready_mono hj hji)
      have := (hlow m hsh hr j hj).2
      omega
  | succ f ih =>
    intro m a hsh hfree hr hy h
    refine ⟨fun h => (by rw [h] at hr; cases hr), fun j hj => ⟨(hlow m hsh hr j hj).2, ?_⟩⟩
    by_cases hji : j = i
    · subst hji
      exact hy.qOp hi h
    · have h1 := (h.2 j (ready_mono hj hji)).2
      obtain ⟨hjun, oj, hoj, hall⟩ := mem_ready.1 hj
      have h2 := qOp_put hoj (hfree j oj hoj hji hjun (hlow m hsh hr j hj).1) (fun cs b => hsel i oi cs b hi) (fun cs b => hsel j oj cs b hoj) hy h1
      refine qOp_mono (fun a' h3 => ih (m.setIfInBounds j true) a' (shut_set hsh hj) ?_ (ready_mono hr (Ne.symm hji)) h3.1 ?_) h2
      · intro k ok hk hki hkun hno
        refine hfree k ok hk hki ?_ hno
        by_cases hjk : j = k
        · subst hjk; exact hjun
        · rw [getD_set_ne true hjk] at hkun; exact hkun
      · rw [Array.setIfInBounds_comm _ _ hji]
        exact h3.2

/-- A list whose place p is left out; its first is number k. -/
def skipAt (p : Nat) : Nat → List Oper → List Oper
  | _, [] => []
  | k, o :: r => if k = p then skipAt p (k + 1) r else o :: skipAt p (k + 1) r
theorem headQ_lexB {Lq : Act → Prop} (H : ∀ j o, ops[j]? = some o → HeapAt ops n p d j o) (hpn : p < n ∨ ops.size ≤ p) (hns : n ≤ ops.size) (hsel : Region.noSelect ops = true) : ∀ (l : List Oper) (k : Nat) (m : Array Bool) (a : Act), (∀ j, j < l.length → l[j]? = ops[k + j]?) → k + l.length = n →
    FirstP ops.size k p m → wpQuiet P ops C Lq (skipAt p k l) a → headQ P .any ops C n (fun m' a' => FirstP ops.size n p m' ∧ Lq a') (skipAt p k l).length m a
  | [], k, m, a, _, hk, hf, h => by
    obtain rfl : k = n := by simpa using hk
    exact ⟨hf, h⟩
  | o :: l, k, m, a, hl, hk, hf, h => by
    have h0 : ops[k]? = some o := by simpa using (hl 0 (by simp)).symm
    have hks : k < ops.size := (Array.getElem?_eq_some_iff.1 h0).1
    have hkn : k < n := by simp only [List.length_cons] at hk; omega
    have hl' : ∀ j, j < l.length → l[j]? = ops[k + 1 + j]? := fun j hj => by
      have := hl (j + 1) (by simp; omega)
      simpa [Nat.add_assoc, Nat.add_comm 1 j] using this
    have hk' : k + 1 + l.length = n := by simp only [List.length_cons] at hk; omega
    rw [skipAt] at h ⊢
    by_cases hkp : k = p
    · rw [if_pos hkp] at h ⊢
      refine headQ_lexB H hpn hns hsel l (k + 1) m a hl' hk' ⟨hf.1, fun j hj hn => ?_, hf.2.2.1, fun j hj hn hjp => hf.2.2.2 j (by omega) hn hjp⟩ h
      by_cases hjk : j = k
      · rw [hjk, hkp]
        exact hf.2.2.1 (by omega)
      · exact hf.2.1 j (by omega) hn
    · rw [if_neg hkp] at h ⊢
      have hst : qOp P ops C k (wpQuiet P ops C Lq (skipAt p (k + 1) l)) a := by unfold qOp; simp only [h0]; exact h
      obtain ⟨v, hy, hK⟩ := yieldsIn_of_qOp h0 hst
      have hr : k ∈ Region.ready .any ops m := mem_ready.2 ⟨hf.2.2.2 k (Nat.le_refl _) hks hkp, o, h0, fun e he hb => hf.2.1 e.on ((H k o h0).back e he hb) (by have := (H k o h0).back e he hb; omega)⟩
      refine headQ_firstB H hpn h0 (Region.noSelect_spec hsel) hkn (fun m' a' hL j hj => ?_) _ m a (firstP_shut H hf) (fun j oj hj hne hun hnb => ?_) hr hy
        (headQ_lexB H hpn hns hsel l (k + 1) _ _ hl' hk' (firstP_set hf hks) hK)
      · obtain ⟨hun, oj, hoj, -⟩ := mem_ready.1 hj
        refine Nat.le_of_not_lt fun hlt => ?_
        have := hL.1.2.1 j hlt (Array.getElem?_eq_some_iff.1 hoj).1
        rw [getD_both hun] at this
        cases this
      · have hjs : j < ops.size := (Array.getElem?_eq_some_iff.1 hj).1
        have hjp : j ≠ p := fun he => by
          rw [he] at hun hjs
          have := hf.2.2.1 hjs
          rw [getD_both hun] at this
          cases this
        have hkj : k < j := by
          rcases Nat.lt_or_ge j k with h' | h'
          · have := hf.2.1 j h' hjs
            rw [getD_both hun] at this
            cases this
          · omega
        rcases Nat.lt_or_ge j n with h' | h'
        · rcases (H j oj hj).head hjp h' k o hkj hkp h0 with h1 | h1
          · rw [hnb] at h1
            cases h1
          · exact h1
        · have := (H j oj hj).tail hjp h' k hkj
          rw [hnb] at this
          cases this

/-- The tail, one behind the other. -/
theorem tail_list {Q : Exit → Act → World → Prop} (H : ∀ j o, ops[j]? = some o → HeapAt ops n p d j o) (hpn : p < n ∨ ops.size ≤ p) : ∀ (l : List Oper) (k : Nat) (m : Array Bool) (a : Act) (w : World), (∀ j, l[j]? = ops[k + j]?) → n ≤ k → k + l.length = ops.size →
    FirstP ops.size k p m → wpList P ops Q l a w → wpAny P .any ops Q l.length m a w
  | [], k, m, a, w, _, _, hk, hf, h => by
    refine ⟨?_, h⟩
    apply List.eq_nil_iff_forall_not_mem.2
    intro i hi
    obtain ⟨hun, oi, hoi, _⟩ := mem_ready.1 hi
    have hlt := (Array.getElem?_eq_some_iff.1 hoi).1
    have h1 := hf.2.1 i (by simp at hk; omega) hlt
    rw [getD_both hun] at h1
    cases h1
  | o :: l, k, m, a, w, hl, hnk, hk, hf, h => by
    have h0 : ops[k]? = some o := by simpa using (hl 0).symm
    have hks : k < ops.size := (Array.getElem?_eq_some_iff.1 h0).1
    have hr : k ∈ Region.ready .any ops m := mem_ready.2 ⟨hf.2.2.2 k (Nat.le_refl _) hks (by omega), o, h0, fun e he hb => hf.2.1 e.on ((H k o h0).back e he hb) (by have := (H k o h0).back e he hb; omega)⟩
    refine ⟨fun h1 => (by rw [h1] at hr; cases hr), fun i hi => ?_⟩
    obtain ⟨hun, oi, hoi, hall⟩ := mem_ready.1 hi
    have hlt := (Array.getElem?_eq_some_iff.1 hoi).1
    have hik : i = k := by
      rcases Nat.lt_trichotomy i k with h' | h' | h'
      · have h1 := hf.2.1 i h' hlt
        rw [getD_both hun] at h1
        cases h1
      · exact h'
      · have h1 := (H i oi hoi).tail (by omega) (by omega) k h'
        have h3 := shut_bit (firstP_shut H hf) k i i rfl oi hoi hall h1
        have h4 := getD_both (mem_ready.1 hr).1
        rw [h3] at h4
        cases h4
    subst hik
    have hw : wpOp P ops Q i (wpList P ops Q l) a w := by unfold wpOp; simp only [h0]; exact h
    exact wpOp_mono (fun a' w' h' => tail_list H hpn l (i + 1) _ a' w' (fun j => by have := hl (j + 1); simpa [Nat.add_assoc, Nat.add_comm 1 j] using this) (by omega) (by simp only [List.length_cons] at hk; omega) (firstP_set hf hks) h') hw

end

/-- No block in its midst: the head in whatever order, then the tail. -/
theorem wp_tailq {P : Program} {id : Nat} {Q : Exit → Act → World → Prop} {a : Act} {w : World} {l : List Oper} {C : World → Prop} (n : Nat) (hm : P.follows .mixedOrders = true) (hB : heapB l n l.length 0 = true)
    (hC : C { w with drawn := w.drawn + 1 }) (h : wpQuiet P l.toArray C (fun a' => ∀ w', C w' → wpList P l.toArray Q (l.drop n) a' w') (l.take n) a) : (Code.region id l.toArray true).wp P Q a w := by
  simp only [heapB, Bool.and_eq_true, decide_eq_true_eq] at hB
  obtain ⟨⟨hsel, hn⟩, hok⟩ := hB
  have H : ∀ j o, l.toArray[j]? = some o → HeapAt l.toArray n l.length 0 j o := fun j o ho => by
    have := heapOk_spec (ops := l.toArray) rfl l 0 _ hok (fun i b hi => by
      rw [bits_eq, Array.getElem?_toList] at hi
      simp [Array.getD_eq_getD_getElem?, hi]) j o (by simpa using ho)
    rwa [Nat.zero_add] at this
  have hpn : l.length < n ∨ l.toArray.size ≤ l.length := .inr (by simp)
  have hF : FirstP l.toArray.size 0 l.length (Array.replicate l.toArray.size false) :=
    ⟨by simp, fun j hj => by omega, fun hp' => by simp at hp', fun j _ hj _ => getD_in (by simpa using hj) (getD_replicate_false _ _)⟩
  have hskip : ∀ (r : List Oper) (k : Nat), k + r.length ≤ l.length → skipAt l.length k r = r := by
    intro r
    induction r with
    | nil => intro k _; rfl
    | cons o r ih =>
      intro k hk
      simp only [List.length_cons] at hk
      rw [skipAt, if_neg (by omega), ih (k + 1) (by omega)]
  have htn : (l.take n).length = n := by simp; omega
  have hs := hskip (l.take n) 0 (by omega)
  have hq := headQ_lexB (P := P) (C := C) (Lq := fun a' => ∀ w', C w' → wpList P l.toArray Q (l.drop n) a' w') H hpn (by simpa using hn) hsel (l.take n) 0 _ a (fun j hj => by
      have hj' : j < n := by omega
      simp [hj']) (by omega) hF (by rw [hs]; exact h)
  rw [hs, htn] at hq
  refine wp_region_any hm ?_
  have hall := any_of_headQ (C := C) (Q := Q) (g := (l.drop n).length) (fun m' a' w' hC' hL => tail_list H hpn (l.drop n) n m' a' w' (fun j => by simp [List.getElem?_drop]) (Nat.le_refl _) (by simp; omega) hL.1 (hL.2 w' hC')) _ _ _ _ hC hq
  have e : n + (l.drop n).length = l.toArray.size := by simp; omega
  rwa [e] at hall
theorem wp_more_tailq {P : Program} {id : Nat} {Q : Exit → Act → World → Prop} {a : Act} {w : World} {l : List Oper} (n : Nat) (hm : P.follows .mixedOrders = true) (hB : heapB l n l.length 0 = true)
    (h : wpQuiet P l.toArray (fun w' => ∃ r, w' = more w r) (fun a' => ∀ r, wpList P l.toArray Q (l.drop n) a' (more w r)) (l.take n) a) : (Code.region id l.toArray true).wp P Q a w :=
  wp_tailq (C := MoreC w) n hm hB (moreC_one w) (by
    have e : (fun a' => ∀ w', MoreC w w' → wpList P l.toArray Q (l.drop n) a' w') = (fun a' => ∀ r, wpList P l.toArray Q (l.drop n) a' (more w r)) := by
      funext a'
      exact propext ⟨fun h r => h _ ⟨r, rfl⟩, fun h w' ⟨r, e⟩ => by rw [e]; exact h r⟩
    rw [e]
    exact h)
theorem wp_more_tailq_m {P : Program} {id : Nat} {Q : Exit → Act → World → Prop} {a : Act} {w : World} {s : Rest} {l : List Oper} (n : Nat) (hm : P.follows .mixedOrders = true) (hB : heapB l n l.length 0 = true)
    (h : wpQuiet P l.toArray (fun w' => ∃ r, w' = more w r) (fun a' => ∀ r, wpList P l.toArray Q (l.drop n) a' (more w r)) (l.take n) a) : (Code.region id l.toArray true).wp P Q a (more w s) :=
  wp_tailq (C := MoreC w) n hm hB ⟨s.draw 1, by rw [← more_drew]; rfl⟩ (by
    have e : (fun a' => ∀ w', MoreC w w' → wpList P l.toArray Q (l.drop n) a' w') = (fun a' => ∀ r, wpList P l.toArray Q (l.drop n) a' (more w r)) := by
      funext a'
      exact propext ⟨fun h r => h _ ⟨r, rfl⟩, fun h w' ⟨r, e⟩ => by rw [e]; exact h r⟩
    rw [e]
    exact h)

end Go.Proofs.YtekhhekkepijoaaGreatDoor

namespace Go.Proofs.YtekhhekkepijoaaGreatDoor
set_option linter.unusedVariables false
open Go.RowKit

/-- What an operation answers: one value, or any of which V holds in the world behind it. -/
inductive Res where
  | val (v : Value)
  | loose (V : Value → World → Prop)
abbrev FL := List (Nat × (Value → World → Prop))
/-- K, whatever the loose slots hold. -/
def allFits (w : World) : FL → (Act → Prop) → Act → Prop
  | [], K, a => K a
  | (d, V) :: F, K, a => ∀ u, V u w → allFits w F K (a.put (some d) u)
def looseUpon (P : Program) (w : World) (V : Value → World → Prop) : Result Next → Prop
  | .ok (.value u) w' => More w w' ∧ V u w'
  | .ok .skip w' => More w w' ∧ V undef w'
  | .ok (.enter f args) w' => w' = w ∧ Calls P f args w (fun e w'' => ∃ u, e = .returned u ∧ More w w'' ∧ V u w'')
  | _ => False
def looseAt (P : Program) (o : Oper) (a : Act) (w : World) (V : Value → World → Prop) : Prop := looseUpon P w V ((execOp a.eval o).run P w)
def looked (ops : Array Oper) (o : Oper) (F : FL) : FL := F.filter fun p => (o.looksAt ops).contains p.1
def StepOK (P : Program) (ops : Array Oper) (w0 : World) (o : Oper) (a : Act) (F : FL) : Res → Prop
  | .val v => ∀ r, allFits (more w0 r) (looked ops o F) (fun a' => if Region.wanted o (yielded ops a'.tmps) then looseAt P o a' (more w0 r) (fun u _ => u = v) else v = undef) a
  | .loose V => (∃ d, o.dst = some d ∧ d < a.tmps.size) ∧ (∀ v w w', More w w' → V v w → V v w') ∧
    ∀ r, allFits (more w0 r) (looked ops o F) (fun a' => Region.wanted o (yielded ops a'.tmps) = true ∧ looseAt P o a' (more w0 r) V) a
def nextA (o : Oper) (a : Act) : Res → Act
  | .val v => a.put o.dst v
  | .loose _ => a
def nextF (o : Oper) (F : FL) : Res → FL
  | .val _ => F
  | .loose V => match o.dst with
    | some d => (d, V) :: F
    | none => F
/-- The walk in the text's order. -/
def wpLoose (P : Program) (ops : Array Oper) (w0 : World) (Q : Act → World → Prop) : List Oper → FL → Act → Prop
  | [], F, a => ∀ r, allFits (more w0 r) F (fun a' => Q a' (more w0 r)) a
  | o :: rest, F, a => ∃ res, StepOK P ops w0 o a F res ∧ wpLoose P ops w0 Q rest (nextF o F res) (nextA o a res)

def runA : List Oper → List Res → Act → Act
  | o :: l, r :: rs, a => runA l rs (nextA o a r)
  | _, _, a => a
def runF : List Oper → List Res → FL → FL
  | o :: l, r :: rs, F => runF l rs (nextF o F r)
  | _, _, F => F

section
variable {P : Program} {ops : Array Oper} {w0 : World}

theorem loose_extract {Q : Act → World → Prop} : ∀ (l : List Oper) (F : FL) (a : Act), wpLoose P ops w0 Q l F a → ∃ rs : List Res, rs.length = l.length ∧
    (∀ i o res, l[i]? = some o → rs[i]? = some res → StepOK P ops w0 o (runA (l.take i) (rs.take i) a) (runF (l.take i) (rs.take i) F) res) ∧
    ∀ r, allFits (more w0 r) (runF l rs F) (fun a' => Q a' (more w0 r)) (runA l rs a)
  | [], F, a, h => ⟨[], rfl, fun i o res hi => by simp at hi, h⟩
  | o :: l, F, a, ⟨res, h1, h2⟩ => by
    obtain ⟨rs, hl, hs, hf⟩ := loose_extract l _ _ h2
    refine ⟨res :: rs, by simp [hl], fun i o' res' hi hr => ?_, hf⟩
    cases i with
    | zero =>
      simp only [List.getElem?_cons_zero, Option.some.injEq] at hi hr
      subst hi hr
      exact h1
    | succ i => exact hs i o' res' (by simpa using hi) (by simpa using hr)

theorem put_size (a : Act) (d : Option Tmp) (v : Value) : (a.put d v).tmps.size = a.tmps.size := by
  cases d <;> simp [Act.put]
theorem put_defs (a : Act) (d : Option Tmp) (v : Value) : (a.put d v).defers = a.defers := by
  cases d <;> rfl
theorem put_at (a : Act) (d t : Nat) (v : Value) : (a.put (some d) v).tmps[t]? = if d = t then (if d < a.tmps.size then some v else none) else a.tmps[t]? := by
  simp only [Act.put]
  rw [Array.getElem?_setIfInBounds]
theorem put_off (a : Act) (d : Option Tmp) (t : Nat) (v : Value) (h : d ≠ some t) : (a.put d v).tmps[t]? = a.tmps[t]? := by
  cases d with
  | none => rfl
  | some d => rw [put_at, if_neg (fun e => h (by rw [e]))]
theorem runA_size : ∀ (l : List Oper) (rs : List Res) (a : Act), (runA l rs a).tmps.size = a.tmps.size
  | [], _, _ => rfl
  | _ :: _, [], _ => rfl
  | o :: l, r :: rs, a => by
    rw [runA, runA_size l rs]
    cases r with
    | val v => exact put_size _ _ _
    | loose V => rfl
theorem runA_defs : ∀ (l : List Oper) (rs : List Res) (a : Act), (runA l rs a).defers = a.defers
  | [], _, _ => rfl
  | _ :: _, [], _ => rfl
  | o :: l, r :: rs, a => by
    rw [runA, runA_defs l rs]
    cases r with
    | val v => exact put_defs _ _ _
    | loose V => rfl
theorem runA_keep {d : Nat} : ∀ (l : List Oper) (rs : List Res) (a : Act), (∀ (i : Nat) (o : Oper) (v : Value), l[i]? = some o → rs[i]? = some (.val v) → o.dst ≠ some d) → (runA l rs a).tmps[d]? = a.tmps[d]?
  | [], _, _, _ => rfl
  | _ :: _, [], _, _ => rfl
  | o :: l, r :: rs, a, h => by
    rw [runA, runA_keep l rs _ fun i o' v hi hr => h (i + 1) o' v (by simpa using hi) (by simpa using hr)]
    cases r with
    | val v => exact put_off _ _ _ _ (h 0 o v rfl rfl)
    | loose V => rfl
theorem runF_mem {p : Nat × (Value → World → Prop)} : ∀ (l : List Oper) (rs : List Res) (F : FL), p ∈ runF l rs F → p ∈ F ∨ ∃ (i : Nat) (o : Oper), l[i]? = some o ∧ rs[i]? = some (.loose p.2) ∧ o.dst = some p.1
  | [], _, _, h => .inl h
  | _ :: _, [], _, h => .inl h
  | o :: l, r :: rs, F, h => by
    rcases runF_mem l rs _ h with h1 | ⟨i, o', hi, hr, hd⟩
    · cases r with
      | val v => exact .inl h1
      | loose V =>
        unfold nextF at h1
        cases hd : o.dst with
        | none => rw [hd] at h1; exact .inl h1
        | some d =>
          rw [hd] at h1
          rcases List.mem_cons.1 h1 with h2 | h2
          · subst h2
            exact .inr ⟨0, o, rfl, rfl, hd⟩
          · exact .inl h2
    · exact .inr ⟨i + 1, o', by simpa using hi, by simpa using hr, hd⟩
theorem runF_sub {p : Nat × (Value → World → Prop)} : ∀ (l : List Oper) (rs : List Res) (F : FL), p ∈ F → p ∈ runF l rs F
  | [], _, _, h => h
  | _ :: _, [], _, h => h
  | o :: l, r :: rs, F, h => by
    refine runF_sub l rs _ ?_
    cases r with
    | val v => exact h
    | loose V =>
      unfold nextF
      cases o.dst with
      | none => exact h
      | some d => exact List.mem_cons_of_mem _ h
theorem runF_has {d : Nat} {V : Value → World → Prop} : ∀ (l : List Oper) (rs : List Res) (F : FL) (i : Nat) (o : Oper), l[i]? = some o → rs[i]? = some (.loose V) → o.dst = some d → (d, V) ∈ runF l rs F
  | [], _, _, i, o, hi, _, _ => by simp at hi
  | _ :: _, [], _, i, o, _, hr, _ => by simp at hr
  | o :: l, r :: rs, F, 0, o', hi, hr, hd => by
    simp only [List.getElem?_cons_zero, Option.some.injEq] at hi hr
    subst hi hr
    refine runF_sub l rs _ ?_
    unfold nextF
    rw [hd]
    exact List.mem_cons_self
  | o :: l, r :: rs, F, i + 1, o', hi, hr, hd => runF_has l rs _ i o' (by simpa using hi) (by simpa using hr) hd

theorem allFits_act {w : World} {A : Act} {K : Act → Prop} : ∀ (F : FL) (a : Act), (∀ p ∈ F, ∃ u, A.tmps[p.1]? = some u ∧ p.2 u w) → a.tmps.size = A.tmps.size → a.defers = A.defers → allFits w F K a →
    ∃ a', K a' ∧ a'.tmps.size = A.tmps.size ∧ a'.defers = A.defers ∧ ∀ t, (a.tmps[t]? = A.tmps[t]? ∨ ∃ V, (t, V) ∈ F) → a'.tmps[t]? = A.tmps[t]?
  | [], a, _, hs, hd, h => ⟨a, h, hs, hd, fun t ht => ht.elim id fun ⟨V, hV⟩ => by cases hV⟩
  | (d, V0) :: F, a, hF, hs, hd, h => by
    obtain ⟨u, hu, hV⟩ := hF (d, V0) List.mem_cons_self
    have hlt : d < a.tmps.size := by
      rw [hs]
      exact (Array.getElem?_eq_some_iff.1 hu).1
    obtain ⟨a', h1, h2, h3, h4⟩ := allFits_act F (a.put (some d) u) (fun p hp => hF p (List.mem_cons_of_mem _ hp)) (by rw [put_size, hs]) (by rw [put_defs, hd]) (h u hV)
    refine ⟨a', h1, h2, h3, fun t ht => h4 t ?_⟩
    by_cases hdt : d = t
    · subst hdt
      left
      rw [put_at, if_pos rfl, if_pos hlt]
      exact hu.symm
    · rw [put_at, if_neg hdt]
      rcases ht with ht | ⟨V, hV⟩
      · exact .inl ht
      · rcases List.mem_cons.1 hV with h5 | h5
        · simp only [Prod.mk.injEq] at h5
          exact absurd h5.1.symm hdt
        · exact .inr ⟨V, h5⟩

theorem exec_agree {a A : Act} (o : Oper) (hs : ∀ cs b, o.op ≠ .select cs b) (h : ∀ t ∈ o.looksAt ops, a.tmps[t]? = A.tmps[t]?) : execOp a.eval o = execOp A.eval o :=
  execOp_congr o hs fun x hx => by
    cases x with
    | tmp t =>
      have ht : t ∈ o.looksAt ops := List.mem_append_left _ (List.mem_filterMap.2 ⟨.tmp t, by simpa using hx, rfl⟩)
      simp only [Act.eval, Array.getD_eq_getD_getElem?, h t ht]
    | _ => rfl
theorem wanted_agree {a A : Act} (o : Oper) (h : ∀ t ∈ o.looksAt ops, a.tmps[t]? = A.tmps[t]?) : Region.wanted o (yielded ops a.tmps) = Region.wanted o (yielded ops A.tmps) := by
  unfold Region.wanted
  cases hg : o.guard with
  | none => rfl
  | some gw =>
    obtain ⟨g, want⟩ := gw
    have hy : yielded ops a.tmps g = yielded ops A.tmps g := by
      unfold yielded
      cases ht : (ops[g]?).bind (·.dst) with
      | none => rfl
      | some t =>
        have := h t (by simp [Oper.looksAt, hg, ht])
        simp only [Option.bind_some, this]
    simp only [hy]
theorem wp_of_loose {o : Oper} {A : Act} {w : World} {V : Value → World → Prop} {K : Act → World → Prop} {Q : Exit → Act → World → Prop} (h : looseAt P o A w V) (hk : ∀ u w', More w w' → V u w' → K (A.put o.dst u) w') : o.wp P A w K Q := by
  unfold looseAt at h
  unfold Oper.wp
  generalize (execOp A.eval o).run P w = r at *
  cases r with
  | ok n w' =>
    cases n <;> simp only [looseUpon] at h <;> simp only [Oper.upon]
    case value u => exact hk _ _ h.1 h.2
    case skip => exact hk _ _ h.1 h.2
    case enter f args =>
      obtain ⟨rfl, hc⟩ := h
      exact hc.mono fun e w'' ⟨u, he, hm, hv⟩ => by subst he; exact hk _ _ hm hv
  | halt x w' => simp only [looseUpon] at h

theorem countP_less {p q : Nat → Bool} {i : Nat} : ∀ l : List Nat, (∀ j, q j = true → p j = true) → i ∈ l → p i = true → q i = false → l.countP q < l.countP p
  | [], _, hi, _, _ => by cases hi
  | x :: l, h, hi, hp, hq => by
    have hle : l.countP q ≤ l.countP p := List.countP_mono_left fun j _ hj => h j hj
    by_cases hx : i = x
    · subst hx
      rw [List.countP_cons_of_neg (by rw [hq]; simp), List.countP_cons_of_pos hp]
      omega
    · have := countP_less l h (by rcases List.mem_cons.1 hi with h1 | h1; exact absurd h1 hx; exact h1) hp hq
      cases hqx : q x
      · rw [List.countP_cons_of_neg (by rw [hqx]; simp)]
        cases hpx : p x
        · rw [List.countP_cons_of_neg (by rw [hpx]; simp)]; exact this
        · rw [List.countP_cons_of_pos hpx]; omega
      · rw [List.countP_cons_of_pos hqx, List.countP_cons_of_pos (h x hqx)]
        omega

/-- Each slot is written by one operation. -/
def onceB : List Oper → Bool
  | [] => true
  | o :: r => (match o.dst with
    | some d => r.all fun x => x.dst != some d
    | none => true) && onceB r
theorem onceB_spec {d : Nat} : ∀ (l : List Oper), onceB l = true → ∀ (i j : Nat) (oi oj : Oper), l[i]? = some oi → l[j]? = some oj → oi.dst = some d → oj.dst = some d → i = j
  | [], _, i, _, _, _, hi, _, _, _ => by simp at hi
  | o :: r, h, i, j, oi, oj, hi, hj, di, dj => by
    simp only [onceB, Bool.and_eq_true] at h
    have far : ∀ (k : Nat) (x : Oper), o.dst = some d → r[k]? = some x → x.dst = some d → False := fun k x ho hk hx => by
      have h1 := h.1
      rw [ho] at h1
      have h2 := List.all_eq_true.1 h1 x (List.mem_iff_getElem?.2 ⟨k, hk⟩)
      rw [hx] at h2
      simp at h2
    cases i with
    | zero =>
      cases j with
      | zero => rfl
      | succ j =>
        simp only [List.getElem?_cons_zero, Option.some.injEq] at hi
        subst hi
        exact (far j oj di (by simpa using hj) dj).elim
    | succ i =>
      cases j with
      | zero =>
        simp only [List.getElem?_cons_zero, Option.some.injEq] at hj
        subst hj
        exact (far i oi dj (by simpa using hi) di).elim
      | succ j => rw [onceB_spec r h.2 i j oi oj (by simpa using hi) (by simpa using hj) di dj]

/-- What holds of the frame and the world when those of m have been done, in whatever order. -/
structure LInv (w0 : World) (l : List Oper) (rs : List Res) (a0 : Act) (m : Array Bool) (A : Act) (w : World) : Prop where
  more : ∃ r, w = more w0 r
  size : A.tmps.size = a0.tmps.size
  defs : A.defers = a0.defers
  val : ∀ (j : Nat) (o : Oper) (v : Value) (d : Nat), l[j]? = some o → rs[j]? = some (.val v) → o.dst = some d → m.getD j false = true → A.tmps[d]? = (runA l rs a0).tmps[d]?
  loose : ∀ (j : Nat) (o : Oper) (V : Value → World → Prop) (d : Nat), l[j]? = some o → rs[j]? = some (.loose V) → o.dst = some d → m.getD j false = true → ∃ u, A.tmps[d]? = some u ∧ V u w
  rest : ∀ d, (∀ (j : Nat) (o : Oper), l[j]? = some o → o.dst = some d → m.getD j false = false) → A.tmps[d]? = a0.tmps[d]?

theorem runA_add : ∀ (l l' : List Oper) (rs rs' : List Res) (a : Act), l.length = rs.length → runA (l ++ l') (rs ++ rs') a = runA l' rs' (runA l rs a)
  | [], l', [], rs', a, _ => rfl
  | o :: l, l', r :: rs, rs', a, h => runA_add l l' rs rs' _ (by simpa using h)
  | [], _, _ :: _, _, _, h => by simp at h
  | _ :: _, _, [], _, _, h => by simp at h
theorem runA_part {l : List Oper} {rs : List Res} (a : Act) (i : Nat) (hl : rs.length = l.length) : runA l rs a = runA (l.drop i) (rs.drop i) (runA (l.take i) (rs.take i) a) := by
  rw [← runA_add _ _ _ _ _ (by simp [hl]), List.take_append_drop, List.take_append_drop]

/-- What the i-th operation reads is there, as the text's order has it, or loose. -/
theorem agree_at {l : List Oper} {rs : List Res} {a0 A : Act} {w : World} {m : Array Bool} (ha : ops = l.toArray) (hl : rs.length = l.length) (hB : allOk ops l 0 l (bits l) = true) (hN : onceB l = true)
    (inv : LInv w0 l rs a0 m A w) (hsh : Shut ops m) {i : Nat} {o : Oper} (hi : l[i]? = some o) (hr : i ∈ Region.ready .any ops m) :
    (∀ t ∈ o.looksAt ops, (runA (l.take i) (rs.take i) a0).tmps[t]? = A.tmps[t]? ∨ ∃ V, (t, V) ∈ looked ops o (runF (l.take i) (rs.take i) [])) ∧
    ∀ p ∈ looked ops o (runF (l.take i) (rs.take i) []), ∃ u, A.tmps[p.1]? = some u ∧ p.2 u w := by
  have hops : ∀ (j : Nat), ops[j]? = l[j]? := fun j => by rw [ha]; simp
  obtain ⟨hun, oi, hoi, hall⟩ := mem_ready.1 hr
  have hoi' : oi = o := by
    rw [hops, hi] at hoi
    exact (Option.some.inj hoi).symm
  subst hoi'
  -- an earlier one that is read has been done
  have before : ∀ (j : Nat) (oj : Oper) (t : Nat), j < i → l[j]? = some oj → oj.dst = some t → t ∈ oi.looksAt ops → m.getD j false = true := fun j oj t hji hj hd ht => by
    obtain ⟨-, b, hb, hrow⟩ := allOk_spec l 0 _ hB i oi hi
    rw [Nat.zero_add] at hrow
    rcases rowOk_spec i 0 l hrow j oj hji hj with h1 | h1
    · rw [Nat.zero_add] at h1
      have e : (Region.before ops).getD i 0 = b := by
        rw [bits_eq, ← ha] at hb
        simp only [Array.getElem?_toList] at hb
        simp [Array.getD_eq_getD_getElem?, hb]
      exact shut_bit hsh j i i rfl oi (by rw [hops]; exact hi) hall (by rw [e]; exact h1)
    · exact absurd ht ((Oper.apart_spec h1).1 t hd)
  -- a later one that is read has not
  have after : ∀ (j : Nat) (oj : Oper) (t : Nat), i ≤ j → l[j]? = some oj → oj.dst = some t → t ∈ oi.looksAt ops → m.getD j false = false := fun j oj t hij hj hd ht => by
    rcases Nat.lt_or_ge i j with hlt | hge
    · cases hmj : m.getD j false
      · rfl
      · obtain ⟨-, b, hb, hrow⟩ := allOk_spec l 0 _ hB j oj hj
        rw [Nat.zero_add] at hrow
        rcases rowOk_spec j 0 l hrow i oi hlt hi with h1 | h1
        · rw [Nat.zero_add] at h1
          have e : (Region.before ops).getD j 0 = b := by
            rw [bits_eq, ← ha] at hb
            simp only [Array.getElem?_toList] at hb
            simp [Array.getD_eq_getD_getElem?, hb]
          have h2 := shut_bit hsh i j j rfl oj (by rw [hops]; exact hj) (hsh j oj (by rw [hops]; exact hj) hmj) (by rw [e]; exact h1)
          rw [getD_both hun] at h2
          cases h2
        · exact absurd ht ((Oper.apart_spec h1).2.2 t hd)
    · obtain rfl : i = j := by omega
      exact getD_both hun
  have take : ∀ (j : Nat) (x : Oper), (l.take i)[j]? = some x → j < i ∧ l[j]? = some x := fun j x h => by
    rw [List.getElem?_take] at h
    split at h
    · exact ⟨by assumption, h⟩
    · cases h
  have takeR : ∀ (j : Nat) (x : Res), (rs.take i)[j]? = some x → j < i ∧ rs[j]? = some x := fun j x h => by
    rw [List.getElem?_take] at h
    split at h
    · exact ⟨by assumption, h⟩
    · cases h
  refine ⟨fun t ht => ?_, fun p hp => ?_⟩
  · by_cases hw : ∃ (j : Nat) (oj : Oper), j < i ∧ l[j]? = some oj ∧ oj.dst = some t
    · obtain ⟨j, oj, hji, hj, hd⟩ := hw
      have hdone := before j oj t hji hj hd ht
      have hjr : j < rs.length := by
        rw [hl]
        exact (List.getElem?_eq_some_iff.1 hj).1
      cases hres : rs[j] with
      | val v =>
        left
        have hrj : rs[j]? = some (.val v) := by rw [List.getElem?_eq_getElem hjr, hres]
        rw [inv.val j oj v t hj hrj hd hdone, runA_part a0 i hl]
        refine (runA_keep _ _ _ fun k ok v' hk hrk hdk => ?_).symm
        rw [List.getElem?_drop] at hk
        have := onceB_spec l hN j (i + k) oj ok hj hk hd hdk
        omega
      | loose V =>
        right
        have hrj : rs[j]? = some (.loose V) := by rw [List.getElem?_eq_getElem hjr, hres]
        refine ⟨V, List.mem_filter.2 ⟨?_, by simpa using ht⟩⟩
        exact runF_has _ _ _ j oj (by rw [List.getElem?_take_of_lt hji]; exact hj) (by rw [List.getElem?_take_of_lt hji]; exact hrj) hd
    · left
      rw [inv.rest t fun j oj hj hd => after j oj t (Nat.le_of_not_lt fun h => hw ⟨j, oj, h, hj, hd⟩) hj hd ht]
      exact runA_keep _ _ _ fun k ok v hk hrk hd => hw ⟨k, ok, (take k ok hk).1, (take k ok hk).2, hd⟩
  · obtain ⟨hp1, hp2⟩ := List.mem_filter.1 hp
    rcases runF_mem _ _ _ hp1 with h | ⟨j, oj, hj, hrj, hd⟩
    · cases h
    · have h1 := take j oj hj
      exact inv.loose j oj p.2 p.1 h1.2 (takeR j _ hrj).2 hd (before j oj p.1 h1.1 h1.2 hd (by simpa using hp2))

theorem all_done {l : List Oper} {m : Array Bool} (ha : ops = l.toArray) (hB : allOk ops l 0 l (bits l) = true) (hms : m.size = l.length) (h : Region.ready .any ops m = []) : ∀ j, j < l.length → m.getD j false = true := by
  intro j
  induction j using Nat.strongRecOn with
  | _ j ih =>
    intro hj
    cases hm : m.getD j false
    · exfalso
      have hoj : l[j]? = some l[j] := List.getElem?_eq_getElem hj
      have he := (allOk_spec l 0 _ hB j _ hoj).1
      have : j ∈ Region.ready .any ops m := mem_ready.2 ⟨getD_in (by omega) hm, l[j], by rw [ha]; simp, fun e hh hb => ih e.on (by have := he e hh hb; omega) (by have := he e hh hb; omega)⟩
      rw [h] at this
      cases this
    · rfl

theorem loose_any {Q : Act → World → Prop} {Q' : Exit → Act → World → Prop} {l : List Oper} {rs : List Res} {a0 : Act} (ha : ops = l.toArray) (hsel : Region.noSelect ops = true) (hB : allOk ops l 0 l (bits l) = true) (hN : onceB l = true) (hl : rs.length = l.length)
    (hS : ∀ i o res, l[i]? = some o → rs[i]? = some res → StepOK P ops w0 o (runA (l.take i) (rs.take i) a0) (runF (l.take i) (rs.take i) []) res)
    (hF : ∀ r, allFits (more w0 r) (runF l rs []) (fun a' => Q a' (more w0 r)) (runA l rs a0)) (hQ : ∀ a w, Q a w → Q' .normal a w) :
    ∀ (f : Nat) (m : Array Bool) (A : Act) (w : World), m.size = l.length → Shut ops m → LInv w0 l rs a0 m A w → (List.range l.length).countP (fun j => !(m.getD j false)) ≤ f → wpAny P .any ops Q' f m A w := by
  have hops : ∀ (j : Nat), ops[j]? = l[j]? := fun j => by rw [ha]; simp
  -- the end
  have fin : ∀ (m : Array Bool) (A : Act) (w : World), LInv w0 l rs a0 m A w → (∀ j, j < l.length → m.getD j false = true) → Q' .normal A w := fun m A w inv hall => by
    obtain ⟨r, rfl⟩ := inv.more
    obtain ⟨a', h1, h2, h3, h4⟩ := allFits_act (A := A) _ _ (fun p hp => by
      rcases runF_mem _ _ _ hp with h | ⟨j, oj, hj, hrj, hd⟩
      · cases h
      · exact inv.loose j oj p.2 p.1 hj hrj hd (hall j (List.getElem?_eq_some_iff.1 hj).1)) (by rw [runA_size, inv.size]) (by rw [runA_defs, inv.defs]) (hF r)
    have hsame : ∀ t, a'.tmps[t]? = A.tmps[t]? := fun t => by
      apply h4
      by_cases hw : ∃ (j : Nat) (oj : Oper), l[j]? = some oj ∧ oj.dst = some t
      · obtain ⟨j, oj, hj, hd⟩ := hw
        have hjr : j < rs.length := by
          rw [hl]
          exact (List.getElem?_eq_some_iff.1 hj).1
        have hdone := hall j (by omega)
        cases hres : rs[j] with
        | val v => exact .inl (inv.val j oj v t hj (by rw [List.getElem?_eq_getElem hjr, hres]) hd hdone).symm
        | loose V => exact .inr ⟨V, runF_has _ _ _ j oj hj (by rw [List.getElem?_eq_getElem hjr, hres]) hd⟩
      · left
        rw [inv.rest t fun j oj hj hd => absurd ⟨j, oj, hj, hd⟩ hw]
        exact runA_keep _ _ _ fun k ok v hk hrk hd => hw ⟨k, ok, hk, hd⟩
    have e : a' = A := by
      obtain ⟨at', ad'⟩ := a'
      obtain ⟨At, Ad⟩ := A
      simp only at h3 hsame
      subst h3
      have : at' = At := Array.ext_getElem? hsame
      rw [this]
    rw [← e]
    exact hQ _ _ h1
  intro f
  induction f with
  | zero =>
    intro m A w hms hsh inv hc
    have hall : ∀ j, j < l.length → m.getD j false = true := fun j hj => by
      have h0 : (List.range l.length).countP (fun j => !(m.getD j false)) = 0 := by omega
      have := List.countP_eq_zero.1 h0 j (by simpa using hj)
      simpa using this
    refine ⟨List.eq_nil_iff_forall_not_mem.2 fun i hi => ?_, fin m A w inv hall⟩
    obtain ⟨hun, oi, hoi, _⟩ := mem_ready.1 hi
    have hlt : i < l.length := by
      rw [hops] at hoi
      exact (List.getElem?_eq_some_iff.1 hoi).1
    have h1 := hall i hlt
    rw [getD_both hun] at h1
    cases h1
  | succ f ih =>
    intro m A w hms hsh inv hc
    refine ⟨fun h => fin m A w inv (all_done ha hB hms h), fun i hi => ?_⟩
    obtain ⟨hun, oi, hoi, hall⟩ := mem_ready.1 hi
    have hil : l[i]? = some oi := by rw [← hops]; exact hoi
    have hlt : i < l.length := (List.getElem?_eq_some_iff.1 hil).1
    obtain ⟨g1, g2⟩ := agree_at ha hl hB hN inv hsh hil hi
    have hir : i < rs.length := by omega
    have hres0 : rs[i]? = some rs[i] := List.getElem?_eq_getElem hir
    have hst := hS i oi rs[i] hil hres0
    have hcnt : (List.range l.length).countP (fun j => !((m.setIfInBounds i true).getD j false)) ≤ f := by
      have := countP_less (i := i) (p := fun j => !(m.getD j false)) (q := fun j => !((m.setIfInBounds i true).getD j false)) (List.range l.length) (fun j hj => by
        simp only [Bool.not_eq_true'] at hj ⊢
        cases hmj : m.getD j false
        · rfl
        · rw [getD_set_true hmj] at hj; cases hj) (by simpa using hlt) (by simp only [Bool.not_eq_true']; exact getD_both hun) (by simp [hms, hlt])
      omega
    -- behind the operation
    have next : ∀ (u : Value) (w'' : World), More w w'' → (∀ v, rs[i] = .val v → u = v) → (∀ V, rs[i] = .loose V → V u w'' ∧ ∃ d, oi.dst = some d ∧ d < A.tmps.size) → LInv w0 l rs a0 (m.setIfInBounds i true) (A.put oi.dst u) w'' := fun u w'' hmo hval hlo => by
      have old : ∀ (j : Nat) (o : Oper) (d : Nat), l[j]? = some o → o.dst = some d → j ≠ i → oi.dst ≠ some d := fun j o d hj hd hne he => hne (onceB_spec l hN j i o oi hj hil hd he)
      refine ⟨?_, by rw [put_size, inv.size], by rw [put_defs, inv.defs], fun j o v d hj hrj hd hdone => ?_, fun j o V d hj hrj hd hdone => ?_, fun d hd => ?_⟩
      · obtain ⟨r, rfl⟩ := inv.more
        obtain ⟨s, rfl⟩ := hmo
        exact ⟨_, more_more _ _ _⟩
      · by_cases hji : j = i
        · subst hji
          obtain rfl : o = oi := Option.some.inj (hj.symm.trans hil)
          have hv : rs[j] = .val v := Option.some.inj (hres0.symm.trans hrj)
          rw [hval v hv, hd, put_at, if_pos rfl]
          have hsz : A.tmps.size = (runA (l.take j) (rs.take j) a0).tmps.size := by rw [runA_size, inv.size]
          have e1 : runA l rs a0 = runA (l.drop (j + 1)) (rs.drop (j + 1)) ((runA (l.take j) (rs.take j) a0).put (some d) v) := by
            rw [runA_part a0 j hl, List.drop_eq_getElem_cons hlt, List.drop_eq_getElem_cons hir, runA]
            have e2 : l[j] = o := Option.some.inj ((List.getElem?_eq_getElem hlt).symm.trans hil)
            rw [e2, hv, nextA, hd]
          rw [e1, runA_keep _ _ _ fun k ok v' hk hrk hdk => (by
            rw [List.getElem?_drop] at hk
            have := onceB_spec l hN j (j + 1 + k) o ok hil hk hd hdk
            omega), put_at, if_pos rfl, hsz]
        · rw [put_off _ _ _ _ (old j o d hj hd hji)]
          rw [getD_set_ne false (Ne.symm hji)] at hdone
          exact inv.val j o v d hj hrj hd hdone
      · by_cases hji : j = i
        · subst hji
          obtain rfl : o = oi := Option.some.inj (hj.symm.trans hil)
          obtain ⟨h1, d', hd', hlt'⟩ := hlo V (Option.some.inj (hres0.symm.trans hrj))
          rw [hd] at hd'
          obtain rfl := Option.some.inj hd'
          exact ⟨u, by rw [hd, put_at, if_pos rfl, if_pos hlt'], h1⟩
        · rw [getD_set_ne false (Ne.symm hji)] at hdone
          obtain ⟨u', h1, h2⟩ := inv.loose j o V d hj hrj hd hdone
          have hmono := (hS j o (.loose V) hj hrj).2.1
          exact ⟨u', by rw [put_off _ _ _ _ (old j o d hj hd hji)]; exact h1, hmono _ _ _ hmo h2⟩
      · have hne : oi.dst ≠ some d := fun he => by
          have := hd i oi hil he
          rw [show (m.setIfInBounds i true).getD i false = true by simp [hms, hlt]] at this
          cases this
        rw [put_off _ _ _ _ hne]
        refine inv.rest d fun j o hj hd' => ?_
        have := hd j o hj hd'
        cases hmj : m.getD j false
        · rfl
        · rw [getD_set_true hmj] at this; cases this
    have go : ∀ (u : Value) (w'' : World), More w w'' → (∀ v, rs[i] = .val v → u = v) → (∀ V, rs[i] = .loose V → V u w'' ∧ ∃ d, oi.dst = some d ∧ d < A.tmps.size) → wpAny P .any ops Q' f (m.setIfInBounds i true) (A.put oi.dst u) w'' := fun u w'' h1 h2 h3 =>
      ih _ _ _ (by simpa using hms) (shut_set hsh hi) (next u w'' h1 h2 h3) hcnt
    unfold wpOp
    simp only [hoi]
    obtain ⟨r, hr⟩ := inv.more
    subst hr
    have hsz : (runA (l.take i) (rs.take i) a0).tmps.size = A.tmps.size := by rw [runA_size, inv.size]
    cases hres : rs[i] with
    | val v =>
      rw [hres] at hst
      obtain ⟨a', h1, h2, h3, h4⟩ := allFits_act (A := A) _ _ g2 hsz (by rw [runA_defs, inv.defs]) (hst r)
      have hag : ∀ t ∈ oi.looksAt ops, a'.tmps[t]? = A.tmps[t]? := fun t ht => h4 t (g1 t ht)
      rw [wanted_agree oi hag] at h1
      split
      · rename_i hw
        rw [if_pos hw] at h1
        refine .inl ?_
        unfold looseAt at h1
        rw [exec_agree oi (Region.noSelect_spec hsel i oi · · hoi) hag] at h1
        exact wp_of_loose h1 fun u w' hm hu => go u w' hm (fun v' hv' => by rw [hres] at hv'; cases hv'; exact hu) (fun V hV => by rw [hres] at hV; cases hV)
      · rename_i hw
        rw [if_neg hw] at h1
        exact go undef _ (More.refl _) (fun v' hv' => by rw [hres] at hv'; cases hv'; exact h1.symm) (fun V hV => by rw [hres] at hV; cases hV)
    | loose V =>
      rw [hres] at hst
      obtain ⟨⟨d, hd, hdl⟩, hmono, hstep⟩ := hst
      obtain ⟨a', h1, h2, h3, h4⟩ := allFits_act (A := A) _ _ g2 hsz (by rw [runA_defs, inv.defs]) (hstep r)
      have hag : ∀ t ∈ oi.looksAt ops, a'.tmps[t]? = A.tmps[t]? := fun t ht => h4 t (g1 t ht)
      rw [wanted_agree oi hag] at h1
      rw [if_pos h1.1]
      refine .inl ?_
      have h5 := h1.2
      unfold looseAt at h5
      rw [exec_agree oi (Region.noSelect_spec hsel i oi · · hoi) hag] at h5
      exact wp_of_loose h5 fun u w' hm hu => go u w' hm (fun v' hv' => by rw [hres] at hv'; cases hv') (fun V' hV => by rw [hres] at hV; cases hV; exact ⟨hu, d, hd, by rw [← hsz]; exact hdl⟩)
end

def looseB (l : List Oper) : Bool := quickB l && onceB l
theorem wp_loose {P : Program} {id : Nat} {Q : Exit → Act → World → Prop} {a : Act} {w W : World} {l : List Oper} (hm : P.follows .mixedOrders = true) (hB : looseB l = true) (hW : ∃ r, { W with drawn := W.drawn + 1 } = more w r)
    (h : wpLoose P l.toArray w (fun a' w' => Q .normal a' w') l [] a) : (Code.region id l.toArray true).wp P Q a W := by
  simp only [looseB, quickB, Bool.and_eq_true] at hB
  obtain ⟨⟨hsel, hok⟩, hon⟩ := hB
  obtain ⟨rs, hl, hS, hF⟩ := loose_extract l _ _ h
  refine wp_region_any hm (loose_any rfl hsel hok hon hl hS hF (fun _ _ h => h) _ _ _ _ (by simp) ?_ ?_ ?_)
  · intro j oj hj hlj
    rw [getD_replicate_false] at hlj
    cases hlj
  · refine ⟨hW, rfl, rfl, fun j o v d _ _ _ hd => ?_, fun j o V d _ _ _ hd => ?_, fun d _ => rfl⟩
    · rw [getD_replicate_false] at hd; cases hd
    · rw [getD_replicate_false] at hd; cases hd
  · exact Nat.le_trans List.countP_le_length (by simp)
theorem wp_more_loose {P : Program} {id : Nat} {Q : Exit → Act → World → Prop} {a : Act} {w : World} {l : List Oper} (hm : P.follows .mixedOrders = true) (hB : looseB l = true)
    (h : wpLoose P l.toArray w (fun a' w' => Q .normal a' w') l [] a) : (Code.region id l.toArray true).wp P Q a w :=
  wp_loose hm hB ⟨⟨#[], w.drawn + 1⟩, by unfold more; simp⟩ h
theorem wp_more_loose_m {P : Program} {id : Nat} {Q : Exit → Act → World → Prop} {a : Act} {w : World} {s : Rest} {l : List Oper} (hm : P.follows .mixedOrders = true) (hB : looseB l = true)
    (h : wpLoose P l.toArray w (fun a' w' => Q .normal a' w') l [] a) : (Code.region id l.toArray true).wp P Q a (more w s) :=
  wp_loose hm hB ⟨s.draw 1, by rw [← more_drew]; rfl⟩ h

/-! The steps of the walk. -/
def constUpon (P : Program) (w : World) (v : Value) : Result Next → Prop
  | .ok (.value u) w' => More w w' ∧ u = v
  | .ok .skip w' => More w w' ∧ v = undef
  | .ok (.enter f args) w' => w' = w ∧ Calls P f args w (fun e w'' => e = .returned v ∧ More w w'')
  | _ => False
def constAt (P : Program) (o : Oper) (a : Act) (w : World) (v : Value) : Prop := constUpon P w v ((execOp a.eval o).run P w)
theorem loose_of_const {P : Program} {o : Oper} {a : Act} {w : World} {v : Value} (h : constAt P o a w v) : looseAt P o a w (fun u _ => u = v) := by
  unfold constAt at h
  unfold looseAt
  generalize (execOp a.eval o).run P w = r at *
  cases r with
  | ok n w' =>
    cases n <;> simp only [constUpon] at h <;> simp only [looseUpon]
    case value u => exact h
    case skip => exact ⟨h.1, h.2.symm⟩
    case enter f args => exact ⟨h.1, h.2.mono fun e w'' ⟨he, hm⟩ => ⟨v, he, hm, rfl⟩⟩
  | halt x w' => simp only [constUpon] at h
theorem More.self (w : World) : More w w ↔ True := ⟨fun _ => trivial, fun _ => More.refl w⟩
attribute [go_sem] looseAt looseUpon constAt constUpon More.self

section
variable {P : Program} {ops : Array Oper} {w0 : World} {Q : Act → World → Prop} {o : Oper} {rest : List Oper} {F : FL} {a : Act}
theorem loose_step (hF : looked ops o F = [])
    (h : ∀ K : Act → Prop, (∀ a, wpLoose P ops w0 Q rest F a → K a) → if Region.wanted o (yielded ops a.tmps) then ∃ v, (∀ r, constAt P o a (more w0 r) v) ∧ K (a.put o.dst v) else K (a.put o.dst undef)) : wpLoose P ops w0 Q (o :: rest) F a := by
  have h1 := h _ (fun _ h => h)
  by_cases hw : Region.wanted o (yielded ops a.tmps) = true
  · rw [if_pos hw] at h1
    obtain ⟨v, hv, hk⟩ := h1
    refine ⟨.val v, fun r => ?_, hk⟩
    rw [hF]
    show (if _ then _ else _)
    rw [if_pos hw]
    exact loose_of_const (hv r)
  · rw [if_neg hw] at h1
    refine ⟨.val undef, fun r => ?_, h1⟩
    rw [hF]
    show (if _ then _ else _)
    rw [if_neg hw]
theorem loose_make (d : Nat) (V : Value → World → Prop) (hd : o.dst = some d) (hF : looked ops o F = []) (hs : d < a.tmps.size) (hw : Region.wanted o (yielded ops a.tmps) = true) (hm : ∀ v w w', More w w' → V v w → V v w')
    (hv : ∀ r, looseAt P o a (more w0 r) V) (hk : wpLoose P ops w0 Q rest ((d, V) :: F) a) : wpLoose P ops w0 Q (o :: rest) F a := by
  refine ⟨.loose V, ⟨⟨d, hd, hs⟩, hm, fun r => ?_⟩, ?_⟩
  · rw [hF]
    exact ⟨hw, hv r⟩
  · show wpLoose P ops w0 Q rest (nextF o F (.loose V)) a
    unfold nextF
    rw [hd]
    exact hk
theorem loose_use (d : Nat) {V : Value → World → Prop} (hF : looked ops o F = [(d, V)]) (hw : ∀ u, Region.wanted o (yielded ops (a.put (some d) u).tmps) = true)
    (h : ∃ v, (∀ r u, V u (more w0 r) → constAt P o (a.put (some d) u) (more w0 r) v) ∧ wpLoose P ops w0 Q rest F (a.put o.dst v)) : wpLoose P ops w0 Q (o :: rest) F a := by
  obtain ⟨v, hv, hk⟩ := h
  refine ⟨.val v, fun r => ?_, hk⟩
  rw [hF]
  intro u hu
  show (if _ then _ else _)
  rw [if_pos (hw u)]
  exact loose_of_const (hv r u hu)
end
theorem loose_same {P : Program} {f : FuncId} {args : Array Value} {w : World} {v : Value} (h : Calls P f args w fun e w' => e = .returned v ∧ w = w') : Calls P f args w fun e w' => e = .returned v ∧ More w w' :=
  h.mono fun _ _ ⟨he, hm⟩ => ⟨he, by rw [← hm]; exact More.refl _⟩
end Go.Proofs.YtekhhekkepijoaaGreatDoor

namespace Go.Proofs.YtekhhekkepijoaaGreatDoor
set_option linter.unusedVariables false
open Go.ChangeShapes Go.WideShapes Go.ChangeAt Go.RowKit

/-- How many cells block b has, all of them to be written to. -/
def World.cellsIn (w : World) (b : Nat) : Nat :=
  match w.heap[b]? with
  | some (.cells c _ (0, 0)) => c.size
  | _ => 0
def World.cellsOf (w : World) (b : Nat) : Array Value :=
  match w.heap[b]? with
  | some (.cells c _ _) => c
  | _ => #[]

section
variable (w : World) (r : Rest) (o : Obj) (b : Nat) (c d : Array Value) (t : TypeId) (n : Nat)
@[go_sem] theorem cellsIn_more (h : b < w.heap.size) : World.cellsIn (more w r) b = World.cellsIn w b := by unfold World.cellsIn; rw [heap_more w r b h]
@[go_sem] theorem cellsIn_at (h : b = w.heap.size) : World.cellsIn (w.alloc (.cells c t)) b = c.size := by subst h; unfold World.cellsIn World.alloc; simp
@[go_sem] theorem cellsIn_past (h : b < w.heap.size) : World.cellsIn (w.alloc o) b = World.cellsIn w b := by
  unfold World.cellsIn World.alloc
  simp [Array.getElem?_push, Nat.ne_of_lt h]
@[go_sem] theorem cellsIn_drew : World.cellsIn w.drew b = World.cellsIn w b := rfl
@[go_sem] theorem cellsOf_more (h : b < w.heap.size) : World.cellsOf (more w r) b = World.cellsOf w b := by unfold World.cellsOf; rw [heap_more w r b h]
@[go_sem] theorem cellsOf_at (h : b = w.heap.size) : World.cellsOf (w.alloc (.cells c t)) b = c := by subst h; unfold World.cellsOf World.alloc; simp
@[go_sem] theorem cellsOf_past (h : b < w.heap.size) : World.cellsOf (w.alloc o) b = World.cellsOf w b := by
  unfold World.cellsOf World.alloc
  simp [Array.getElem?_push, Nat.ne_of_lt h]
@[go_sem] theorem cellsOf_drew : World.cellsOf w.drew b = World.cellsOf w b := rfl
@[go_sem] theorem setRow_more (h : b < w.heap.size) : (more w r).setRow b d = more (w.setRow b d) r := by
  unfold more World.setRow
  congr 1
  apply Array.ext_getElem?
  intro k
  simp only [Array.getElem?_modify, Array.getElem?_append, Array.size_modify]
  by_cases hk : k < w.heap.size
  · simp [hk]
  · have : ¬ b = k := by omega
    simp [hk, this]
@[go_sem] theorem setRow_at (h : b = w.heap.size) : (w.alloc (.cells c t)).setRow b d = w.alloc (.cells d t) := by
  subst h
  unfold World.alloc World.setRow
  congr 1
  apply Array.ext_getElem?
  intro k
  simp only [Array.getElem?_modify, Array.getElem?_push]
  by_cases hk : k = w.heap.size
  · subst hk; simp
  · have : ¬ w.heap.size = k := fun e => hk e.symm
    simp [hk, this]
@[go_sem] theorem setRow_past (h : b < w.heap.size) : (w.alloc o).setRow b d = (w.setRow b d).alloc o := by
  unfold World.alloc World.setRow
  congr 1
  apply Array.ext_getElem?
  intro k
  simp only [Array.getElem?_modify, Array.getElem?_push, Array.size_modify]
  by_cases hk : k = w.heap.size
  · subst hk
    simp [Nat.ne_of_lt h]
  · simp [hk]
@[go_sem] theorem setRow_drew : w.drew.setRow b d = (w.setRow b d).drew := rfl
@[go_sem] theorem size_setRow : (w.setRow b d).heap.size = w.heap.size := by simp [World.setRow]
end

def storeWhole (t : TypeId) (a : Addr) (v : Value) : Sem Unit := storeVar t a v
def loadWhole (t : TypeId) (a : Addr) : Sem Value := loadVar t a

theorem cellsIn_some {w : World} {b n : Nat} (h : World.cellsIn w b = n) (h0 : n ≠ 0) : ∃ c t, w.heap[b]? = some (.cells c t (0, 0)) ∧ c.size = n := by
  unfold World.cellsIn at h
  split at h
  · rename_i c t e
    exact ⟨c, t, e, h⟩
  · exact absurd h.symm h0

theorem run_storeWhole {P : Program} {w : World} {t : TypeId} {n b : Nat} {vs : List Value} (hs : (sizeOf t).run P w = .ok n w) (hn : vs.length = n) (h0 : n ≠ 0) (h1 : ∀ v ∈ vs, v.oneCell' = true) (h : World.cellsIn w b = n) :
    (storeWhole t ⟨b, 0, none⟩ (.agg vs.toArray)).run P w = .ok () (w.setRow b vs.toArray) := by
  obtain ⟨c, u, hg, hc⟩ := cellsIn_some h h0
  have e := run_storeCells_from (P := P) b u vs 0 c w hg (by omega) h1
  simp only [List.take_zero, List.nil_append] at e
  unfold storeWhole storeVar
  simp [hs, Value.cells, hn, e]

theorem run_loadWhole {P : Program} {w : World} {t : TypeId} {n b : Nat} (ha : (isAgg t).run P w = .ok true w) (hs : (sizeOf t).run P w = .ok n w) (h0 : n ≠ 0) (h : World.cellsIn w b = n) :
    (loadWhole t ⟨b, 0, none⟩).run P w = .ok (.agg (World.cellsOf w b)) w := by
  obtain ⟨c, u, hg, hc⟩ := cellsIn_some h h0
  have e2 : World.cellsOf w b = c := by unfold World.cellsOf; rw [hg]
  have hsrc : ∀ j v, c.toList[j]? = some v → w.cell? ((⟨b, 0, none⟩ : Addr).add j) = some v := by
    intro j v hj
    have hadd : (⟨b, 0, none⟩ : Addr).add j = ⟨b, j, none⟩ := by unfold Addr.add; split <;> simp_all
    rw [hadd]
    unfold World.cell?
    rw [hg]
    simpa using hj
  have hl := run_loadCells_list (P := P) w ⟨b, 0, none⟩ c.toList hsrc
  unfold loadWhole loadVar
  rw [e2]
  simp only [Array.length_toList, hc, Array.toArray_toList] at hl
  simp [ha, hs, hl]

/-- What is not known to lie at the start of a block of its size (a condition here, not a side condition: simp goes two levels deep alone). -/
def loadElse (t : TypeId) (a : Addr) : Sem Value := loadVar t a
def storeElse (t : TypeId) (a : Addr) (v : Value) : Sem Unit := storeVar t a v

end Go.Proofs.YtekhhekkepijoaaGreatDoor

namespace Go.Proofs.YtekhhekkepijoaaGreatDoor
set_option linter.unusedVariables false
open Go.RowKit

/-! The operation itself: it takes a part of an answer. -/

def takes (o : Oper) : Bool := match o.op with | .extract .. => o.guard.isNone | _ => false
/-! Any order of the region is one of the region that waits, but for that operation's place. -/

section
variable {P : Program} {Q : Exit → Act → World → Prop} {q : Nat} {l : List Oper} {x : Oper}
end

section
variable {P : Program} {Q : Exit → Act → World → Prop}
end

end Go.Proofs.YtekhhekkepijoaaGreatDoor

namespace Go.Proofs.YtekhhekkepijoaaGreatDoor
set_option linter.unusedVariables false
set_option linter.unusedVariables false
open Go.RowKit

theorem any_fuel {P : Program} {ops : Array Oper} {Q : Exit → Act → World → Prop} : ∀ (f : Nat) (m : Array Bool) (a : Act) (w : World), wpAny P .any ops Q f m a w → wpAny P .any ops Q (f + 1) m a w
  | 0, m, a, w, h => ⟨fun _ => h.2, fun i hi => by rw [h.1] at hi; cases hi⟩
  | f + 1, m, a, w, h => ⟨h.1, fun i hi => wpOp_mono (fun a' w' h' => any_fuel f _ a' w' h') (h.2 i hi)⟩
theorem any_more {P : Program} {ops : Array Oper} {Q : Exit → Act → World → Prop} {f : Nat} {m : Array Bool} {a : Act} {w : World} : ∀ (k : Nat), wpAny P .any ops Q f m a w → wpAny P .any ops Q (k + f) m a w
  | 0, h => by rw [Nat.zero_add]; exact h
  | k + 1, h => by rw [Nat.add_right_comm]; exact any_fuel _ _ _ _ (any_more k h)
theorem lets_then {N : Act → World → Prop} {Q : Exit → Act → World → Prop} (h : LetsOut (Exit.then N Q)) : LetsOut Q := h
theorem wp_then {P : Program} {o : Oper} {a : Act} {w : World} {K N : Act → World → Prop} {Q : Exit → Act → World → Prop} (h : o.wp P a w K (Exit.then N Q)) : o.wp P a w K Q := by
  unfold Oper.wp at *
  generalize (execOp a.eval o).run P w = r at *
  cases r with
  | ok n w' =>
    cases n with
    | enter f args =>
      rw [Oper.upon_enter] at h ⊢
      refine h.mono fun e w'' he => ?_
      cases e with
      | returned v => exact he
      | panicked c => exact he
      | outgrown => exact lets_then he
    | _ => exact h
  | halt x w' => cases x <;> exact h
def guardB (l : List Oper) (n : Nat) : Bool := (l.take n).all fun o => match o.guard with
  | some (g, _) => decide (g < n)
  | none => true

theorem any_head {P : Program} {l : List Oper} {n : Nat} {Q : Exit → Act → World → Prop} (H : ∀ j o, l.toArray[j]? = some o → HeapAt l.toArray n l.length 0 j o) (hn : n ≤ l.length) (hG : guardB l n = true)
    (hB : allOk (l.take n).toArray (l.take n) 0 (l.take n) (bits (l.take n)) = true) :
    ∀ (f : Nat) (m mh : Array Bool) (a : Act) (w : World), mh.size = n → m.size = l.length → (∀ j, j < n → m.getD j false = mh.getD j false) → (∀ j, n ≤ j → j < l.length → m.getD j true = false) → Shut l.toArray m →
      wpAny P .any (l.take n).toArray (Exit.then (fun a w => wpList P l.toArray Q (l.drop n) a w) Q) f mh a w → wpAny P .any l.toArray Q (f + (l.drop n).length) m a w := by
  have htn : (l.take n).length = n := by simp; omega
  have hops : ∀ (j : Nat), j < n → (l.take n).toArray[j]? = l.toArray[j]? := fun j hj => by simp [hj]
  have fin : ∀ (m mh : Array Bool) (a : Act) (w : World), m.size = l.length → (∀ j, j < n → m.getD j false = mh.getD j false) → (∀ j, n ≤ j → j < l.length → m.getD j true = false) → (∀ j, j < n → mh.getD j false = true) →
      wpList P l.toArray Q (l.drop n) a w → wpAny P .any l.toArray Q (l.drop n).length m a w := fun m mh a w hs he ht hd h =>
    tail_list H (.inr (by simp)) (l.drop n) n m a w (fun j => by simp [List.getElem?_drop]) (Nat.le_refl _) (by simp; omega) ⟨by simpa using hs, fun j hj _ => by rw [he j hj]; exact hd j hj, fun hp => by simp at hp, fun j hj hjs _ => ht j hj (by simpa using hjs)⟩ h
  intro f
  induction f with
  | zero =>
    intro m mh a w hmh hm he ht hsh h
    rw [Nat.zero_add]
    exact fin m mh a w hm he ht (fun j hj => all_done rfl hB (by rw [htn]; exact hmh) h.1 j (by omega)) h.2
  | succ f ih =>
    intro m mh a w hmh hm he ht hsh h
    by_cases hr : Region.ready .any (l.take n).toArray mh = []
    · exact any_more _ (fin m mh a w hm he ht (fun j hj => all_done rfl hB (by rw [htn]; exact hmh) hr j (by omega)) (h.1 hr))
    · have up : ∀ i, i ∈ Region.ready .any (l.take n).toArray mh → i ∈ Region.ready .any l.toArray m := fun i hi => by
        obtain ⟨hun, o, ho, hall⟩ := mem_ready.1 hi
        have hin : i < n := by
          have := (Array.getElem?_eq_some_iff.1 ho).1
          simp at this
          omega
        rw [hops i hin] at ho
        refine mem_ready.2 ⟨getD_in (by omega) (by rw [he i hin]; exact getD_both hun), o, ho, fun e hh hb => ?_⟩
        have := (H i o ho).back e hh hb
        rw [he e.on (by omega)]
        exact hall e hh hb
      rw [Nat.add_right_comm]
      refine ⟨fun h0 => ?_, fun i hi => ?_⟩
      · exfalso
        obtain ⟨i, hi⟩ := List.exists_mem_of_ne_nil _ hr
        have := up i hi
        rw [h0] at this
        cases this
      · obtain ⟨hun, o, ho, hall⟩ := mem_ready.1 hi
        have hil : i < l.length := by
          have := (Array.getElem?_eq_some_iff.1 ho).1
          simpa using this
        have hin : i < n := by
          refine Nat.lt_of_not_le fun hni => hr ?_
          have hd : ∀ j, j < n → mh.getD j false = true := fun j hj => by
            rw [← he j hj]
            exact shut_bit hsh j i i rfl o ho hall ((H i o ho).tail (by omega) hni j (by omega))
          refine List.eq_nil_iff_forall_not_mem.2 fun k hk => ?_
          obtain ⟨hku, ok, hok, -⟩ := mem_ready.1 hk
          have hkn : k < n := by
            have := (Array.getElem?_eq_some_iff.1 hok).1
            simp at this
            omega
          have := hd k hkn
          rw [getD_both hku] at this
          cases this
        have ho' : (l.take n).toArray[i]? = some o := by rw [hops i hin]; exact ho
        have hi' : i ∈ Region.ready .any (l.take n).toArray mh := by
          refine mem_ready.2 ⟨getD_in (by omega) (by rw [← he i hin]; exact getD_both hun), o, ho', fun e hh hb => ?_⟩
          have := (H i o ho).back e hh hb
          rw [← he e.on (by omega)]
          exact hall e hh hb
        have step : ∀ a' w', wpAny P .any (l.take n).toArray (Exit.then (fun a w => wpList P l.toArray Q (l.drop n) a w) Q) f (mh.setIfInBounds i true) a' w' → wpAny P .any l.toArray Q (f + (l.drop n).length) (m.setIfInBounds i true) a' w' := fun a' w' h' =>
          ih _ _ a' w' (by simpa using hmh) (by simpa using hm) (fun j hj => by
            by_cases hij : i = j
            · subst hij
              simp [hm, hmh, hil, hin]
            · rw [getD_set_ne false hij, getD_set_ne false hij]
              exact he j hj) (fun j hj hjl => by
            rw [getD_set_ne true (by omega)]
            exact ht j hj hjl) (shut_set hsh hi) h'
        have hk := wpOp_mono step (h.2 i hi')
        have hw : Region.wanted o (yielded (l.take n).toArray a.tmps) = Region.wanted o (yielded l.toArray a.tmps) := by
          unfold Region.wanted
          cases hg : o.guard with
          | none => rfl
          | some gw =>
            obtain ⟨g, want⟩ := gw
            have hgn : g < n := by
              have hmem : o ∈ l.take n := by
                have := List.mem_of_getElem? (show (l.take n)[i]? = some o by simpa using ho')
                exact this
              have := List.all_eq_true.1 hG o hmem
              rw [hg] at this
              simpa using this
            have hy : yielded (l.take n).toArray a.tmps g = yielded l.toArray a.tmps g := by
              unfold yielded
              rw [hops g hgn]
            simp only [hy]
        unfold wpOp at hk ⊢
        simp only [ho', ho] at hk ⊢
        rw [hw] at hk
        split
        · rename_i hc
          rw [if_pos hc] at hk
          rcases hk with hk | ⟨hk1, hk2⟩
          · exact .inl (wp_then hk)
          · exact .inr ⟨hk1, lets_then hk2⟩
        · rename_i hc
          rwa [if_neg hc] at hk

theorem wp_loose_tail {P : Program} {id : Nat} {Q : Exit → Act → World → Prop} {a : Act} {w W : World} {l : List Oper} (n : Nat) (hm : P.follows .mixedOrders = true) (hB : heapB l n l.length 0 = true) (hL : looseB (l.take n) = true) (hG : guardB l n = true)
    (hW : ∃ r, { W with drawn := W.drawn + 1 } = more w r) (h : wpLoose P (l.take n).toArray w (fun a' w' => wpList P l.toArray Q (l.drop n) a' w') (l.take n) [] a) : (Code.region id l.toArray true).wp P Q a W := by
  simp only [heapB, Bool.and_eq_true, decide_eq_true_eq] at hB
  obtain ⟨⟨-, hn⟩, hok⟩ := hB
  have H : ∀ j o, l.toArray[j]? = some o → HeapAt l.toArray n l.length 0 j o := fun j o ho => by
    have := heapOk_spec (ops := l.toArray) rfl l 0 _ hok (fun i b hi => by
      rw [bits_eq, Array.getElem?_toList] at hi
      simp [Array.getD_eq_getD_getElem?, hi]) j o (by simpa using ho)
    rwa [Nat.zero_add] at this
  simp only [looseB, quickB, Bool.and_eq_true] at hL
  obtain ⟨⟨hsel, hok'⟩, hon⟩ := hL
  obtain ⟨rs, hl, hS, hF⟩ := loose_extract _ _ _ h
  have htn : (l.take n).length = n := by simp; omega
  have hq := loose_any (Q' := Exit.then (fun a w => wpList P l.toArray Q (l.drop n) a w) Q) (ops := (l.take n).toArray) rfl hsel hok' hon hl hS hF (fun _ _ h => h) n (Array.replicate n false) a { W with drawn := W.drawn + 1 } (by simpa using htn.symm)
    (fun j oj hj hlj => by rw [getD_replicate_false] at hlj; cases hlj)
    ⟨hW, rfl, rfl, fun j o v d _ _ _ hd => (by rw [getD_replicate_false] at hd; cases hd), fun j o V d _ _ _ hd => (by rw [getD_replicate_false] at hd; cases hd), fun d _ => rfl⟩
    (Nat.le_trans List.countP_le_length (by simp; omega))
  refine wp_region_any hm ?_
  have := any_head H hn hG hok' n (Array.replicate l.length false) (Array.replicate n false) a _ (by simp) (by simp) (fun j hj => by rw [getD_replicate_false, getD_replicate_false]) (fun j _ hj => getD_in (by simpa using hj) (getD_replicate_false _ _))
    (fun j oj hj hlj => by rw [getD_replicate_false] at hlj; cases hlj) hq
  have e : n + (l.drop n).length = l.toArray.size := by simp; omega
  rw [e] at this
  exact this
theorem wp_more_loose_tail {P : Program} {id : Nat} {Q : Exit → Act → World → Prop} {a : Act} {w : World} {l : List Oper} (n : Nat) (hm : P.follows .mixedOrders = true) (hB : heapB l n l.length 0 = true) (hL : looseB (l.take n) = true) (hG : guardB l n = true)
    (h : wpLoose P (l.take n).toArray w (fun a' w' => wpList P l.toArray Q (l.drop n) a' w') (l.take n) [] a) : (Code.region id l.toArray true).wp P Q a w :=
  wp_loose_tail n hm hB hL hG ⟨⟨#[], w.drawn + 1⟩, by unfold more; simp⟩ h
theorem wp_more_loose_tail_m {P : Program} {id : Nat} {Q : Exit → Act → World → Prop} {a : Act} {w : World} {s : Rest} {l : List Oper} (n : Nat) (hm : P.follows .mixedOrders = true) (hB : heapB l n l.length 0 = true) (hL : looseB (l.take n) = true) (hG : guardB l n = true)
    (h : wpLoose P (l.take n).toArray w (fun a' w' => wpList P l.toArray Q (l.drop n) a' w') (l.take n) [] a) : (Code.region id l.toArray true).wp P Q a (more w s) :=
  wp_loose_tail n hm hB hL hG ⟨s.draw 1, by rw [← more_drew]; rfl⟩ h
end Go.Proofs.YtekhhekkepijoaaGreatDoor

namespace Go.Proofs.YtekhhekkepijoaaGreatDoor
set_option linter.unusedVariables false
open Go.RowKit

/-- What laying a block of type T answers. -/
def NewRun (P : Program) (T : TypeId) (zs : Array Value) : Prop := ∀ w, (Instr.alloc T true (.tuple #[])).run P w = .ok (.pointer (some ⟨w.heap.size, 0, none⟩)) (w.alloc (.cells zs T))
/-- Each block that the region lays is of a type in tz, is laid in any case, and has a slot among N. -/
def allocB (tz : List (TypeId × Array Value)) (N : Nat) (l : List Oper) : Bool := l.all fun o => match o.op with
  | .alloc T => o.guard.isNone && (tz.any fun p => p.1 == T) && (match o.dst with | some d => decide (d < N) | none => true)
  | _ => true
theorem allocB_at {tz : List (TypeId × Array Value)} {N : Nat} {l : List Oper} (h : allocB tz N l = true) {i : Nat} {o : Oper} (hi : l[i]? = some o) : ∀ T, o.op = .alloc T → o.guard = none ∧ (∃ zs, (T, zs) ∈ tz) ∧ ∀ d, o.dst = some d → d < N := by
  intro T hT
  have h1 := List.all_eq_true.1 h o (List.mem_of_getElem? hi)
  rw [hT] at h1
  simp only [Bool.and_eq_true, Option.isNone_iff_eq_none] at h1
  obtain ⟨⟨h2, h3⟩, h4⟩ := h1
  obtain ⟨⟨T', zs⟩, hp, he⟩ := List.any_eq_true.1 h3
  have : T' = T := by simpa using he
  subst this
  refine ⟨h2, ⟨zs, hp⟩, fun d hd => ?_⟩
  rw [hd] at h4
  simpa using h4
theorem wanted_alloc {tz : List (TypeId × Array Value)} {N : Nat} {l : List Oper} (h : allocB tz N l = true) {i : Nat} {o : Oper} (hi : l[i]? = some o) {T : TypeId} (hT : o.op = .alloc T) (y : Nat → Option Bool) : Region.wanted o y = true := by
  have := (allocB_at h hi T hT).1
  unfold Region.wanted
  rw [this]
/-- The slots of blocks that are laid hold different places. -/
def Far (l : List Oper) (A : Act) : Prop := ∀ (j k : Nat) (oj ok : Oper) (S T : TypeId) (d e : Nat), l[j]? = some oj → l[k]? = some ok → oj.op = .alloc S → ok.op = .alloc T → oj.dst = some d → ok.dst = some e → j ≠ k → A.tmps[d]? ≠ A.tmps[e]?
structure AInv (l : List Oper) (m : Array Bool) (A : Act) (w : World) : Prop where
  new : ∀ (j : Nat) (o : Oper) (T : TypeId) (d : Nat), l[j]? = some o → o.op = .alloc T → o.dst = some d → m.getD j false = true → ∃ b, A.tmps[d]? = some (.pointer (some ⟨b, 0, none⟩)) ∧ b < w.heap.size
  apart : ∀ (j k : Nat) (oj ok : Oper) (S T : TypeId) (d e : Nat), l[j]? = some oj → l[k]? = some ok → oj.op = .alloc S → ok.op = .alloc T → oj.dst = some d → ok.dst = some e → m.getD j false = true → m.getD k false = true → j ≠ k → A.tmps[d]? ≠ A.tmps[e]?
theorem AInv.start (l : List Oper) (n : Nat) (A : Act) (w : World) : AInv l (Array.replicate n false) A w :=
  ⟨fun j o T d _ _ _ h => (by rw [getD_replicate_false] at h; cases h), fun j k oj ok S T d e _ _ _ _ _ _ h => (by rw [getD_replicate_false] at h; cases h)⟩
theorem AInv.far {l : List Oper} {m : Array Bool} {A : Act} {w : World} (h : AInv l m A w) (hall : ∀ j, j < l.length → m.getD j false = true) : Far l A := fun j k oj ok S T d e h1 h2 h3 h4 h5 h6 hne =>
  h.apart j k oj ok S T d e h1 h2 h3 h4 h5 h6 (hall j (List.getElem?_eq_some_iff.1 h1).1) (hall k (List.getElem?_eq_some_iff.1 h2).1) hne
theorem AInv.step {tz : List (TypeId × Array Value)} {N : Nat} {l : List Oper} {m : Array Bool} {A : Act} {w w' : World} (h : AInv l m A w) (hN : onceB l = true) (hA : allocB tz N l = true) {i : Nat} {oi : Oper} (hi : l[i]? = some oi) (hs : A.tmps.size = N) {u : Value} (hm : More w w')
    (hnew : ∀ T, oi.op = .alloc T → u = .pointer (some ⟨w.heap.size, 0, none⟩) ∧ w.heap.size < w'.heap.size) : AInv l (m.setIfInBounds i true) (A.put oi.dst u) w' := by
  have off : ∀ (j : Nat) (o : Oper) (d : Nat), l[j]? = some o → o.dst = some d → j ≠ i → (A.put oi.dst u).tmps[d]? = A.tmps[d]? := fun j o d hj hd hne => put_off _ _ _ _ fun he => hne (onceB_spec l hN j i o oi hj hi hd he)
  have up : w.heap.size ≤ w'.heap.size := by
    obtain ⟨r, rfl⟩ := hm
    rw [size_more]
    omega
  have at_i : ∀ (T : TypeId) (d : Nat), oi.op = .alloc T → oi.dst = some d → (A.put oi.dst u).tmps[d]? = some (.pointer (some ⟨w.heap.size, 0, none⟩)) ∧ w.heap.size < w'.heap.size := fun T d hT hd => by
    obtain ⟨h1, h2⟩ := hnew T hT
    refine ⟨?_, h2⟩
    rw [hd, put_at, if_pos rfl, if_pos (by rw [hs]; exact (allocB_at hA hi T hT).2.2 d hd), h1]
  have old : ∀ (j : Nat) (o : Oper) (T : TypeId) (d : Nat), l[j]? = some o → o.op = .alloc T → o.dst = some d → (m.setIfInBounds i true).getD j false = true → j ≠ i → ∃ b, (A.put oi.dst u).tmps[d]? = some (.pointer (some ⟨b, 0, none⟩)) ∧ b < w.heap.size := fun j o T d hj hT hd hdone hne => by
    rw [getD_set_ne false (Ne.symm hne)] at hdone
    rw [off j o d hj hd hne]
    exact h.new j o T d hj hT hd hdone
  refine ⟨fun j o T d hj hT hd hdone => ?_, fun j k oj ok S T d e hj hk hS hT hd he dj dk hne => ?_⟩
  · by_cases hji : j = i
    · subst hji
      obtain rfl : o = oi := Option.some.inj (hj.symm.trans hi)
      exact ⟨_, at_i T d hT hd⟩
    · obtain ⟨b, h1, h2⟩ := old j o T d hj hT hd hdone hji
      exact ⟨b, h1, by omega⟩
  · by_cases hji : j = i
    · subst hji
      obtain rfl : oj = oi := Option.some.inj (hj.symm.trans hi)
      obtain ⟨b, h1, h2⟩ := old k ok T e hk hT he dk (Ne.symm hne)
      rw [h1, (at_i S d hS hd).1]
      intro hc
      injection hc with hc
      injection hc with hc
      injection hc with hc
      injection hc with hc
      omega
    · by_cases hki : k = i
      · subst hki
        obtain rfl : ok = oi := Option.some.inj (hk.symm.trans hi)
        obtain ⟨b, h1, h2⟩ := old j oj S d hj hS hd dj hji
        rw [h1, (at_i T e hT he).1]
        intro hc
        injection hc with hc
        injection hc with hc
        injection hc with hc
        injection hc with hc
        omega
      · rw [off j oj d hj hd hji, off k ok e hk he hki]
        rw [getD_set_ne false (Ne.symm hji)] at dj
        rw [getD_set_ne false (Ne.symm hki)] at dk
        exact h.apart j k oj ok S T d e hj hk hS hT hd he dj dk hne
/-- A block of its own, its cells as they were laid. -/
def New (T : TypeId) (zs : Array Value) (base : Nat) (u : Value) (w : World) : Prop := ∃ b, u = .pointer (some ⟨b, 0, none⟩) ∧ base ≤ b ∧ w.heap[b]? = some (.cells zs T (0, 0))
theorem New.up {T : TypeId} {zs : Array Value} {base : Nat} : ∀ u w w', More w w' → New T zs base u w → New T zs base u w' := by
  rintro u w w' ⟨r, rfl⟩ ⟨b, rfl, hb, h⟩
  exact ⟨b, rfl, hb, (heap_more w r b (Array.getElem?_eq_some_iff.1 h).1).trans h⟩
theorem wp_of_loose2 {P : Program} {tz : List (TypeId × Array Value)} (hz : ∀ p ∈ tz, NewRun P p.1 p.2) {N : Nat} {o : Oper} (hA : ∀ T, o.op = .alloc T → o.guard = none ∧ (∃ zs, (T, zs) ∈ tz) ∧ ∀ d, o.dst = some d → d < N) {A : Act} {w : World} {V : Value → World → Prop} {K : Act → World → Prop} {Q : Exit → Act → World → Prop} (h : looseAt P o A w V)
    (hk : ∀ u w', More w w' → V u w' → (∀ T, o.op = .alloc T → u = .pointer (some ⟨w.heap.size, 0, none⟩) ∧ w.heap.size < w'.heap.size) → K (A.put o.dst u) w') : o.wp P A w K Q := by
  have hal : ∀ T, o.op = .alloc T → ∃ zs, (execOp A.eval o).run P w = .ok (.value (.pointer (some ⟨w.heap.size, 0, none⟩))) (w.alloc (.cells zs T)) := fun T hT => by
    obtain ⟨zs, hm⟩ := (hA T hT).2.1
    refine ⟨zs, ?_⟩
    have := hz _ hm w
    unfold execOp
    rw [hT]
    simp only
    simp [this, Result.andThen]
  unfold looseAt at h
  unfold Oper.wp
  generalize hr : (execOp A.eval o).run P w = r at *
  cases r with
  | ok n w' =>
    cases n <;> simp only [looseUpon] at h <;> simp only [Oper.upon]
    case value u =>
      refine hk _ _ h.1 h.2 fun T hT => ?_
      obtain ⟨zs, he⟩ := hal T hT
      injection he with e1 e2
      injection e1 with e1
      exact ⟨e1, by rw [e2]; unfold World.alloc; simp⟩
    case skip =>
      refine hk _ _ h.1 h.2 fun T hT => ?_
      obtain ⟨zs, he⟩ := hal T hT
      injection he with e1 e2
      cases e1
    case enter f args =>
      obtain ⟨rfl, hc⟩ := h
      refine hc.mono fun e w'' ⟨u, he, hm, hv⟩ => ?_
      subst he
      refine hk _ _ hm hv fun T hT => ?_
      obtain ⟨zs, he⟩ := hal T hT
      injection he with e1 e2
      cases e1
  | halt x w' => simp only [looseUpon] at h

section
variable {P : Program} {ops : Array Oper} {w0 : World}
theorem apart_any {tz : List (TypeId × Array Value)} (hz : ∀ p ∈ tz, NewRun P p.1 p.2) {Q : Act → World → Prop} {Q' : Exit → Act → World → Prop} {l : List Oper} {rs : List Res} {a0 : Act} (ha : ops = l.toArray) (hsel : Region.noSelect ops = true) (hB : allOk ops l 0 l (bits l) = true) (hN : onceB l = true) {N : Nat} (hA : allocB tz N l = true) (hsN : a0.tmps.size = N) (hl : rs.length = l.length)
    (hS : ∀ i o res, l[i]? = some o → rs[i]? = some res → StepOK P ops w0 o (runA (l.take i) (rs.take i) a0) (runF (l.take i) (rs.take i) []) res)
    (hF : ∀ r, allFits (more w0 r) (runF l rs []) (fun a' => Q a' (more w0 r)) (runA l rs a0)) (hQ : ∀ a w, Q a w → Far l a → Q' .normal a w) :
    ∀ (f : Nat) (m : Array Bool) (A : Act) (w : World), m.size = l.length → Shut ops m → LInv w0 l rs a0 m A w → AInv l m A w → (List.range l.length).countP (fun j => !(m.getD j false)) ≤ f → wpAny P .any ops Q' f m A w := by
  have hops : ∀ (j : Nat), ops[j]? = l[j]? := fun j => by rw [ha]; simp
  -- the end
  have fin : ∀ (m : Array Bool) (A : Act) (w : World), LInv w0 l rs a0 m A w → AInv l m A w → (∀ j, j < l.length → m.getD j false = true) → Q' .normal A w := fun m A w inv ainv hall => by
    obtain ⟨r, rfl⟩ := inv.more
    obtain ⟨a', h1, h2, h3, h4⟩ := allFits_act (A := A) _ _ (fun p hp => by
      rcases runF_mem _ _ _ hp with h | ⟨j, oj, hj, hrj, hd⟩
      · cases h
      · exact inv.loose j oj p.2 p.1 hj hrj hd (hall j (List.getElem?_eq_some_iff.1 hj).1)) (by rw [runA_size, inv.size]) (by rw [runA_defs, inv.defs]) (hF r)
    have hsame : ∀ t, a'.tmps[t]? = A.tmps[t]? := fun t => by
      apply h4
      by_cases hw : ∃ (j : Nat) (oj : Oper), l[j]? = some oj ∧ oj.dst = some t
      · obtain ⟨j, oj, hj, hd⟩ := hw
        have hjr : j < rs.length := by
          rw [hl]
          exact (List.getElem?_eq_some_iff.1 hj).1
        have hdone := hall j (by omega)
        cases hres : rs[j] with
        | val v => exact .inl (inv.val j oj v t hj (by rw [List.getElem?_eq_getElem hjr, hres]) hd hdone).symm
        | loose V => exact .inr ⟨V, runF_has _ _ _ j oj hj (by rw [List.getElem?_eq_getElem hjr, hres]) hd⟩
      · left
        rw [inv.rest t fun j oj hj hd => absurd ⟨j, oj, hj, hd⟩ hw]
        exact runA_keep _ _ _ fun k ok v hk hrk hd => hw ⟨k, ok, hk, hd⟩
    have e : a' = A := by
      obtain ⟨at', ad'⟩ := a'
      obtain ⟨At, Ad⟩ := A
      simp only at h3 hsame
      subst h3
      have : at' = At := Array.ext_getElem? hsame
      rw [this]
    rw [← e]
    exact hQ _ _ h1 (e ▸ ainv.far hall)
  intro f
  induction f with
  | zero =>
    intro m A w hms hsh inv ainv hc
    have hall : ∀ j, j < l.length → m.getD j false = true := fun j hj => by
      have h0 : (List.range l.length).countP (fun j => !(m.getD j false)) = 0 := by omega
      have := List.countP_eq_zero.1 h0 j (by simpa using hj)
      simpa using this
    refine ⟨List.eq_nil_iff_forall_not_mem.2 fun i hi => ?_, fin m A w inv ainv hall⟩
    obtain ⟨hun, oi, hoi, _⟩ := mem_ready.1 hi
    have hlt : i < l.length := by
      rw [hops] at hoi
      exact (List.getElem?_eq_some_iff.1 hoi).1
    have h1 := hall i hlt
    rw [getD_both hun] at h1
    cases h1
  | succ f ih =>
    intro m A w hms hsh inv ainv hc
    refine ⟨fun h => fin m A w inv ainv (all_done ha hB hms h), fun i hi => ?_⟩
    obtain ⟨hun, oi, hoi, hall⟩ := mem_ready.1 hi
    have hil : l[i]? = some oi := by rw [← hops]; exact hoi
    have hlt : i < l.length := (List.getElem?_eq_some_iff.1 hil).1
    obtain ⟨g1, g2⟩ := agree_at ha hl hB hN inv hsh hil hi
    have hir : i < rs.length := by omega
    have hres0 : rs[i]? = some rs[i] := List.getElem?_eq_getElem hir
    have hst := hS i oi rs[i] hil hres0
    have hcnt : (List.range l.length).countP (fun j => !((m.setIfInBounds i true).getD j false)) ≤ f := by
      have := countP_less (i := i) (p := fun j => !(m.getD j false)) (q := fun j => !((m.setIfInBounds i true).getD j false)) (List.range l.length) (fun j hj => by
        simp only [Bool.not_eq_true'] at hj ⊢
        cases hmj : m.getD j false
        · rfl
        · rw [getD_set_true hmj] at hj; cases hj) (by simpa using hlt) (by simp only [Bool.not_eq_true']; exact getD_both hun) (by simp [hms, hlt])
      omega
    -- behind the operation
    have next : ∀ (u : Value) (w'' : World), More w w'' → (∀ v, rs[i] = .val v → u = v) → (∀ V, rs[i] = .loose V → V u w'' ∧ ∃ d, oi.dst = some d ∧ d < A.tmps.size) → LInv w0 l rs a0 (m.setIfInBounds i true) (A.put oi.dst u) w'' := fun u w'' hmo hval hlo => by
      have old : ∀ (j : Nat) (o : Oper) (d : Nat), l[j]? = some o → o.dst = some d → j ≠ i → oi.dst ≠ some d := fun j o d hj hd hne he => hne (onceB_spec l hN j i o oi hj hil hd he)
      refine ⟨?_, by rw [put_size, inv.size], by rw [put_defs, inv.defs], fun j o v d hj hrj hd hdone => ?_, fun j o V d hj hrj hd hdone => ?_, fun d hd => ?_⟩
      · obtain ⟨r, rfl⟩ := inv.more
        obtain ⟨s, rfl⟩ := hmo
        exact ⟨_, more_more _ _ _⟩
      · by_cases hji : j = i
        · subst hji
          obtain rfl : o = oi := Option.some.inj (hj.symm.trans hil)
          have hv : rs[j] = .val v := Option.some.inj (hres0.symm.trans hrj)
          rw [hval v hv, hd, put_at, if_pos rfl]
          have hsz : A.tmps.size = (runA (l.take j) (rs.take j) a0).tmps.size := by rw [runA_size, inv.size]
          have e1 : runA l rs a0 = runA (l.drop (j + 1)) (rs.drop (j + 1)) ((runA (l.take j) (rs.take j) a0).put (some d) v) := by
            rw [runA_part a0 j hl, List.drop_eq_getElem_cons hlt, List.drop_eq_getElem_cons hir, runA]
            have e2 : l[j] = o := Option.some.inj ((List.getElem?_eq_getElem hlt).symm.trans hil)
            rw [e2, hv, nextA, hd]
          rw [e1, runA_keep _ _ _ fun k ok v' hk hrk hdk => (by
            rw [List.getElem?_drop] at hk
            have := onceB_spec l hN j (j + 1 + k) o ok hil hk hd hdk
            omega), put_at, if_pos rfl, hsz]
        · rw [put_off _ _ _ _ (old j o d hj hd hji)]
          rw [getD_set_ne false (Ne.symm hji)] at hdone
          exact inv.val j o v d hj hrj hd hdone
      · by_cases hji : j = i
        · subst hji
          obtain rfl : o = oi := Option.some.inj (hj.symm.trans hil)
          obtain ⟨h1, d', hd', hlt'⟩ := hlo V (Option.some.inj (hres0.symm.trans hrj))
          rw [hd] at hd'
          obtain rfl := Option.some.inj hd'
          exact ⟨u, by rw [hd, put_at, if_pos rfl, if_pos hlt'], h1⟩
        · rw [getD_set_ne false (Ne.symm hji)] at hdone
          obtain ⟨u', h1, h2⟩ := inv.loose j o V d hj hrj hd hdone
          have hmono := (hS j o (.loose V) hj hrj).2.1
          exact ⟨u', by rw [put_off _ _ _ _ (old j o d hj hd hji)]; exact h1, hmono _ _ _ hmo h2⟩
      · have hne : oi.dst ≠ some d := fun he => by
          have := hd i oi hil he
          rw [show (m.setIfInBounds i true).getD i false = true by simp [hms, hlt]] at this
          cases this
        rw [put_off _ _ _ _ hne]
        refine inv.rest d fun j o hj hd' => ?_
        have := hd j o hj hd'
        cases hmj : m.getD j false
        · rfl
        · rw [getD_set_true hmj] at this; cases this
    have go : ∀ (u : Value) (w'' : World), More w w'' → (∀ v, rs[i] = .val v → u = v) → (∀ V, rs[i] = .loose V → V u w'' ∧ ∃ d, oi.dst = some d ∧ d < A.tmps.size) → (∀ T, oi.op = .alloc T → u = .pointer (some ⟨w.heap.size, 0, none⟩) ∧ w.heap.size < w''.heap.size) → wpAny P .any ops Q' f (m.setIfInBounds i true) (A.put oi.dst u) w'' := fun u w'' h1 h2 h3 h4 =>
      ih _ _ _ (by simpa using hms) (shut_set hsh hi) (next u w'' h1 h2 h3) (ainv.step hN hA hil (by rw [inv.size, hsN]) h1 h4) hcnt
    unfold wpOp
    simp only [hoi]
    obtain ⟨r, hr⟩ := inv.more
    subst hr
    have hsz : (runA (l.take i) (rs.take i) a0).tmps.size = A.tmps.size := by rw [runA_size, inv.size]
    cases hres : rs[i] with
    | val v =>
      rw [hres] at hst
      obtain ⟨a', h1, h2, h3, h4⟩ := allFits_act (A := A) _ _ g2 hsz (by rw [runA_defs, inv.defs]) (hst r)
      have hag : ∀ t ∈ oi.looksAt ops, a'.tmps[t]? = A.tmps[t]? := fun t ht => h4 t (g1 t ht)
      rw [wanted_agree oi hag] at h1
      split
      · rename_i hw
        rw [if_pos hw] at h1
        refine .inl ?_
        unfold looseAt at h1
        rw [exec_agree oi (Region.noSelect_spec hsel i oi · · hoi) hag] at h1
        exact wp_of_loose2 hz (allocB_at hA hil) h1 fun u w' hm hu hnew => go u w' hm (fun v' hv' => by rw [hres] at hv'; cases hv'; exact hu) (fun V hV => by rw [hres] at hV; cases hV) hnew
      · rename_i hw
        rw [if_neg hw] at h1
        exact go undef _ (More.refl _) (fun v' hv' => by rw [hres] at hv'; cases hv'; exact h1.symm) (fun V hV => by rw [hres] at hV; cases hV) (fun T hT => absurd (wanted_alloc hA hil hT _) hw)
    | loose V =>
      rw [hres] at hst
      obtain ⟨⟨d, hd, hdl⟩, hmono, hstep⟩ := hst
      obtain ⟨a', h1, h2, h3, h4⟩ := allFits_act (A := A) _ _ g2 hsz (by rw [runA_defs, inv.defs]) (hstep r)
      have hag : ∀ t ∈ oi.looksAt ops, a'.tmps[t]? = A.tmps[t]? := fun t ht => h4 t (g1 t ht)
      rw [wanted_agree oi hag] at h1
      rw [if_pos h1.1]
      refine .inl ?_
      have h5 := h1.2
      unfold looseAt at h5
      rw [exec_agree oi (Region.noSelect_spec hsel i oi · · hoi) hag] at h5
      exact wp_of_loose2 hz (allocB_at hA hil) h5 fun u w' hm hu hnew => go u w' hm (fun v' hv' => by rw [hres] at hv'; cases hv') (fun V' hV => by rw [hres] at hV; cases hV; exact ⟨hu, d, hd, by rw [← hsz]; exact hdl⟩) hnew
end
theorem wp_apart_tail {P : Program} {id : Nat} {Q : Exit → Act → World → Prop} {a : Act} {w W : World} {l : List Oper} (n : Nat) (tz : List (TypeId × Array Value)) (hz : ∀ p ∈ tz, NewRun P p.1 p.2) (hm : P.follows .mixedOrders = true) (hB : heapB l n l.length 0 = true) (hL : looseB (l.take n) = true) (hG : guardB l n = true) {N : Nat} (hA : allocB tz N (l.take n) = true) (hsN : a.tmps.size = N)
    (hW : ∃ r, { W with drawn := W.drawn + 1 } = more w r) (h : wpLoose P (l.take n).toArray w (fun a' w' => Far (l.take n) a' → wpList P l.toArray Q (l.drop n) a' w') (l.take n) [] a) : (Code.region id l.toArray true).wp P Q a W := by
  simp only [heapB, Bool.and_eq_true, decide_eq_true_eq] at hB
  obtain ⟨⟨-, hn⟩, hok⟩ := hB
  have H : ∀ j o, l.toArray[j]? = some o → HeapAt l.toArray n l.length 0 j o := fun j o ho => by
    have := heapOk_spec (ops := l.toArray) rfl l 0 _ hok (fun i b hi => by
      rw [bits_eq, Array.getElem?_toList] at hi
      simp [Array.getD_eq_getD_getElem?, hi]) j o (by simpa using ho)
    rwa [Nat.zero_add] at this
  simp only [looseB, quickB, Bool.and_eq_true] at hL
  obtain ⟨⟨hsel, hok'⟩, hon⟩ := hL
  obtain ⟨rs, hl, hS, hF⟩ := loose_extract _ _ _ h
  have htn : (l.take n).length = n := by simp; omega
  have hq := apart_any hz (Q := fun a' w' => Far (l.take n) a' → wpList P l.toArray Q (l.drop n) a' w') (Q' := Exit.then (fun a w => wpList P l.toArray Q (l.drop n) a w) Q) (ops := (l.take n).toArray) rfl hsel hok' hon hA hsN hl hS hF (fun _ _ h hf => h hf) n (Array.replicate n false) a { W with drawn := W.drawn + 1 } (by simpa using htn.symm)
    (fun j oj hj hlj => by rw [getD_replicate_false] at hlj; cases hlj)
    ⟨hW, rfl, rfl, fun j o v d _ _ _ hd => (by rw [getD_replicate_false] at hd; cases hd), fun j o V d _ _ _ hd => (by rw [getD_replicate_false] at hd; cases hd), fun d _ => rfl⟩ (AInv.start _ _ _ _)
    (Nat.le_trans List.countP_le_length (by simp; omega))
  refine wp_region_any hm ?_
  have := any_head H hn hG hok' n (Array.replicate l.length false) (Array.replicate n false) a _ (by simp) (by simp) (fun j hj => by rw [getD_replicate_false, getD_replicate_false]) (fun j _ hj => getD_in (by simpa using hj) (getD_replicate_false _ _))
    (fun j oj hj hlj => by rw [getD_replicate_false] at hlj; cases hlj) hq
  have e : n + (l.drop n).length = l.toArray.size := by simp; omega
  rw [e] at this
  exact this
theorem wp_more_apart {P : Program} {id : Nat} {Q : Exit → Act → World → Prop} {a : Act} {w : World} {l : List Oper} (n N : Nat) (tz : List (TypeId × Array Value)) (hz : ∀ p ∈ tz, NewRun P p.1 p.2) (hm : P.follows .mixedOrders = true) (hB : heapB l n l.length 0 = true) (hL : looseB (l.take n) = true) (hG : guardB l n = true) (hA : allocB tz N (l.take n) = true) (hsN : a.tmps.size = N)
    (h : wpLoose P (l.take n).toArray w (fun a' w' => Far (l.take n) a' → wpList P l.toArray Q (l.drop n) a' w') (l.take n) [] a) : (Code.region id l.toArray true).wp P Q a w :=
  wp_apart_tail n tz hz hm hB hL hG hA hsN ⟨⟨#[], w.drawn + 1⟩, by unfold more; simp⟩ h
theorem wp_more_apart_m {P : Program} {id : Nat} {Q : Exit → Act → World → Prop} {a : Act} {w : World} {s : Rest} {l : List Oper} (n N : Nat) (tz : List (TypeId × Array Value)) (hz : ∀ p ∈ tz, NewRun P p.1 p.2) (hm : P.follows .mixedOrders = true) (hB : heapB l n l.length 0 = true) (hL : looseB (l.take n) = true) (hG : guardB l n = true) (hA : allocB tz N (l.take n) = true) (hsN : a.tmps.size = N)
    (h : wpLoose P (l.take n).toArray w (fun a' w' => Far (l.take n) a' → wpList P l.toArray Q (l.drop n) a' w') (l.take n) [] a) : (Code.region id l.toArray true).wp P Q a (more w s) :=
  wp_apart_tail n tz hz hm hB hL hG hA hsN ⟨s.draw 1, by rw [← more_drew]; rfl⟩ h
/-- One block of such a region. -/
theorem loose_alloc {P : Program} {ops : Array Oper} {w0 : World} {Q : Act → World → Prop} {o : Oper} {rest : List Oper} {F : FL} {a : Act} (d : Nat) (T : TypeId) (zs : Array Value) (hz : NewRun P T zs) (ho : o.op = .alloc T) (hg : o.guard = none) (hd : o.dst = some d) (hF : looked ops o F = []) (hs : d < a.tmps.size)
    (hk : wpLoose P ops w0 Q rest ((d, New T zs w0.heap.size) :: F) a) : wpLoose P ops w0 Q (o :: rest) F a := by
  refine loose_make d (New T zs w0.heap.size) hd hF hs (by unfold Region.wanted; rw [hg]) New.up (fun r => ?_) hk
  have hr : (execOp a.eval o).run P (more w0 r) = .ok (.value (.pointer (some ⟨(more w0 r).heap.size, 0, none⟩))) ((more w0 r).alloc (.cells zs T)) := by
    have := hz (more w0 r)
    unfold execOp
    rw [ho]
    simp only
    simp [this, Result.andThen]
  unfold looseAt
  rw [hr]
  exact ⟨(More.refl _).alloc _, _, rfl, by rw [size_more]; omega, heap_alloc_new _ _⟩
/-- A struct goes into a block, at once: what is known of the block is that it is there. -/
theorem wpList_store_new {P : Program} {ops : Array Oper} {Q : Exit → Act → World → Prop} {a : Act} {W : World} {rest : List Oper} {o : Oper} (T : TypeId) (p x : Operand) (n b : Nat) (c : Array Value) (vs : List Value) (hop : o.op = .store T p x) (hg : o.guard = none) (hd : o.dst = none) (hp : a.eval p = .pointer (some ⟨b, 0, none⟩)) (hx : a.eval x = .agg vs.toArray)
    (hs : (sizeOf T).run P W = .ok n W) (hn : vs.length = n) (h0 : n ≠ 0) (h1 : ∀ v ∈ vs, v.oneCell' = true) (hb : W.heap[b]? = some (.cells c T (0, 0))) (hc : c.size = n) (hK : wpList P ops Q rest a (W.setRow b vs.toArray)) : wpList P ops Q (o :: rest) a W := by
  refine wpList_plain hg fun K hK' => ?_
  have hr := run_storeWhole (P := P) (w := W) (t := T) (b := b) (vs := vs) hs hn h0 h1 (by unfold World.cellsIn; rw [hb]; exact hc)
  have he : (execOp a.eval o).run P W = .ok .skip (W.setRow b vs.toArray) := by
    unfold storeWhole at hr
    unfold execOp
    rw [hop]
    simp only [hp, hx]
    simp [Instr.storeAt, Instr.sureAddr, hr]
  unfold Oper.wp
  rw [he]
  show K (a.put o.dst undef) _
  rw [hd]
  exact hK' _ _ hK
theorem heap_setRow {w : World} {b : Nat} {c d : Array Value} {T : TypeId} (h : w.heap[b]? = some (.cells c T (0, 0))) : (w.setRow b d).heap[b]? = some (.cells d T (0, 0)) := setRow_heap _ _ c _ T (0, 0) h
theorem more_setRow {w W : World} {b : Nat} {d : Array Value} (h : More w W) (hb : w.heap.size ≤ b) : More w (W.setRow b d) := more_of_below (h.below.trans ⟨rfl, rfl, rfl, by simp, fun k hk => setRow_other _ _ _ _ (by omega)⟩)
/-- A block's cells, one by one. -/
theorem cell_of {w : World} {b : Nat} {c : Array Value} {T : TypeId} (h : w.heap[b]? = some (.cells c T (0, 0))) (j : Nat) {u : Value} (hu : c[j]? = some u) : w.cell? ⟨b, j, none⟩ = some u := by
  simp only [World.cell?, h]
  simpa using hu
end Go.Proofs.YtekhhekkepijoaaGreatDoor

namespace Go
set_option linter.unusedVariables false

/-- By a goto to label l: J; by one to another label: the code behind that label, from which no goto but to l is met. -/
def Exit.hub (P : Program) (c : Code) (l : Nat) (J : Act → World → Prop) (Q : Exit → Act → World → Prop) : Exit → Act → World → Prop
  | .goto l', a, w => (l' = l ∧ J a w) ∨ (∃ r, findLabel c l' = some r ∧ r.wp P (Exit.jump l J Q) a w)
  | e, a, w => Q e a w

section
variable {P : Program} {a : Act} {w : World} {Q : Exit → Act → World → Prop}
theorem wp_scope_hub {c rest : Code} (l : Nat) (J : Act → World → Prop) (μ : Act → World → Nat) (hf : findLabel c l = some rest)
    (first : c.wp P (Exit.hub P c l J Q) a w)
    (pass : ∀ a w, J a w → rest.wp P (Exit.hub P c l (fun a' w' => J a' w' ∧ μ a' w' < μ a w) Q) a w) : (Code.scope c).wp P Q a w := by
  intro b k cs
  have hgo : ∀ {l' : Nat} {r : Code}, findLabel c l' = some r → gotoIn l' (.inScope c :: k) = some (.code r :: .inScope c :: k) := fun h => by simp [gotoIn, h]
  -- what comes of a stretch that may go onward once
  have onward : ∀ (J' : Act → World → Prop) (m : Machine) (e : Exit) (a₁ : Act) (w₁ : World), Exit.hub P c l J' Q e a₁ w₁ → Arrives P m b (.inScope c :: k) cs e a₁ w₁ →
      ∃ e a' w', Exit.jump l J' Q e a' w' ∧ Arrives P m b (.inScope c :: k) cs e a' w' := by
    intro J' m e a₁ w₁ hq harr
    cases e with
    | goto l' =>
      rcases hq with ⟨rfl, hJ⟩ | ⟨r, hr, hw⟩
      · exact ⟨.goto l', a₁, w₁, ⟨rfl, hJ⟩, harr⟩
      · obtain ⟨e₂, a₂, w₂, hq₂, harr₂⟩ := hw b (.inScope c :: k) cs
        exact ⟨e₂, a₂, w₂, hq₂, .of_steps (harr _ (hgo hr)) harr₂⟩
    | normal => exact ⟨.normal, a₁, w₁, hq, harr⟩
    | exit id => exact ⟨.exit id, a₁, w₁, hq, harr⟩
    | ret => exact ⟨.ret, a₁, w₁, hq, harr⟩
    | panic ch => exact ⟨.panic ch, a₁, w₁, hq, harr⟩
    | outgrown => exact ⟨.outgrown, a₁, w₁, hq, harr⟩
  have key : ∀ n a w, μ a w = n → J a w → ∃ e a' w', Q e a' w' ∧ Arrives P (lone (b.at a (.code rest :: .inScope c :: k)) cs w) b k cs e a' w' := by
    intro n
    induction n using Nat.strongRecOn with
    | _ n ih =>
      intro a w hn hJ
      obtain ⟨e₀, a₀, w₀, hq₀, harr₀⟩ := pass a w hJ b (.inScope c :: k) cs
      obtain ⟨e, a₁, w₁, hq, harr⟩ := onward _ _ e₀ a₀ w₀ hq₀ harr₀
      cases e with
      | normal => exact ⟨.normal, a₁, w₁, hq, Steps.trans harr (.one step_inScope)⟩
      | exit id => exact ⟨.exit id, a₁, w₁, hq, fun k' hk => harr k' (by simp [exitTo, hk])⟩
      | goto l' =>
        obtain ⟨rfl, hJ', hlt⟩ := hq
        obtain ⟨e₂, a₂, w₂, hq₂, harr₂⟩ := ih _ (by omega) a₁ w₁ rfl hJ'
        exact ⟨e₂, a₂, w₂, hq₂, .of_steps (harr _ (hgo hf)) harr₂⟩
      | ret => exact ⟨.ret, a₁, w₁, hq, harr⟩
      | panic ch => exact ⟨.panic ch, a₁, w₁, hq, harr⟩
      | outgrown => exact ⟨.outgrown, a₁, w₁, hq, harr⟩
  obtain ⟨e₀, a₀, w₀, hq₀, harr₀⟩ := first b (.inScope c :: k) cs
  obtain ⟨e, a₁, w₁, hq, harr⟩ := onward _ _ e₀ a₀ w₀ hq₀ harr₀
  cases e with
  | normal => exact ⟨.normal, a₁, w₁, hq, .head step_scope (Steps.trans harr (.one step_inScope))⟩
  | exit id => exact ⟨.exit id, a₁, w₁, hq, fun k' hk => .head step_scope (harr k' (by simp [exitTo, hk]))⟩
  | goto l' =>
    obtain ⟨rfl, hJ'⟩ := hq
    obtain ⟨e₂, a₂, w₂, hq₂, harr₂⟩ := key _ a₁ w₁ rfl hJ'
    exact ⟨e₂, a₂, w₂, hq₂, .of_steps (.head step_scope (harr _ (hgo hf))) harr₂⟩
  | ret => exact ⟨.ret, a₁, w₁, hq, .of_steps (.one step_scope) harr⟩
  | panic ch => exact ⟨.panic ch, a₁, w₁, hq, .of_steps (.one step_scope) harr⟩
  | outgrown => exact ⟨.outgrown, a₁, w₁, hq, .of_steps (.one step_scope) harr⟩
/-- The same, said of what stands behind the label: it is entered from above, and come back to. -/
theorem wp_scope_hub2 {c R : Code} (l : Nat) (J : Act → World → Prop) (μ : Act → World → Nat) (hf : findLabel c l = some (Code.seq .skip R))
    (pass : ∀ (J' : Act → World → Prop) a w, J a w → (∀ a' w', J a' w' → μ a' w' < μ a w → J' a' w') → R.wp P (Exit.hub P c l J' Q) a w)
    (first : (∀ a w, J a w → R.wp P (Exit.hub P c l J Q) a w) → c.wp P (Exit.hub P c l J Q) a w) : (Code.scope c).wp P Q a w :=
  wp_scope_hub l J μ hf (first fun a w h => pass J a w h (fun _ _ h _ => h)) (fun a w h => wp_seq (wp_skip (pass _ a w h (fun _ _ h1 h2 => ⟨h1, h2⟩))))
/-- The same, with the ways out under a name: what is said of them stands aside. -/
theorem wp_scope_hub3 {c R : Code} (l : Nat) (J : Act → World → Prop) (μ : Act → World → Nat) (hf : findLabel c l = some (Code.seq .skip R))
    (pass : ∀ (E E' : Exit → Act → World → Prop) a w, J a w → RowKit.Hid (∀ a' w', J a' w' → μ a' w' < μ a w → E (.goto l) a' w' ∧ E' (.goto l) a' w') → RowKit.Hid (∀ a' w', Q .ret a' w' → E .ret a' w' ∧ E' .ret a' w') →
      RowKit.Hid (∀ l' r a' w', findLabel c l' = some r → r.wp P E' a' w' → E (.goto l') a' w') → R.wp P E a w)
    (first : (∀ a w, J a w → R.wp P (Exit.hub P c l J Q) a w) → c.wp P (Exit.hub P c l J Q) a w) : (Code.scope c).wp P Q a w := by
  refine wp_scope_hub2 l J μ hf (fun J' a w hJ hJ' => ?_) first
  exact pass (Exit.hub P c l J' Q) (Exit.jump l J' Q) a w hJ (show ∀ a' w', _ → _ → _ from fun a' w' h1 h2 => ⟨Or.inl ⟨rfl, hJ' a' w' h1 h2⟩, ⟨rfl, hJ' a' w' h1 h2⟩⟩) (show ∀ a' w', _ → _ from fun a' w' h => ⟨h, h⟩) (show ∀ l' r a' w', _ → _ → _ from fun l' r a' w' h1 h2 => Or.inr ⟨r, h1, h2⟩)
/-- Up to here, and no further: what comes behind is not to be looked at. -/
theorem wp_seq_hid {A B : Code} (h : A.wp P (Exit.then (fun a w => RowKit.Hid (B.wp P Q a w)) Q) a w) : (Code.seq A B).wp P Q a w := wp_seq h
end
section
variable {P : Program} {c : Code} {Q : Exit → Act → World → Prop} {J : Act → World → Prop} {a : Act} {w : World} {l : Nat}
@[go_sem] theorem Exit.jump_normal' : Exit.jump l J Q .normal a w = Q .normal a w := rfl
@[go_sem] theorem Exit.jump_exit' (id : Nat) : Exit.jump l J Q (.exit id) a w = Q (.exit id) a w := rfl
@[go_sem] theorem Exit.jump_ret' : Exit.jump l J Q .ret a w = Q .ret a w := rfl
@[go_sem] theorem Exit.hub_normal : Exit.hub P c l J Q .normal a w = Q .normal a w := rfl
@[go_sem] theorem Exit.hub_exit (id : Nat) : Exit.hub P c l J Q (.exit id) a w = Q (.exit id) a w := rfl
@[go_sem] theorem Exit.hub_ret : Exit.hub P c l J Q .ret a w = Q .ret a w := rfl
end
end Go
