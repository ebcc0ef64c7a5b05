/-
  Slices of intervals: which intervals a slice's cells hold in a world; sums of powers and slopes, in plain numbers.
  A slice of numbers among the arguments; a row that the call itself makes and appends to, told apart from others.
  Whole numbers as floating-point numbers of 64 bits, in which they are exact: what a word of a whole number reads, what sums, products, comparisons of such give.
  Words of whole numbers with a 0 of either sign; what a number is that is its own whole part; operations on complex numbers of such parts, as the walk meets them.
  The contracts of package num, and of the plain saying of chapter 1.
  The contracts of the numbers that are handed in: any number as a number of steps.
  The calls of package gauss, at whole numbers and at those that are none.
  The contracts of package iv: each call answers what the plain interval of the same name is, and makes no more than memory of its own.
  The contracts of what the statements of chapter 1 lean on: the plain saying of the chapter, and the numbers that are handed in.
  The contracts of the plain saying of chapter 2: each call answers what the plain interval of the same name is.
-/
import Derived.Test.YtgikkcnpnnbgdaaGreatDoorGb
import Derived.Test.YtgikkcnpnnbgdaaGreatDoorGa
import Derived.ArgAppend
import Derived.ProofKit
import Derived.OpenShut
import Derived.WalkKit
import Derived.Carry
import Derived.Laws.FloatArith
import Derived.Laws.ComplexArith
import Derived.Laws.Cover2
import Derived.Laws.Cover3
import Derived.Test.YtgikkcnpnnbgdaaGreatDoorRows
import Derived.Outline
import Derived.Lib.Hide
import Derived.Laws.Externs
import Derived.WalkLawsBesides

namespace Go.Proofs.YtgikkcnpnnbgdaaGreatDoor
set_option linter.unusedVariables false
open Go.RowKit

/-- The cells of the slice v hold the intervals l. -/
def Row (w : World) (v : Value) (l : List Iv) : Prop :=
  (v = .slice none 0 0 ∧ l = []) ∨ ∃ g o c, v = .slice (some ⟨g, o, none⟩) l.length c ∧ ∀ k a, l[k]? = some a →
    w.cell? ⟨g, o + k * 3, none⟩ = some (.int .i64 a.lo) ∧ w.cell? ⟨g, o + k * 3 + 1, none⟩ = some (.int .i64 a.hi) ∧ w.cell? ⟨g, o + k * 3 + 2, none⟩ = some (.bool a.no)
theorem Row.nil (w : World) : Row w (.slice none 0 0) [] := .inl ⟨rfl, rfl⟩
theorem Row.keep {w w' : World} {v : Value} {l : List Iv} (h : Row w v l) (hb : ∀ k, k < w.heap.size → w'.heap[k]? = w.heap[k]?) : Row w' v l := by
  rcases h with h | ⟨g, o, c, hv, hc⟩
  · exact .inl h
  · refine .inr ⟨g, o, c, hv, fun k a hk => ?_⟩
    obtain ⟨h1, h2, h3⟩ := hc k a hk
    have hg : g < w.heap.size := World.block_lt_of_cell? w _ h1
    have e : ∀ n, w'.cell? ⟨g, n, none⟩ = w.cell? ⟨g, n, none⟩ := fun n => World.cell?_of_block (hb g hg)
    rw [e, e, e]
    exact ⟨h1, h2, h3⟩
theorem Row.more {w : World} {v : Value} {l : List Iv} (h : Row w v l) {r : Rest} : Row (more w r) v l := h.keep fun k hk => heap_more w r k hk
theorem Row.plus {w : World} {v : Value} {l : List Iv} {r s : Rest} (h : Row (_root_.Go.Proofs.YtgikkcnpnnbgdaaGreatDoor.more w r) v l) : Row (_root_.Go.Proofs.YtgikkcnpnnbgdaaGreatDoor.more w (r.plus s)) v l := by
  rw [← more_more]
  exact h.more
theorem Row.alloc {w : World} {v : Value} {l : List Iv} (h : Row w v l) {o : Obj} : Row (w.alloc o) v l := h.keep fun k hk => Below.heap_alloc w o k hk
theorem Row.drew {w : World} {v : Value} {l : List Iv} (h : Row w v l) : Row w.drew v l := h.keep fun _ _ => rfl
theorem Row.drewN {w : World} {v : Value} {l : List Iv} (h : Row w v l) {n : Nat} : Row (w.drewN n) v l := h.keep fun _ _ => rfl
theorem Row.up {w w' : World} {v : Value} {l : List Iv} (h : Row w v l) (hm : More w w') : Row w' v l := by
  obtain ⟨r, rfl⟩ := hm
  exact h.more

/-- One interval's three cells; those of a list. -/
def cells1 (a : Iv) : List Value := [.int .i64 a.lo, .int .i64 a.hi, .bool a.no]
def cellsL : List Iv → List Value
  | [] => []
  | a :: r => cells1 a ++ cellsL r
theorem cellsL_length : ∀ l : List Iv, (cellsL l).length = l.length * 3
  | [] => rfl
  | a :: r => by simp [cellsL, cells1, cellsL_length r]; omega
theorem cellsL_append : ∀ l m : List Iv, cellsL (l ++ m) = cellsL l ++ cellsL m
  | [], m => rfl
  | a :: r, m => by simp [cellsL, cellsL_append r m]
theorem cellsL_at : ∀ (l : List Iv) (k : Nat) (a : Iv), l[k]? = some a →
    (cellsL l)[k * 3]? = some (.int .i64 a.lo) ∧ (cellsL l)[k * 3 + 1]? = some (.int .i64 a.hi) ∧ (cellsL l)[k * 3 + 2]? = some (.bool a.no)
  | [], k, a, h => by simp at h
  | b :: r, 0, a, h => by
    simp at h
    subst h
    simp [cellsL, cells1]
  | b :: r, k + 1, a, h => by
    have := cellsL_at r k a (by simpa using h)
    simp only [cellsL, cells1, List.cons_append, List.nil_append]
    rw [show (k + 1) * 3 = k * 3 + 1 + 1 + 1 by omega, show k * 3 + 1 + 1 + 1 + 1 = (k * 3 + 1) + 1 + 1 + 1 by omega, show k * 3 + 1 + 1 + 1 + 2 = (k * 3 + 2) + 1 + 1 + 1 by omega]
    simpa using this
theorem cellsL_one (l : List Iv) : ∀ u ∈ cellsL l, u.oneCell' = true := by
  induction l with
  | nil => intro u hu; simp [cellsL] at hu
  | cons a r ih =>
    intro u hu
    simp only [cellsL, cells1, List.mem_append, List.mem_cons, List.not_mem_nil, or_false] at hu
    rcases hu with (rfl | rfl | rfl) | hu
    · rfl
    · rfl
    · rfl
    · exact ih u hu
/-- A row of cells that begins with those of l holds l. -/
theorem Row.of_cells {w : World} {g c : Nat} {e : TypeId} {cur : Array Value} {l : List Iv} {x : Value} (hx : x = .slice (some ⟨g, 0, none⟩) l.length c) (hg : w.heap[g]? = some (.cells cur e (0, 0))) (ht : cur.toList.take (l.length * 3) = cellsL l) : Row w x l := by
  refine .inr ⟨g, 0, c, hx, fun k a hk => ?_⟩
  have hlt : k < l.length := (List.getElem?_eq_some_iff.1 hk).1
  obtain ⟨h1, h2, h3⟩ := cellsL_at l k a hk
  rw [← ht] at h1 h2 h3
  have e : ∀ n u, (cur.toList.take (l.length * 3))[n]? = some u → w.cell? ⟨g, n, none⟩ = some u := fun n u hu => by
    have hn : n < l.length * 3 := by
      have := (List.getElem?_eq_some_iff.1 hu).1
      simp at this
      omega
    rw [List.getElem?_take_of_lt hn] at hu
    simp [World.cell?, hg]
    simpa using hu
  simp only [Nat.zero_add]
  exact ⟨e _ _ h1, e _ _ h2, e _ _ h3⟩
theorem Row.of_owns {w : World} {base n : Nat} {v : Value} {e : TypeId} {l : List Iv} (h : w.ownsRow base e 3 v n (cellsL l)) : Row w v l := by
  obtain ⟨hl, h⟩ := h
  rw [cellsL_length] at hl
  have hn : n = l.length := by omega
  subst hn
  rcases h with ⟨rfl, h0⟩ | ⟨g, cap, cur, rfl, -, hg, -, -, -, ht⟩
  · exact .inl ⟨rfl, List.eq_nil_of_length_eq_zero h0⟩
  · exact Row.of_cells rfl hg ht
theorem Row.lit {w : World} {v : Value} {e : TypeId} {l : List Iv} {b c : Nat} {cur : Array Value} (hv : v = .slice (some ⟨b, 0, none⟩) l.length c) (hb : b = w.heap.size) (ht : cur.toList = cellsL l) : Row (w.alloc (.cells cur e)) v l := by
  subst hb
  refine Row.of_cells hv (heap_alloc_new w _) ?_
  rw [ht, ← cellsL_length, List.take_length]
theorem row_lit1 {w : World} {e : TypeId} {b c : Nat} (a0 : Iv) (hb : b = w.heap.size) : Row (w.alloc (.cells #[.int .i64 a0.lo, .int .i64 a0.hi, .bool a0.no] e)) (.slice (some ⟨b, 0, none⟩) 1 c) [a0] := Row.lit rfl hb rfl
theorem row_lit2 {w : World} {e : TypeId} {b c : Nat} (a0 a1 : Iv) (hb : b = w.heap.size) : Row (w.alloc (.cells #[.int .i64 a0.lo, .int .i64 a0.hi, .bool a0.no, .int .i64 a1.lo, .int .i64 a1.hi, .bool a1.no] e)) (.slice (some ⟨b, 0, none⟩) 2 c) [a0, a1] := Row.lit rfl hb rfl
theorem row_lit3 {w : World} {e : TypeId} {b c : Nat} (a0 a1 a2 : Iv) (hb : b = w.heap.size) : Row (w.alloc (.cells #[.int .i64 a0.lo, .int .i64 a0.hi, .bool a0.no, .int .i64 a1.lo, .int .i64 a1.hi, .bool a1.no, .int .i64 a2.lo, .int .i64 a2.hi, .bool a2.no] e)) (.slice (some ⟨b, 0, none⟩) 3 c) [a0, a1, a2] := Row.lit rfl hb rfl

abbrev Val := Value
theorem int_is {a b : Int} (h : a = b) : Value.int .i64 a = .int .i64 b := by rw [h]

theorem row_num1 {w : World} {e : TypeId} {b c : Nat} {l0 h0 : Int} {n0 : Bool} (hb : b = w.heap.size) : Row (w.alloc (.cells #[.int .i64 l0, .int .i64 h0, .bool n0] e)) (.slice (some ⟨b, 0, none⟩) 1 c) [⟨l0, h0, n0⟩] := Row.lit rfl hb rfl
theorem row_num2 {w : World} {e : TypeId} {b c : Nat} {l0 h0 l1 h1 : Int} {n0 n1 : Bool} (hb : b = w.heap.size) : Row (w.alloc (.cells #[.int .i64 l0, .int .i64 h0, .bool n0, .int .i64 l1, .int .i64 h1, .bool n1] e)) (.slice (some ⟨b, 0, none⟩) 2 c) [⟨l0, h0, n0⟩, ⟨l1, h1, n1⟩] := Row.lit rfl hb rfl
theorem row_num3 {w : World} {e : TypeId} {b c : Nat} {l0 h0 l1 h1 l2 h2 : Int} {n0 n1 n2 : Bool} (hb : b = w.heap.size) : Row (w.alloc (.cells #[.int .i64 l0, .int .i64 h0, .bool n0, .int .i64 l1, .int .i64 h1, .bool n1, .int .i64 l2, .int .i64 h2, .bool n2] e)) (.slice (some ⟨b, 0, none⟩) 3 c) [⟨l0, h0, n0⟩, ⟨l1, h1, n1⟩, ⟨l2, h2, n2⟩] := Row.lit rfl hb rfl
theorem owns_keep {w w' : World} {base n size : Nat} {e : TypeId} {v : Value} {xs : List Value} (h : w.ownsRow base e size v n xs) (hb : ∀ k, k < w.heap.size → w'.heap[k]? = w.heap[k]?) : w'.ownsRow base e size v n xs := by
  obtain ⟨hl, h⟩ := h
  refine ⟨hl, ?_⟩
  rcases h with h | ⟨g, cap, cur, hv, hg, hc, h1⟩
  · exact .inl h
  · exact .inr ⟨g, cap, cur, hv, hg, (hb g ((Array.getElem?_eq_some_iff.1 hc).1)).trans hc, h1⟩
theorem owns_more {w : World} {base n size : Nat} {e : TypeId} {v : Value} {xs : List Value} (h : w.ownsRow base e size v n xs) {r : Rest} : (more w r).ownsRow base e size v n xs := owns_keep h fun k hk => heap_more w r k hk
theorem owns_alloc {w : World} {base n size : Nat} {e : TypeId} {v : Value} {xs : List Value} (h : w.ownsRow base e size v n xs) {o : Obj} : (w.alloc o).ownsRow base e size v n xs := owns_keep h fun k hk => Below.heap_alloc w o k hk
theorem below_more {B : Nat} {a w : World} (h : Below B a w) (r : Rest) (hB : B ≤ w.heap.size) : Below B a (more w r) :=
  h.trans ⟨rfl, rfl, rfl, by simp, fun k hk => heap_more _ _ _ (by omega)⟩

theorem new_cells {w : World} {e : TypeId} {b : Nat} (a : Iv) (hb : b = w.heap.size) : ∀ j u, (cells1 a)[j]? = some u → (w.alloc (.cells #[.int .i64 a.lo, .int .i64 a.hi, .bool a.no] e)).cell? ((⟨b, 0, none⟩ : Addr).add j) = some u := by
  subst hb
  intro j u hu
  have c : ∀ n (cur : Array Value), (w.alloc (.cells cur e)).cell? ⟨w.heap.size, n, none⟩ = cur[n]? := fun n cur => by
    simp only [World.cell?]
    rw [heap_alloc_new]
    rfl
  rw [Addr.add_lit, Nat.zero_add, c]
  simpa [cells1] using hu
theorem cells1_one (a : Iv) : ∀ u ∈ cells1 a, u.oneCell' = true := by
  have := cellsL_one [a]
  simpa [cellsL] using this
theorem cellsL_snoc (l : List Iv) (a : Iv) : cellsL l ++ cells1 a = cellsL (l ++ [a]) := by rw [cellsL_append]; simp [cellsL]

/-! Sums of powers and slopes. -/
def horner : List Iv → Iv → Iv
  | [], _ => ivPoint 0
  | [a], _ => if ivRight a then a else ivNone
  | a :: b :: l, x => ivAdd (ivMul (horner (b :: l) x) x) a
def slopeTo (l : List Iv) (k : Nat) : List Iv := (List.range k).map fun i => ivTimes (l.getD (i + 1) ivNone) ((i + 1 : Nat) : Int)
def slope (l : List Iv) : List Iv := slopeTo l (l.length - 1)
theorem slopeTo_succ (l : List Iv) (k : Nat) : slopeTo l (k + 1) = slopeTo l k ++ [ivTimes (l.getD (k + 1) ivNone) ((k + 1 : Nat) : Int)] := by
  simp [slopeTo, List.range_succ]
theorem slopeTo_length (l : List Iv) (k : Nat) : (slopeTo l k).length = k := by simp [slopeTo]
@[simp] theorem slope_length (l : List Iv) : (slope l).length = l.length - 1 := slopeTo_length l _
/-- From place k on. -/
theorem horner_drop {l : List Iv} {k : Nat} (h : k + 1 < l.length) (x : Iv) : horner (l.drop k) x = ivAdd (ivMul (horner (l.drop (k + 1)) x) x) (l.getD k ivNone) := by
  have h1 : l.drop k = l.getD k ivNone :: l.drop (k + 1) := by
    rw [List.drop_eq_getElem_cons (by omega)]
    simp [List.getD, show k < l.length by omega]
  have h2 : l.drop (k + 1) = l.getD (k + 1) ivNone :: l.drop (k + 1 + 1) := by
    rw [List.drop_eq_getElem_cons (by omega)]
    simp [List.getD, show k + 1 < l.length by omega]
  rw [h1, h2]
  rfl
theorem horner_last {l : List Iv} {k : Nat} (h : k + 1 = l.length) (x : Iv) : horner (l.drop k) x = if ivRight (l.getD k ivNone) then l.getD k ivNone else ivNone := by
  have h1 : l.drop k = l.getD k ivNone :: l.drop (k + 1) := by
    rw [List.drop_eq_getElem_cons (by omega)]
    simp [List.getD, show k < l.length by omega]
  rw [h1, List.drop_eq_nil_of_le (by omega)]
  rfl
theorem mul_none (x : Iv) : ivMul ivNone x = ivNone := by unfold ivMul ivBoth; rw [right_none]; rfl
theorem add_none (x : Iv) : ivAdd ivNone x = ivNone := by unfold ivAdd ivBoth; rw [right_none]; rfl
theorem horner_none {l : List Iv} (x : Iv) : ∀ (d k : Nat), k + d < l.length → horner (l.drop (k + d)) x = ivNone → horner (l.drop k) x = ivNone
  | 0, k, _, h => h
  | d + 1, k, hk, h => by
    have := horner_none (l := l) x d (k + 1) (by omega) (by rw [show k + 1 + d = k + (d + 1) by omega]; exact h)
    rw [horner_drop (by omega), this, mul_none, add_none]
theorem horner_bad {l : List Iv} (x : Iv) (h0 : ¬ l.length = 0) (h : horner (l.drop (l.length - 1)) x = ivNone) : horner l x = ivNone := by
  have := horner_none (l := l) x (l.length - 1) 0 (by omega) (by rw [Nat.zero_add]; exact h)
  simpa using this
end Go.Proofs.YtgikkcnpnnbgdaaGreatDoor

namespace Go.Proofs.YtgikkcnpnnbgdaaGreatDoor
set_option linter.unusedVariables false
open Go.ChangeShapes Go.WideShapes Go.ChangeAt Go.RowKit

/-- The cells of the slice v hold the numbers l. -/
def Ints (w : World) (v : Value) (l : List Int) : Prop :=
  (l = [] ∧ ∃ a c, v = .slice a 0 c) ∨ ∃ b o c, v = .slice (some ⟨b, o, none⟩) l.length c ∧ ∀ k n, l[k]? = some n → w.cell? ⟨b, o + k, none⟩ = some (.int .i64 n)
theorem open_ints_all {H : Type} {enc : TypeId × Value → H} {P : Program} {w : World} {t e : TypeId} {v : Value} {d : DataW H} {ps : List MemPlace} (ht : P.underlying t = some (.slice e)) (he : P.underlying e = some (.int .i64)) (hc : P.cellsOf e = 1)
    (hv : ∃ a len cap, v = .slice a len cap) (h : DataW.Trod enc P w 0 (fun _ => true) true t v d ps) :
    ∃ l, Ints w v l ∧ (∀ n ∈ l, -9223372036854775808 ≤ n ∧ n ≤ 9223372036854775807) ∧ l.length ≤ 9223372036854775807 := by
  obtain ⟨a0, len, cap, rfl⟩ := hv
  obtain ⟨fuel, hf⟩ := h
  rcases open_ints ht he hc hf with ⟨hcs, hx⟩ | ⟨a, len', cap', zs, hcs, _, hl, hm, hz, hx, hcell, hwz⟩
  · simp [Value.cells] at hcs
    obtain ⟨rfl, rfl, rfl⟩ := hcs
    exact ⟨[], .inl ⟨rfl, _, _, rfl⟩, by simp, by simp⟩
  · simp [Value.cells] at hcs
    obtain ⟨rfl, rfl, rfl⟩ := hcs
    simp only [if_true] at hz
    simp only [maxLen] at hm
    by_cases h0 : len = 0
    · subst h0
      exact ⟨[], .inl ⟨rfl, _, _, rfl⟩, by simp, by simp⟩
    · obtain ⟨b, off, spot⟩ := a
      have hspot : spot = none := by simpa [Addr.add] using World.cell?_spot (hcell 0 (by omega))
      subst hspot
      have hlen : (zs.take len).length = len := by simp; omega
      refine ⟨zs.take len, .inr ⟨b, off, cap, by rw [hlen], fun k n hk => ?_⟩, fun n hn => bounds_i64 (hwz n (List.mem_of_mem_take hn)), by rw [hlen]; omega⟩
      have hk' : k < len := by
        have := (List.getElem?_eq_some_iff.1 hk).1
        omega
      rw [List.getElem?_take_of_lt hk'] at hk
      have := hcell k (by omega)
      rw [Addr.add_lit] at this
      rw [this]
      simp [List.getD, hk]

theorem ints_form {w : World} {v : Value} {l : List Int} (h : Ints w v l) : ∃ ao c, v = .slice ao l.length c ∧ (0 < l.length → ∃ b o, ao = some ⟨b, o, none⟩ ∧ ∀ k, k < l.length → b < w.heap.size ∧ w.cell? ⟨b, o + k, none⟩ = some (.int .i64 (l.getD k 0))) := by
  rcases h with ⟨rfl, a, c, rfl⟩ | ⟨b, o, c, rfl, hc⟩
  · exact ⟨a, c, rfl, fun h => by simp at h⟩
  · refine ⟨_, c, rfl, fun _ => ⟨b, o, rfl, fun k hk => ?_⟩⟩
    have := hc k (l.getD k 0) (by simp [List.getD, hk])
    exact ⟨World.block_lt_of_cell? w _ this, this⟩

/-! Rows of the call's own. -/
theorem owns_base {w : World} {base base' n size : Nat} {e : TypeId} {v : Value} {xs : List Value} (h : w.ownsRow base e size v n xs) (hb : base' ≤ base) : w.ownsRow base' e size v n xs := by
  obtain ⟨hl, h⟩ := h
  refine ⟨hl, ?_⟩
  rcases h with h | ⟨g, cap, cur, hv, hg, h1⟩
  · exact .inl h
  · exact .inr ⟨g, cap, cur, hv, Nat.le_trans hb hg, h1⟩
theorem grown_any {w w' : World} (h : w.grownBy w' none) (row : Option Nat) : w.grownBy w' row := ⟨h.os, h.tape, h.output, h.size, fun k hk _ => h.block k hk (by simp)⟩
/-- 'append' on a row of the call's own: the row's block is the same, or it is new. -/
theorem wpList_append_row {P : Program} (w : World) {ops : Array Oper} {rest : List Oper} {o : Oper} {a : Act} {Q : Exit → Act → World → Prop}
    (hg : o.guard = none) (s x : Operand) (t : TypeId) (hop : o.op = Op.call { callee := Callee.builtin Builtin.append, args := #[s, x], argTypes := #[t, t] })
    (base : Nat) (e : TypeId) (i : TypeInfo) (z : Value) (size bytes : Nat) (h1 : P.underlying t = some (.slice e)) (h2 : P.info? e = some i) (h3 : i.zero = some z) (h4 : i.size = size) (h5 : i.bytes = bytes) (h6 : z.cells.size = size) (h7 : 0 < size)
    (v : Value) (n : Nat) (xs : List Value) (hs : a.eval s = v) (hown : w.ownsRow base e size v n xs)
    (ad : Addr) (m c : Nat) (news : List Value) (hx : a.eval x = .slice (some ad) m c) (hn : news.length = m * size) (hc : ∀ j u, news[j]? = some u → w.cell? (ad.add j) = some u) (h1c : ∀ u ∈ news, u.oneCell' = true)
    (hm : 0 < m) (b1 : n + m ≤ maxLen) (b2 : (n + m) * bytes ≤ 140737488355328) (hb : base ≤ w.heap.size)
    (hK : ∀ v' w', w'.ownsRow base e size v' (n + m) (xs ++ news) → w.grownBy w' v.ownBlock → (v'.ownBlock = v.ownBlock ∨ ∀ g, v'.ownBlock = some g → w.heap.size ≤ g) → wpList P ops Q rest (a.put o.dst v') w') :
    wpList P ops Q (o :: rest) a w := by
  have hown0 := hown
  obtain ⟨hl, h⟩ := hown
  rcases h with ⟨rfl, rfl⟩ | ⟨g, cap, cur, rfl, hbg, hg', hnc, hcm, hcs, htake⟩
  · refine wpList_append_grows w hg s x t hop e i z size bytes h1 h2 h3 h4 h5 h6 h7 none 0 0 xs hs (fun _ => ⟨rfl, rfl⟩) hl (fun b hb => by cases hb) ad m c news hx hn hc h1c (by omega) b1 b2 fun v' w' ho hgr => ?_
    exact hK v' w' (owns_base ho hb) (grown_any hgr _) (.inr fun g hg => (ho.lt g hg).1)
  · by_cases hfit : n + m ≤ cap
    · exact wpList_append_fits w hg s x t hop base e i size h1 h2 h4 g n cap xs hs hown0 ad m c news hx hn hc h1c hfit fun w' ho hgr => hK _ w' ho hgr (.inl rfl)
    · refine wpList_append_grows w hg s x t hop e i z size bytes h1 h2 h3 h4 h5 h6 h7 (some ⟨g, 0, none⟩) n cap xs hs (fun h => by cases h) hl (fun b hb j u hu => ?_) ad m c news hx hn hc h1c (by omega) b1 b2 fun v' w' ho hgr => ?_
      · obtain rfl := Option.some.inj hb
        exact hown0.cells rfl j u hu
      · exact hK v' w' (owns_base ho hb) (grown_any hgr _) (.inr fun g hg => (ho.lt g hg).1)
/-- Two rows that lie apart. -/
def Off2 (v u : Value) : Prop := v.ownBlock = none ∨ v.ownBlock ≠ u.ownBlock
theorem Off2.symm {v u : Value} (h : Off2 v u) : Off2 u v := by
  unfold Off2 at *
  rcases h with h | h
  · rw [h]
    cases u.ownBlock with
    | none => exact .inl rfl
    | some g => exact .inr (by simp)
  · exact .inr (Ne.symm h)
theorem Off2.step {w : World} {base n size : Nat} {e : TypeId} {v u u' : Value} {xs : List Value} (h : Off2 v u) (hv : w.ownsRow base e size v n xs) (hu : u'.ownBlock = u.ownBlock ∨ ∀ g, u'.ownBlock = some g → w.heap.size ≤ g) : Off2 v u' := by
  unfold Off2 at *
  rcases hu with hu | hu
  · rw [hu]; exact h
  · cases hb : v.ownBlock with
    | none => exact .inl rfl
    | some g =>
      refine .inr fun he => ?_
      have h1 := hu g he.symm
      have h2 := (hv.lt g hb).2
      omega
end Go.Proofs.YtgikkcnpnnbgdaaGreatDoor

namespace Go.Proofs.YtgikkcnpnnbgdaaGreatDoor
set_option linter.unusedVariables false
set_option linter.unusedVariables false
open Ieee

/-- The word of a whole number with a sign (a 0 has one, too). -/
def fb (neg : Bool) (c : Nat) : Nat := double.nearest neg c 0
theorem binade_d : double.binade = 4503599627370496 := by decide +kernel
theorem inf_d : double.infRung = 9218868437227405312 := by decide +kernel
theorem sign_d : double.signWeight = 9223372036854775808 := by decide +kernel
theorem least_d : double.leastPlace = -1074 := by decide +kernel

theorem cut_zero (neg : Bool) (n : Nat) : Toward.even.cut neg n 0 = n := by
  unfold Toward.cut
  simp [Nat.mod_one]
theorem cut_exact (neg : Bool) (n d : Nat) (hn : n ≠ 0) (hd : d ≤ (n * 2 ^ d).log2 + 2) : Toward.even.cut neg (n * 2 ^ d) d = n := by
  unfold Toward.cut
  have hp : 0 < 2 ^ d := Nat.two_pow_pos d
  simp only [Nat.min_eq_left hd, Nat.one_shiftLeft, Nat.mul_div_cancel _ hp, Nat.mul_mod_left]
  simp
theorem log2_mul (c k : Nat) (h : c ≠ 0) : (c * 2 ^ k).log2 = c.log2 + k := by
  rw [Nat.log2_eq_iff (by have := Nat.two_pow_pos k; exact Nat.mul_ne_zero h (by omega))]
  have := Nat.log2_self_le h
  have h2 := @Nat.lt_log2_self c
  constructor
  · rw [Nat.pow_add]; exact Nat.mul_le_mul_right _ this
  · rw [show c.log2 + k + 1 = (c.log2 + 1) + k by omega, Nat.pow_add]
    exact Nat.mul_lt_mul_of_pos_right h2 (Nat.two_pow_pos k)
theorem log2_le {c : Nat} (h : c < 9007199254740992) : c.log2 ≤ 52 := by
  by_cases h0 : c = 0
  · subst h0; decide
  · have h1 := Nat.log2_self_le h0
    by_cases h2 : c.log2 ≤ 52
    · exact h2
    · have h3 : 2 ^ 53 ≤ 2 ^ c.log2 := Nat.pow_le_pow_right (by omega) (by omega)
      omega
/-- Whatever the place at which a whole number is told, the word is the same. -/
theorem nearest_form (neg : Bool) (c k : Nat) (h0 : c ≠ 0) (h : c < 9007199254740992) : double.nearest neg (c * 2 ^ k) (-(k : Int)) = double.word neg ((c.log2 + 1022) * 4503599627370496 + c * 2 ^ (52 - c.log2)) := by
  have hl := log2_le h
  have hm : c * 2 ^ k ≠ 0 := Nat.mul_ne_zero h0 (by have := Nat.two_pow_pos k; omega)
  have hlog := log2_mul c k h0
  unfold Format.nearest
  rw [if_neg hm, hlog, least_d, binade_d, inf_d]
  have e1 : max (-(k : Int) + ((c.log2 + k : Nat) : Int) - (double.fractionBits : Int)) (-1074) = (c.log2 : Int) - 52 := by
    have : (double.fractionBits : Int) = 52 := rfl
    omega
  rw [e1]
  dsimp only
  have e2 : ((c.log2 : Int) - 52 - -1074).toNat = c.log2 + 1022 := by omega
  rw [e2]
  have hk : c * 2 ^ (52 - c.log2) ≤ 9007199254740991 := by
    have h2 := @Nat.lt_log2_self c
    have h3 : c * 2 ^ (52 - c.log2) < 2 ^ (c.log2 + 1) * 2 ^ (52 - c.log2) := Nat.mul_lt_mul_of_pos_right h2 (Nat.two_pow_pos _)
    rw [← Nat.pow_add, show c.log2 + 1 + (52 - c.log2) = 53 by omega] at h3
    omega
  have e3 : Toward.even.cut neg ((c * 2 ^ k) <<< (-(k : Int) - ((c.log2 : Int) - 52)).toNat) ((c.log2 : Int) - 52 - -(k : Int)).toNat = c * 2 ^ (52 - c.log2) := by
    by_cases hkl : k ≤ 52 - c.log2
    · rw [show ((c.log2 : Int) - 52 - -(k : Int)).toNat = 0 by omega, cut_zero, show (-(k : Int) - ((c.log2 : Int) - 52)).toNat = 52 - c.log2 - k by omega, Nat.shiftLeft_eq, Nat.mul_assoc, ← Nat.pow_add, show k + (52 - c.log2 - k) = 52 - c.log2 by omega]
    · rw [show (-(k : Int) - ((c.log2 : Int) - 52)).toNat = 0 by omega, Nat.shiftLeft_eq, Nat.pow_zero, Nat.mul_one]
      obtain ⟨d, hd⟩ : ∃ d, k = (52 - c.log2) + d := ⟨k - (52 - c.log2), by omega⟩
      rw [show ((c.log2 : Int) - 52 - -(k : Int)).toNat = d by omega, show c * 2 ^ k = c * 2 ^ (52 - c.log2) * 2 ^ d by rw [hd, Nat.pow_add, Nat.mul_assoc]]
      refine cut_exact neg _ d (Nat.mul_ne_zero h0 (by have := Nat.two_pow_pos (52 - c.log2); omega)) ?_
      rw [Nat.mul_assoc, ← Nat.pow_add, log2_mul c _ h0]
      omega
  rw [e3]
  congr 1
  clear e1 e2 e3 hlog hm
  generalize c * 2 ^ (52 - c.log2) = m at *
  generalize c.log2 = L at *
  exact Nat.min_eq_left (by omega)
theorem write_fb (neg : Bool) (c k : Nat) (h : c < 9007199254740992) : double.write (.number neg (c * 2 ^ k) (-(k : Int))) = fb neg c := by
  unfold fb
  show double.nearest neg (c * 2 ^ k) (-(k : Int)) = double.nearest neg c 0
  by_cases h0 : c = 0
  · subst h0
    unfold Format.nearest
    simp
  · rw [nearest_form neg c k h0 h]
    have := nearest_form neg c 0 h0 h
    simp only [Nat.pow_zero, Nat.mul_one, Int.natCast_zero, Int.neg_zero] at this
    exact this.symm
theorem read_word (neg : Bool) (r : Nat) (h : r < 9223372036854775808) : (double.word neg r / double.signWeight % 2 == 1) = neg ∧ double.word neg r % double.signWeight = r := by
  rw [sign_d]
  unfold Format.word
  rw [sign_d]
  cases neg
  · simp only [if_false, Bool.false_eq_true]
    refine ⟨?_, by omega⟩
    rw [show r / 9223372036854775808 = 0 by omega]
    rfl
  · simp only [if_true]
    refine ⟨?_, by omega⟩
    rw [show (9223372036854775808 + r) / 9223372036854775808 = 1 by omega]
    rfl
/-- What the word of a whole number reads. -/
theorem read_fb (neg : Bool) (c : Nat) (h : c < 9007199254740992) : ∃ k : Nat, double.read (fb neg c) = .number neg (c * 2 ^ k) (-(k : Int)) := by
  by_cases h0 : c = 0
  · subst h0
    obtain ⟨k, hk⟩ : ∃ k : Nat, k = 1074 := ⟨_, rfl⟩
    refine ⟨k, ?_⟩
    have e : fb neg 0 = double.word neg 0 := by unfold fb Format.nearest; simp
    obtain ⟨r1, r2⟩ := read_word neg 0 (by omega)
    rw [e]
    unfold Format.read
    dsimp only
    rw [r1, r2, binade_d, least_d, if_pos (by omega), Nat.zero_mul, hk]
    rfl
  · have hl := log2_le h
    have e : fb neg c = double.word neg ((c.log2 + 1022) * 4503599627370496 + c * 2 ^ (52 - c.log2)) := by
      have := nearest_form neg c 0 h0 h
      simp only [Nat.pow_zero, Nat.mul_one, Int.natCast_zero, Int.neg_zero] at this
      exact this
    have g1 : 4503599627370496 ≤ c * 2 ^ (52 - c.log2) := by
      have h1 := Nat.log2_self_le h0
      have h3 := Nat.mul_le_mul_right (2 ^ (52 - c.log2)) h1
      rw [← Nat.pow_add, show c.log2 + (52 - c.log2) = 52 by omega] at h3
      omega
    have g2 : c * 2 ^ (52 - c.log2) < 9007199254740992 := by
      have h2 := @Nat.lt_log2_self c
      have h3 : c * 2 ^ (52 - c.log2) < 2 ^ (c.log2 + 1) * 2 ^ (52 - c.log2) := Nat.mul_lt_mul_of_pos_right h2 (Nat.two_pow_pos _)
      rw [← Nat.pow_add, show c.log2 + 1 + (52 - c.log2) = 53 by omega] at h3
      omega
    refine ⟨52 - c.log2, ?_⟩
    generalize c * 2 ^ (52 - c.log2) = m at *
    generalize c.log2 = L at *
    obtain ⟨r1, r2⟩ := read_word neg ((L + 1022) * 4503599627370496 + m) (by omega)
    rw [e]
    unfold Format.read
    dsimp only
    rw [r1, r2, binade_d, inf_d, least_d, if_neg (by omega), if_pos (by omega)]
    have e1 : ((L + 1022) * 4503599627370496 + m) % 4503599627370496 = m - 4503599627370496 := by omega
    have e2 : ((L + 1022) * 4503599627370496 + m) / 4503599627370496 = L + 1023 := by omega
    have a1 : 4503599627370496 + (m - 4503599627370496) = m := by omega
    have a2 : -1074 + ((L + 1023 - 1 : Nat) : Int) = -((52 - L : Nat) : Int) := by omega
    rw [e1, e2, a1, a2]

/-- The whole number of a sign and a size. -/
def sg (s : Bool) (m : Nat) : Int := if s then -(m : Int) else m
theorem signed_up (s : Bool) (m i n : Nat) : signed s (m * 2 ^ i) n = sg s m * 2 ^ (i + n) := by
  unfold signed sg
  rw [Nat.shiftLeft_eq, Nat.mul_assoc, ← Nat.pow_add]
  cases s <;> simp [Int.natCast_mul, Int.natCast_pow, Int.neg_mul]
theorem sum_fb (s t : Bool) (m n : Nat) (i j : Nat) : (Datum.number s (m * 2 ^ i) (-(i : Int))).sum (.number t (n * 2 ^ j) (-(j : Int))) =
    some (.number (if sg s m + sg t n = 0 then s && t else sg s m + sg t n < 0) ((sg s m + sg t n).natAbs * 2 ^ (max i j)) (-((max i j : Nat) : Int))) := by
  unfold Datum.sum
  dsimp only
  have e0 : min (-(i : Int)) (-(j : Int)) = -((max i j : Nat) : Int) := by omega
  have e1 : (-(i : Int) - -((max i j : Nat) : Int)).toNat = max i j - i := by omega
  have e2 : (-(j : Int) - -((max i j : Nat) : Int)).toNat = max i j - j := by omega
  rw [e0, e1, e2, signed_up, signed_up, show i + (max i j - i) = max i j by omega, show j + (max i j - j) = max i j by omega, ← Int.add_mul]
  generalize max i j = k
  have hp : (0 : Int) < 2 ^ k := Int.pow_pos (by omega)
  have z : (sg s m + sg t n) * 2 ^ k = 0 ↔ sg s m + sg t n = 0 := by
    constructor
    · intro h
      rcases Int.mul_eq_zero.1 h with h | h
      · exact h
      · omega
    · intro h; rw [h, Int.zero_mul]
  have l : (sg s m + sg t n) * 2 ^ k < 0 ↔ sg s m + sg t n < 0 := by
    constructor
    · intro h
      by_cases h' : sg s m + sg t n < 0
      · exact h'
      · have := Int.mul_nonneg (show 0 ≤ sg s m + sg t n by omega) (show 0 ≤ (2 : Int) ^ k by omega)
        omega
    · intro h
      have := Int.mul_pos (show 0 < -(sg s m + sg t n) by omega) hp
      rw [Int.neg_mul] at this
      omega
  have a : ((sg s m + sg t n) * 2 ^ k).natAbs = (sg s m + sg t n).natAbs * 2 ^ k := by
    rw [Int.natAbs_mul, Int.natAbs_pow]
    rfl
  simp only [z, l, a]
theorem add_fb (s t : Bool) (m n : Nat) (hm : m < 9007199254740992) (hn : n < 9007199254740992) (h : (sg s m + sg t n).natAbs < 9007199254740992) :
    double.add (fb s m) (fb t n) = some (fb (if sg s m + sg t n = 0 then s && t else sg s m + sg t n < 0) (sg s m + sg t n).natAbs) := by
  obtain ⟨i, e1⟩ := read_fb s m hm
  obtain ⟨j, e2⟩ := read_fb t n hn
  unfold Format.add
  rw [e1, e2, sum_fb, Option.map_some, write_fb _ _ _ h]
theorem sub_fb (s t : Bool) (m n : Nat) (hm : m < 9007199254740992) (hn : n < 9007199254740992) (h : (sg s m - sg t n).natAbs < 9007199254740992) :
    double.sub (fb s m) (fb t n) = some (fb (if sg s m - sg t n = 0 then s && !t else sg s m - sg t n < 0) (sg s m - sg t n).natAbs) := by
  obtain ⟨i, e1⟩ := read_fb s m hm
  obtain ⟨j, e2⟩ := read_fb t n hn
  have e : sg s m - sg t n = sg s m + sg (!t) n := by cases t <;> simp [sg] <;> omega
  unfold Format.sub
  rw [e1, e2]
  show ((Datum.number s (m * 2 ^ i) (-(i : Int))).sum (.number (!t) (n * 2 ^ j) (-(j : Int)))).map double.write = _
  rw [sum_fb, Option.map_some, e]
  rw [e] at h
  rw [write_fb _ _ _ h]
theorem mul_fb (s t : Bool) (m n : Nat) (hm : m < 9007199254740992) (hn : n < 9007199254740992) (h : m * n < 9007199254740992) : double.mul (fb s m) (fb t n) = some (fb (s ^^ t) (m * n)) := by
  obtain ⟨i, e1⟩ := read_fb s m hm
  obtain ⟨j, e2⟩ := read_fb t n hn
  unfold Format.mul
  rw [e1, e2]
  show some (double.write (.number (s ^^ t) (m * 2 ^ i * (n * 2 ^ j)) (-(i : Int) + -(j : Int)))) = _
  have e3 : m * 2 ^ i * (n * 2 ^ j) = m * n * 2 ^ (i + j) := by rw [Nat.pow_add]; grind
  rw [e3, show -(i : Int) + -(j : Int) = -((i + j : Nat) : Int) by omega, write_fb _ _ _ h]
theorem order_fb (s t : Bool) (m n : Nat) (hm : m < 9007199254740992) (hn : n < 9007199254740992) : double.order (fb s m) (fb t n) = some (compare (sg s m) (sg t n)) := by
  obtain ⟨i, e1⟩ := read_fb s m hm
  obtain ⟨j, e2⟩ := read_fb t n hn
  unfold Format.order
  rw [e1, e2]
  unfold Datum.order
  dsimp only
  have e0 : min (-(i : Int)) (-(j : Int)) = -((max i j : Nat) : Int) := by omega
  have e1 : (-(i : Int) - -((max i j : Nat) : Int)).toNat = max i j - i := by omega
  have e2 : (-(j : Int) - -((max i j : Nat) : Int)).toNat = max i j - j := by omega
  rw [e0, e1, e2, signed_up, signed_up, show i + (max i j - i) = max i j by omega, show j + (max i j - j) = max i j by omega]
  generalize max i j = k
  have hp : (0 : Int) < 2 ^ k := Int.pow_pos (by omega)
  congr 1
  rw [Int.compare_eq_ite_lt, Int.compare_eq_ite_lt]
  have l : ∀ a b : Int, a * 2 ^ k < b * 2 ^ k ↔ a < b := fun a b => ⟨fun h => Int.lt_of_mul_lt_mul_right h (by omega), fun h => Int.mul_lt_mul_of_pos_right h hp⟩
  simp only [l]

/-! Whole numbers whose 0 has no sign. -/
def fw (n : Int) : Nat := fb (n < 0) n.natAbs
theorem sg_self (n : Int) : sg (n < 0) n.natAbs = n := by
  unfold sg
  by_cases h : n < 0
  · simp [h]; omega
  · simp [h]; omega
theorem sg_natAbs (s : Bool) (m : Nat) : (sg s m).natAbs = m := by cases s <;> simp [sg]
/-- A word of a whole number that is not 0 has its sign; of 0 either. -/
theorem fb_fw (s : Bool) (m : Nat) (h : m = 0 → s = false) : fb s m = fw (sg s m) := by
  unfold fw
  rw [sg_natAbs]
  congr 1
  cases s
  · simp [sg]
  · have : m ≠ 0 := fun e => by have := h e; cases this
    simp [sg]; omega
theorem fw_add {a b : Int} (ha : -9007199254740991 ≤ a ∧ a ≤ 9007199254740991) (hb : -9007199254740991 ≤ b ∧ b ≤ 9007199254740991) (h : -9007199254740991 ≤ a + b ∧ a + b ≤ 9007199254740991) : double.add (fw a) (fw b) = some (fw (a + b)) := by
  have e := add_fb (a < 0) (b < 0) a.natAbs b.natAbs (by omega) (by omega) (by rw [sg_self, sg_self]; omega)
  rw [sg_self, sg_self] at e
  unfold fw
  rw [e]
  congr 2
  by_cases h0 : a + b = 0
  · rw [if_pos h0, h0]
    by_cases h1 : a < 0
    · have : ¬ b < 0 := by omega
      simp [this]
    · simp [h1]
  · rw [if_neg h0]
theorem fw_sub {a b : Int} (ha : -9007199254740991 ≤ a ∧ a ≤ 9007199254740991) (hb : -9007199254740991 ≤ b ∧ b ≤ 9007199254740991) (h : -9007199254740991 ≤ a - b ∧ a - b ≤ 9007199254740991) : double.sub (fw a) (fw b) = some (fw (a - b)) := by
  have e := sub_fb (a < 0) (b < 0) a.natAbs b.natAbs (by omega) (by omega) (by rw [sg_self, sg_self]; omega)
  rw [sg_self, sg_self] at e
  unfold fw
  rw [e]
  congr 2
  by_cases h0 : a - b = 0
  · obtain rfl : a = b := by omega
    rw [if_pos h0, h0]
    by_cases h1 : a < 0 <;> simp [h1]
  · rw [if_neg h0]
theorem fw_mul {a b : Int} (ha : -9007199254740991 ≤ a ∧ a ≤ 9007199254740991) (hb : -9007199254740991 ≤ b ∧ b ≤ 9007199254740991) (h : -9007199254740991 ≤ a * b ∧ a * b ≤ 9007199254740991) : double.mul (fw a) (fw b) = some (fb ((decide (a < 0)) ^^ (decide (b < 0))) (a * b).natAbs) := by
  have e := mul_fb (a < 0) (b < 0) a.natAbs b.natAbs (by omega) (by omega) (by rw [← Int.natAbs_mul]; omega)
  unfold fw
  rw [e, Int.natAbs_mul]
theorem fw_order {a b : Int} (ha : -9007199254740991 ≤ a ∧ a ≤ 9007199254740991) (hb : -9007199254740991 ≤ b ∧ b ≤ 9007199254740991) : double.order (fw a) (fw b) = some (compare a b) := by
  have e := order_fb (a < 0) (b < 0) a.natAbs b.natAbs (by omega) (by omega)
  rw [sg_self, sg_self] at e
  exact e
theorem fw_eq {a b : Int} (ha : -9007199254740991 ≤ a ∧ a ≤ 9007199254740991) (hb : -9007199254740991 ≤ b ∧ b ≤ 9007199254740991) : (double.order (fw a) (fw b) == some .eq) = decide (a = b) := by
  rw [fw_order ha hb]
  by_cases h : a = b
  · subst h; simp
  · simp [h]
/-- Back to a whole number. -/
theorem fb_toInt (s : Bool) (m : Nat) (h : m < 9007199254740992) (way : Toward) : (double.read (fb s m)).toInt way = some (sg s m) := by
  obtain ⟨k, e⟩ := read_fb s m h
  rw [e]
  unfold Datum.toInt Datum.integral
  dsimp only
  have e1 : ((-(k : Int)).toNat) = 0 := by omega
  have e2 : (-(-(k : Int))).toNat = k := by omega
  rw [e1, e2, Nat.shiftLeft_eq, Nat.pow_zero, Nat.mul_one]
  have c : way.cut s (m * 2 ^ k) k = m := by
    by_cases h0 : m = 0
    · subst h0
      unfold Toward.cut
      rw [Nat.zero_mul]
      cases way <;> simp [Nat.one_shiftLeft]
    · have hp : 0 < 2 ^ k := Nat.two_pow_pos k
      unfold Toward.cut
      simp only [Nat.min_eq_left (show k ≤ (m * 2 ^ k).log2 + 2 by rw [log2_mul m k h0]; omega), Nat.one_shiftLeft, Nat.mul_div_cancel _ hp, Nat.mul_mod_left]
      cases way <;> simp
  rw [c]
  have := signed_up s m 0 0
  simp only [Nat.pow_zero, Nat.mul_one, Nat.add_zero, Int.pow_zero, Int.mul_one] at this
  rw [this]
theorem fw_toInt {n : Int} (h : -9007199254740991 ≤ n ∧ n ≤ 9007199254740991) (way : Toward) : (double.read (fw n)).toInt way = some n := by
  have := fb_toInt (n < 0) n.natAbs (by omega) way
  rw [sg_self] at this
  exact this
theorem fw_val {n : Int} (h : -9007199254740991 ≤ n ∧ n ≤ 9007199254740991) : floatToIntVal .f64 (fw n) .i64 = some n := by
  unfold floatToIntVal
  show (match (double.read (fw n)).toInt .zero with | some n => _ | none => none) = _
  rw [fw_toInt h]
  exact if_pos (by simp [IntKind.min, IntKind.max, IntKind.signed, IntKind.bits]; omega)
theorem fw_ofInt (n : Int) : FloatKind.f64.nearest n = fw n := rfl
end Go.Proofs.YtgikkcnpnnbgdaaGreatDoor

namespace Go.Proofs.YtgikkcnpnnbgdaaGreatDoor
set_option linter.unusedVariables false
open Ieee

/-- The sign of a whole number, of a 0 as told. -/
def zn (n : Int) (z : Bool) : Bool := if n = 0 then z else decide (n < 0)
def ww (n : Int) (z : Bool) : Nat := fb (zn n z) n.natAbs
theorem ww_fw (n : Int) : ww n false = fw n := by
  unfold ww fw zn
  by_cases h : n = 0
  · subst h; rfl
  · rw [if_neg h]
theorem sg_zn (n : Int) (z : Bool) : sg (zn n z) n.natAbs = n := by
  unfold zn sg
  by_cases h : n = 0
  · subst h; cases z <;> rfl
  · rw [if_neg h]
    by_cases h2 : n < 0 <;> simp [h2] <;> omega
theorem sg_ww (s : Bool) (c : Nat) : fb s c = ww (sg s c) s := by
  unfold ww
  rw [sg_natAbs]
  congr 1
  unfold zn sg
  cases s <;> simp <;> omega
theorem add_ww {a b : Int} (s t : Bool) (ha : -9007199254740991 ≤ a ∧ a ≤ 9007199254740991) (hb : -9007199254740991 ≤ b ∧ b ≤ 9007199254740991) (h : -9007199254740991 ≤ a + b ∧ a + b ≤ 9007199254740991) : double.add (ww a s) (ww b t) = some (ww (a + b) (zn a s && zn b t)) := by
  have e := add_fb (zn a s) (zn b t) a.natAbs b.natAbs (by omega) (by omega) (by rw [sg_zn, sg_zn]; omega)
  rw [sg_zn, sg_zn] at e
  exact e
theorem sub_ww {a b : Int} (s t : Bool) (ha : -9007199254740991 ≤ a ∧ a ≤ 9007199254740991) (hb : -9007199254740991 ≤ b ∧ b ≤ 9007199254740991) (h : -9007199254740991 ≤ a - b ∧ a - b ≤ 9007199254740991) : double.sub (ww a s) (ww b t) = some (ww (a - b) (zn a s && !zn b t)) := by
  have e := sub_fb (zn a s) (zn b t) a.natAbs b.natAbs (by omega) (by omega) (by rw [sg_zn, sg_zn]; omega)
  rw [sg_zn, sg_zn] at e
  exact e
theorem zn_mul (a b : Int) (s t : Bool) : zn (a * b) (zn a s ^^ zn b t) = (zn a s ^^ zn b t) := by
  unfold zn
  by_cases h0 : a * b = 0
  · rw [if_pos h0]
  · rw [if_neg h0]
    have ha : a ≠ 0 := fun h => h0 (by rw [h, Int.zero_mul])
    have hb : b ≠ 0 := fun h => h0 (by rw [h, Int.mul_zero])
    rw [if_neg ha, if_neg hb]
    by_cases h1 : a < 0 <;> by_cases h2 : b < 0
    · have := Int.mul_pos_of_neg_of_neg h1 h2
      simp [h1, h2]; omega
    · have := Int.mul_neg_of_neg_of_pos h1 (show 0 < b by omega)
      simp [h1, h2]; omega
    · have := Int.mul_neg_of_pos_of_neg (show 0 < a by omega) h2
      simp [h1, h2]; omega
    · have := Int.mul_pos (show 0 < a by omega) (show 0 < b by omega)
      simp [h1, h2]; omega
theorem mul_ww {a b : Int} (s t : Bool) (ha : -9007199254740991 ≤ a ∧ a ≤ 9007199254740991) (hb : -9007199254740991 ≤ b ∧ b ≤ 9007199254740991) (h : -9007199254740991 ≤ a * b ∧ a * b ≤ 9007199254740991) : double.mul (ww a s) (ww b t) = some (ww (a * b) (zn a s ^^ zn b t)) := by
  have e := mul_fb (zn a s) (zn b t) a.natAbs b.natAbs (by omega) (by omega) (by rw [← Int.natAbs_mul]; omega)
  rw [← Int.natAbs_mul] at e
  have g : ww (a * b) (zn a s ^^ zn b t) = fb (zn a s ^^ zn b t) (a * b).natAbs := by unfold ww; rw [zn_mul]
  rw [g]
  exact e
theorem order_ww {a b : Int} (s t : Bool) (ha : -9007199254740991 ≤ a ∧ a ≤ 9007199254740991) (hb : -9007199254740991 ≤ b ∧ b ≤ 9007199254740991) : double.order (ww a s) (ww b t) = some (compare a b) := by
  have e := order_fb (zn a s) (zn b t) a.natAbs b.natAbs (by omega) (by omega)
  rw [sg_zn, sg_zn] at e
  exact e
theorem int_ww {n : Int} (s : Bool) (h : -9007199254740991 ≤ n ∧ n ≤ 9007199254740991) (way : Toward) : (double.read (ww n s)).toInt way = some n := by
  have := fb_toInt (zn n s) n.natAbs (by omega) way
  rw [sg_zn] at this
  exact this
theorem val_ww {n : Int} (s : Bool) (h : -9007199254740991 ≤ n ∧ n ≤ 9007199254740991) : floatToIntVal .f64 (ww n s) .i64 = some n := by
  unfold floatToIntVal
  show (match (double.read (ww n s)).toInt .zero with | some n => _ | none => none) = _
  rw [int_ww s h]
  exact if_pos (by simp [IntKind.min, IntKind.max, IntKind.signed, IntKind.bits]; omega)
theorem ofInt_ww (n : Int) : floatOfInt .f64 n = ww n false := by rw [ww_fw]; rfl
theorem xor_sign (r : Nat) (h : r < 9223372036854775808) : r ^^^ 9223372036854775808 = 9223372036854775808 + r ∧ (9223372036854775808 + r) ^^^ 9223372036854775808 = r := by
  have e := Nat.two_pow_add_eq_or_of_lt (i := 63) (b := r) h 1
  rw [Nat.mul_one] at e
  have e2 : (9223372036854775808 : Nat) = 2 ^ 63 := rfl
  rw [e2, e]
  have hb : ∀ i, r.testBit i = true → i < 63 := fun i hi => by
    by_cases h1 : i < 63
    · exact h1
    · have h2 : 2 ^ 63 ≤ 2 ^ i := Nat.pow_le_pow_right (by omega) (by omega)
      have : r < 2 ^ i := by omega
      rw [Nat.testBit_lt_two_pow this] at hi
      cases hi
  constructor
  · apply Nat.eq_of_testBit_eq
    intro i
    simp only [Nat.testBit_xor, Nat.testBit_or, Nat.testBit_two_pow]
    by_cases h1 : 63 = i
    · subst h1
      cases h2 : r.testBit 63
      · rfl
      · have := hb _ h2; omega
    · simp [h1]
  · apply Nat.eq_of_testBit_eq
    intro i
    simp only [Nat.testBit_xor, Nat.testBit_or, Nat.testBit_two_pow]
    by_cases h1 : 63 = i
    · subst h1
      cases h2 : r.testBit 63
      · rfl
      · have := hb _ h2; omega
    · simp [h1]
theorem neg_word (s : Bool) (r : Nat) (h : r < 9223372036854775808) : Op.negFloat .f64 (double.word s r) = double.word (!s) r := by
  show double.word s r ^^^ 9223372036854775808 = _
  obtain ⟨h1, h2⟩ := xor_sign r h
  unfold Format.word
  rw [sign_d]
  cases s
  · exact h1
  · exact h2
theorem neg_fb (s : Bool) (c : Nat) (h : c < 9007199254740992) : Op.negFloat .f64 (fb s c) = fb (!s) c := by
  by_cases h0 : c = 0
  · subst h0
    have e : ∀ neg, fb neg 0 = double.word neg 0 := fun neg => by unfold fb Format.nearest; simp
    rw [e, e]
    exact neg_word s 0 (by omega)
  · have e : ∀ neg, fb neg c = double.word neg ((c.log2 + 1022) * 4503599627370496 + c * 2 ^ (52 - c.log2)) := fun neg => by
      have := nearest_form neg c 0 h0 h
      simp only [Nat.pow_zero, Nat.mul_one, Int.natCast_zero, Int.neg_zero] at this
      exact this
    rw [e, e]
    refine neg_word s _ ?_
    have hl := log2_le h
    have h2 := @Nat.lt_log2_self c
    have h3 : c * 2 ^ (52 - c.log2) < 2 ^ (c.log2 + 1) * 2 ^ (52 - c.log2) := Nat.mul_lt_mul_of_pos_right h2 (Nat.two_pow_pos _)
    rw [← Nat.pow_add, show c.log2 + 1 + (52 - c.log2) = 53 by omega] at h3
    generalize c * 2 ^ (52 - c.log2) = m at *
    omega
theorem neg_ww {n : Int} (s : Bool) (h : -9007199254740991 ≤ n ∧ n ≤ 9007199254740991) : Op.negFloat .f64 (ww n s) = ww (-n) (!s) := by
  unfold ww
  rw [neg_fb _ _ (by omega), Int.natAbs_neg]
  congr 1
  unfold zn
  by_cases h0 : n = 0
  · subst h0; simp
  · have h1 : ¬ -n = 0 := by omega
    rw [if_neg h0, if_neg h1]
    by_cases h2 : n < 0
    · have : ¬ -n < 0 := by omega
      simp [h2]; omega
    · simp [h2]; omega

/-! Words of any kind. -/
theorem swap_order (d e : Datum) : d.order e = (e.order d).map Ordering.swap := by
  cases d <;> cases e <;> simp [Datum.order]
  · rw [Int.min_comm]
    exact (Std.OrientedCmp.eq_swap (cmp := (compare : Int → Int → Ordering)))
  · rename_i s _ _ t; cases t <;> rfl
  · rename_i s _ _ t; cases s <;> rfl
  · rename_i s t; cases s <;> cases t <;> rfl
theorem order_swap (x y : Nat) : double.order x y = (double.order y x).map Ordering.swap := swap_order _ _
theorem write_read (x : Nat) (hx : x < 18446744073709551616) (s : Bool) (m : Nat) (e : Int) (hr : double.read x = .number s m e) : double.write (double.read x) = x ∧ (m = 0 ∨ ∃ c : Nat, e = -1074 + (c : Int) ∧ (c ≠ 0 → 4503599627370496 ≤ m) ∧ m < 9007199254740992) := by
  have hw : ∀ r, x % 9223372036854775808 = r → double.word (x / 9223372036854775808 % 2 == 1) r = x := fun r hr => by
    unfold Format.word
    rw [sign_d]
    have : x / 9223372036854775808 = 0 ∨ x / 9223372036854775808 = 1 := by omega
    rcases this with h | h
    · rw [h, if_neg (by decide)]; omega
    · rw [h, if_pos (by decide)]; omega
  have hr0 := hr
  unfold Format.read at hr
  dsimp only at hr
  rw [sign_d, binade_d, inf_d, least_d] at hr
  generalize hq : x % 9223372036854775808 = r at *
  generalize hs : (x / 9223372036854775808 % 2 == 1) = b at *
  have hw := hw r rfl
  by_cases h1 : r < 4503599627370496
  · rw [if_pos h1] at hr
    rw [hr0]
    rw [Datum.number.injEq] at hr
    obtain ⟨rfl, rfl, rfl⟩ := hr
    refine ⟨?_, .inr ⟨0, rfl, fun h => absurd rfl h, by omega⟩⟩
    show double.nearest b r (-1074) = x
    unfold Format.nearest
    by_cases h0 : r = 0
    · rw [if_pos h0]; subst h0; exact hw
    · rw [if_neg h0, least_d, binade_d, inf_d]
      dsimp only
      have hl : r.log2 ≤ 52 := log2_le (by omega)
      have e1 : max (-1074 + ((r.log2 : Nat) : Int) - (double.fractionBits : Int)) (-1074) = -1074 := by
        have : (double.fractionBits : Int) = 52 := rfl
        omega
      rw [e1]
      have e2 : ((-1074 : Int) - -1074).toNat = 0 := rfl
      rw [e2, cut_zero, Nat.shiftLeft_zero, Nat.zero_mul, Nat.zero_add, Nat.min_eq_left (by omega)]
      exact hw
  · rw [if_neg h1] at hr
    by_cases h2 : r < 9218868437227405312
    · rw [if_pos h2] at hr
      rw [hr0]
      have hm : 4503599627370496 + r % 4503599627370496 < 9007199254740992 := by omega
      have hlog : (4503599627370496 + r % 4503599627370496).log2 = 52 := by
        rw [Nat.log2_eq_iff (by omega)]
        omega
      have hb : r = (r / 4503599627370496) * 4503599627370496 + r % 4503599627370496 := by omega
      have hb1 : 1 ≤ r / 4503599627370496 := by omega
      rw [Datum.number.injEq] at hr
      obtain ⟨rfl, rfl, rfl⟩ := hr
      refine ⟨?_, .inr ⟨r / 4503599627370496 - 1, rfl, fun _ => by omega, hm⟩⟩
      show double.nearest b _ _ = x
      unfold Format.nearest
      rw [if_neg (by omega), hlog, least_d, binade_d, inf_d]
      dsimp only
      have e1 : max (-1074 + ((r / 4503599627370496 - 1 : Nat) : Int) + ((52 : Nat) : Int) - (double.fractionBits : Int)) (-1074) = -1074 + ((r / 4503599627370496 - 1 : Nat) : Int) := by
        have : (double.fractionBits : Int) = 52 := rfl
        omega
      rw [e1, Int.sub_self]
      have e2 : ((-1074 : Int) + ((r / 4503599627370496 - 1 : Nat) : Int) - -1074).toNat = r / 4503599627370496 - 1 := by omega
      rw [e2, show Int.toNat 0 = 0 from rfl, cut_zero, Nat.shiftLeft_zero, Nat.min_eq_left (by omega), show (r / 4503599627370496 - 1) * 4503599627370496 + (4503599627370496 + r % 4503599627370496) = r by omega]
      exact hw
    · rw [if_neg h2] at hr
      by_cases h3 : r = 9218868437227405312
      · rw [if_pos h3] at hr; cases hr
      · rw [if_neg h3] at hr; cases hr

/-- Within the bounds, by the comparisons that are made. -/
def inLo (x : Nat) : Bool := double.order 13920626448202203136 x == some .lt || double.order 13920626448202203136 x == some .eq
def inHi (x : Nat) : Bool := double.order x 4697254411347427328 == some .lt || double.order x 4697254411347427328 == some .eq
/-- Without what is behind the point. -/
def truncw (x : Nat) : Nat := double.write ((double.read x).integral .zero)
def isT (x : Nat) : Bool := double.order x (truncw x) == some .eq
def wp (x : Nat) : Bool := inLo x && (inHi x && isT x)
theorem lit_lo : 13920626448202203136 = ww (-1048576) false := by decide +kernel
theorem lit_hi : 4697254411347427328 = ww 1048576 false := by decide +kernel
theorem lit_one : 4607182418800017408 = ww 1 false := by decide +kernel
theorem lit_zero : 0 = ww 0 false := by decide +kernel
theorem inLo_ge (x : Nat) : (double.order x 13920626448202203136 == some .gt || double.order x 13920626448202203136 == some .eq) = inLo x := by
  unfold inLo
  rw [order_swap x]
  cases double.order 13920626448202203136 x with
  | none => rfl
  | some o => cases o <;> rfl
/-- How a number whose last place is k below the point stands to a whole one. -/
theorem order_k {x : Nat} {s : Bool} {m k : Nat} (hr : double.read x = .number s m (-(k : Int))) (t : Bool) (c : Nat) (hc : c < 9007199254740992) : double.order x (fb t c) = some (compare (sg s m) (sg t c * 2 ^ k)) := by
  obtain ⟨j, e2⟩ := read_fb t c hc
  unfold Format.order
  rw [hr, e2]
  unfold Datum.order
  dsimp only
  have e0 : min (-(k : Int)) (-(j : Int)) = -((max k j : Nat) : Int) := by omega
  have e1 : (-(k : Int) - -((max k j : Nat) : Int)).toNat = max k j - k := by omega
  have e2 : (-(j : Int) - -((max k j : Nat) : Int)).toNat = max k j - j := by omega
  have e3 : signed s m (max k j - k) = sg s m * 2 ^ (max k j - k) := by
    have := signed_up s m 0 (max k j - k)
    rw [Nat.pow_zero, Nat.mul_one, Nat.zero_add] at this
    exact this
  rw [e0, e1, e2, signed_up, e3, show j + (max k j - j) = k + (max k j - k) by omega, Int.pow_add, ← Int.mul_assoc]
  generalize max k j - k = d
  have hp : (0 : Int) < 2 ^ d := Int.pow_pos (by omega)
  congr 1
  rw [Int.compare_eq_ite_lt, Int.compare_eq_ite_lt]
  have l : ∀ a b : Int, a * 2 ^ d < b * 2 ^ d ↔ a < b := fun a b => ⟨fun h => Int.lt_of_mul_lt_mul_right h (by omega), fun h => Int.mul_lt_mul_of_pos_right h hp⟩
  simp only [l]
theorem cmp_le {a b : Int} : (some (compare a b) == some Ordering.lt || some (compare a b) == some Ordering.eq) = decide (a ≤ b) := by
  rw [Int.compare_eq_ite_lt]
  by_cases h1 : a < b
  · have : a ≤ b := by omega
    simp [h1, this]
  · by_cases h2 : b < a
    · have : ¬ a ≤ b := by omega
      simp [h1, h2, this]
    · have : a ≤ b := by omega
      simp [h1, h2, this]
theorem cmp_eq {a b : Int} : (some (compare a b) == some Ordering.eq) = decide (a = b) := by
  by_cases h : a = b
  · subst h; simp
  · simp [h]
/-- A number within the bounds: where its last place is. -/
theorem in_read {x : Nat} (hx : x < 18446744073709551616) (h1 : inLo x = true) (h2 : inHi x = true) : ∃ s m, ∃ k : Nat, double.read x = .number s m (-(k : Int)) ∧ m ≤ 1048576 * 2 ^ k := by
  cases hr : double.read x with
  | nan s t =>
    exfalso
    unfold inHi Format.order at h2
    rw [hr] at h2
    cases h2
  | infinity s =>
    exfalso
    have e1 : double.read 4697254411347427328 = .number false 4503599627370496 (-32) := by decide +kernel
    have e2 : double.read 13920626448202203136 = .number true 4503599627370496 (-32) := by decide +kernel
    unfold inHi Format.order at h2
    unfold inLo Format.order at h1
    rw [hr, e1] at h2
    rw [hr, e2] at h1
    cases s
    · cases h2
    · cases h1
  | number s m e =>
    obtain ⟨-, h3⟩ := write_read x hx s m e hr
    have key : ∃ k : Nat, e = -(k : Int) ∨ m = 0 := by
      rcases h3 with h3 | ⟨c, rfl, h4, h5⟩
      · exact ⟨0, .inr h3⟩
      · by_cases hc : c ≤ 1074
        · exact ⟨1074 - c, .inl (by omega)⟩
        · exfalso
          replace h4 := h4 (by omega)
          -- too great
          have e1 : double.read 4697254411347427328 = .number false 4503599627370496 (-32) := by decide +kernel
          have e2 : double.read 13920626448202203136 = .number true 4503599627370496 (-32) := by decide +kernel
          obtain ⟨d, hd⟩ : ∃ d, c = 1074 + d := ⟨c - 1074, by omega⟩
          subst hd
          have g1 : (-1074 + ((1074 + d : Nat) : Int)) = (d : Int) := by omega
          rw [g1] at hr
          have f1 : min ((d : Nat) : Int) (-32) = -32 := by omega
          have f2 : min (-32) ((d : Nat) : Int) = -32 := by omega
          have f3 : ((d : Int) - -32).toNat = d + 32 := by omega
          have f4 : ((-32 : Int) - -32).toNat = 0 := rfl
          have f5 : 4503599627370496 * 1 ≤ m * 2 ^ (d + 32) := Nat.mul_le_mul h4 (Nat.two_pow_pos _)
          have f6 : 2 ^ 32 ≤ 2 ^ (d + 32) := Nat.pow_le_pow_right (by omega) (by omega)
          have f7 : 4503599627370496 * 4294967296 ≤ m * 2 ^ (d + 32) := Nat.mul_le_mul h4 f6
          unfold inHi Format.order at h2
          unfold inLo Format.order at h1
          rw [hr, e1] at h2
          rw [hr, e2] at h1
          unfold Datum.order at h1 h2
          dsimp only at h1 h2
          rw [f1, f3, f4, cmp_le] at h2
          rw [f2, f3, f4, cmp_le] at h1
          have g := of_decide_eq_true h1
          have g' := of_decide_eq_true h2
          unfold signed at g g'
          rw [Nat.shiftLeft_eq, Nat.shiftLeft_eq] at g g'
          generalize m * 2 ^ (d + 32) = q at *
          cases s
          · simp at g g'; omega
          · simp at g g'; omega
    obtain ⟨k, hk⟩ := key
    rcases hk with rfl | rfl
    · refine ⟨s, m, k, rfl, ?_⟩
      have o1 := order_k hr false 1048576 (by omega)
      have o2 := order_k hr true 1048576 (by omega)
      unfold inHi at h2
      unfold inLo at h1
      rw [show (4697254411347427328 : Nat) = fb false 1048576 by decide +kernel, o1, cmp_le] at h2
      rw [order_swap, show (13920626448202203136 : Nat) = fb true 1048576 by decide +kernel, o2] at h1
      have g' := of_decide_eq_true h2
      have g : sg true 1048576 * 2 ^ k ≤ sg s m := by
        by_cases hh : sg true 1048576 * 2 ^ k ≤ sg s m
        · exact hh
        · exfalso
          rw [Int.compare_eq_ite_lt, if_pos (by omega)] at h1
          cases h1
      clear h1 h2 o1 o2 hr h3
      have f : ((1048576 * 2 ^ k : Nat) : Int) = (1048576 : Int) * 2 ^ k := by simp
      unfold sg at g g'
      simp only [if_true, Bool.false_eq_true, if_false] at g g'
      have e : (-((1048576 : Nat) : Int)) * 2 ^ k = -((1048576 : Int) * 2 ^ k) := by rw [Int.neg_mul]; rfl
      rw [e] at g
      have e' : (((1048576 : Nat) : Int)) * 2 ^ k = ((1048576 : Int) * 2 ^ k) := rfl
      rw [e'] at g'
      rw [← f] at g g'
      generalize 1048576 * 2 ^ k = q at *
      cases s
      · simp at g g'; omega
      · simp at g g'; omega
    · rcases h3 with h3 | ⟨c, rfl, h4, h5⟩
      · -- a 0: its place is the least
        have hr0 := hr
        unfold Format.read at hr
        dsimp only at hr
        rw [binade_d, inf_d, least_d] at hr
        generalize x % double.signWeight = r at *
        generalize (x / double.signWeight % 2 == 1) = b at *
        split at hr
        · rw [Datum.number.injEq] at hr
          obtain ⟨e1, e2, e3⟩ := hr
          exact ⟨s, 0, 1074, by rw [← e3]; rfl, by omega⟩
        · split at hr
          · rw [Datum.number.injEq] at hr
            obtain ⟨e1, e2, e3⟩ := hr
            omega
          · split at hr <;> cases hr
      · by_cases hc : c = 0
        · subst hc; exact ⟨s, 0, 1074, by rfl, by omega⟩
        · exact absurd (h4 hc) (by omega)
theorem sg_bd (s : Bool) {c : Nat} (h : c ≤ 1048576) : -1048576 ≤ sg s c ∧ sg s c ≤ 1048576 := by
  unfold sg
  cases s <;> simp <;> omega
theorem cut_trunc (s : Bool) (m k : Nat) : Toward.zero.cut s m k = m / 2 ^ k := by
  unfold Toward.cut
  dsimp only
  rw [Nat.one_shiftLeft]
  show m / 2 ^ min k (m.log2 + 2) + 0 = _
  rw [Nat.add_zero]
  by_cases h : k ≤ m.log2 + 2
  · rw [Nat.min_eq_left h]
  · rw [Nat.min_eq_right (by omega)]
    have h1 := @Nat.lt_log2_self m
    have h2 : 2 ^ (m.log2 + 1) ≤ 2 ^ (m.log2 + 2) := Nat.pow_le_pow_right (by omega) (by omega)
    have h3 : 2 ^ (m.log2 + 1) ≤ 2 ^ k := Nat.pow_le_pow_right (by omega) (by omega)
    rw [Nat.div_eq_of_lt (by omega), Nat.div_eq_of_lt (by omega)]
/-- What a number within the bounds is without what is behind the point. -/
theorem in_facts {x : Nat} (hx : x < 18446744073709551616) (h1 : inLo x = true) (h2 : inHi x = true) :
    ∃ n : Int, -1048576 ≤ n ∧ n ≤ 1048576 ∧ floatToIntVal .f64 x .i64 = some n ∧ (double.order (ww n false) x == some .eq) = isT x ∧ (isT x = true → ∃ z, x = ww n z) := by
  obtain ⟨s, m, k, hr, hm⟩ := in_read hx h1 h2
  have hp : 0 < 2 ^ k := Nat.two_pow_pos k
  have hc : m / 2 ^ k ≤ 1048576 := Nat.div_le_of_le_mul (by rw [Nat.mul_comm]; exact hm)
  have hi : (double.read x).integral .zero = .number s (m / 2 ^ k) 0 := by
    rw [hr]
    unfold Datum.integral
    dsimp only
    rw [show (-(k : Int)).toNat = 0 by omega, show (-(-(k : Int))).toNat = k by omega, Nat.shiftLeft_zero, cut_trunc]
  have ht : truncw x = fb s (m / 2 ^ k) := by unfold truncw; rw [hi]; rfl
  have hT : isT x = decide (sg s m = sg s (m / 2 ^ k) * 2 ^ k) := by
    unfold isT
    rw [ht, order_k hr _ _ (by omega), cmp_eq]
  obtain ⟨hb1, hb2⟩ := sg_bd s hc
  refine ⟨sg s (m / 2 ^ k), hb1, hb2, ?_, ?_, ?_⟩
  · unfold floatToIntVal
    have e : ((FloatKind.f64.decode x).toInt .zero) = some (sg s (m / 2 ^ k)) := by
      show (double.read x).toInt .zero = _
      unfold Datum.toInt
      rw [hi]
      have := signed_up s (m / 2 ^ k) 0 0
      simp only [Nat.pow_zero, Nat.mul_one, Nat.add_zero, Int.pow_zero, Int.mul_one] at this
      show some (signed s (m / 2 ^ k) 0) = _
      rw [this]
    rw [e]
    generalize sg s (m / 2 ^ k) = q at *
    exact if_pos (by simp [IntKind.min, IntKind.max, IntKind.signed, IntKind.bits]; omega)
  · rw [hT, order_swap]
    unfold ww
    rw [order_k hr _ _ (by rw [sg_natAbs]; omega), sg_zn, Int.compare_eq_ite_lt]
    generalize sg s (m / 2 ^ k) * 2 ^ k = p
    generalize sg s m = q
    by_cases a1 : q < p
    · have : ¬ q = p := by omega
      simp [a1, this]
    · by_cases a2 : p < q
      · have : ¬ q = p := by omega
        simp [a1, a2, this]
      · have : q = p := by omega
        simp [this]
  · intro hh
    rw [hT] at hh
    have hh := of_decide_eq_true hh
    refine ⟨s, ?_⟩
    have e1 : m = m / 2 ^ k * 2 ^ k := by
      unfold sg at hh
      have f : ((m / 2 ^ k * 2 ^ k : Nat) : Int) = ((m / 2 ^ k : Nat) : Int) * 2 ^ k := by simp
      cases s
      · simp only [Bool.false_eq_true, if_false] at hh
        rw [← f] at hh
        omega
      · simp only [if_true] at hh
        rw [Int.neg_mul, ← f] at hh
        omega
    have w := (write_read x hx s m _ hr).1
    rw [← w, hr]
    have e2 := write_fb s (m / 2 ^ k) k (by omega)
    rw [← e1] at e2
    rw [e2, sg_ww]
theorem isT_ww {n : Int} (z : Bool) (h : -1048576 ≤ n ∧ n ≤ 1048576) : isT (ww n z) = true := by
  have hb : ∀ way, (double.read (ww n z)).toInt way = some n := int_ww z (by omega)
  unfold isT truncw
  obtain ⟨k, e⟩ := read_fb (zn n z) n.natAbs (by omega)
  have hi : (double.read (ww n z)).integral .zero = .number (zn n z) n.natAbs 0 := by
    show (double.read (fb (zn n z) n.natAbs)).integral .zero = _
    rw [e]
    unfold Datum.integral
    dsimp only
    rw [show (-(k : Int)).toNat = 0 by omega, show (-(-(k : Int))).toNat = k by omega, Nat.shiftLeft_zero, cut_trunc, Nat.mul_div_cancel _ (Nat.two_pow_pos k)]
  rw [hi]
  show (double.order (ww n z) (ww n z) == some .eq) = true
  rw [order_ww _ _ (by omega) (by omega), cmp_eq]
  simp
theorem inLo_ww {n : Int} (z : Bool) (h : -9007199254740991 ≤ n ∧ n ≤ 9007199254740991) : inLo (ww n z) = decide (-1048576 ≤ n) := by
  unfold inLo
  rw [lit_lo, order_ww _ _ (by omega) h, cmp_le]
theorem inHi_ww {n : Int} (z : Bool) (h : -9007199254740991 ≤ n ∧ n ≤ 9007199254740991) : inHi (ww n z) = decide (n ≤ 1048576) := by
  unfold inHi
  rw [lit_hi, order_ww _ _ h (by omega), cmp_le]
theorem wp_ww {n : Int} (z : Bool) (h : -9007199254740991 ≤ n ∧ n ≤ 9007199254740991) : wp (ww n z) = (decide (-1048576 ≤ n) && decide (n ≤ 1048576)) := by
  unfold wp
  rw [inLo_ww z h, inHi_ww z h]
  by_cases h1 : -1048576 ≤ n <;> by_cases h2 : n ≤ 1048576
  · rw [isT_ww z ⟨h1, h2⟩]; simp [h1, h2]
  all_goals simp [h1, h2]
theorem wp_is {x : Nat} (hx : x < 18446744073709551616) (h : wp x = true) : ∃ n z, x = ww n z ∧ -1048576 ≤ n ∧ n ≤ 1048576 := by
  unfold wp at h
  simp only [Bool.and_eq_true] at h
  obtain ⟨h1, h2, h3⟩ := h
  obtain ⟨n, n1, n2, -, -, hz⟩ := in_facts hx h1 h2
  obtain ⟨z, e⟩ := hz h3
  exact ⟨n, z, e, n1, n2⟩
theorem ww_lt (n : Int) (z : Bool) : ww n z < 18446744073709551616 := double.nearest_lt _ _ _

end Go.Proofs.YtgikkcnpnnbgdaaGreatDoor

namespace Go.Proofs.YtgikkcnpnnbgdaaGreatDoor
set_option linter.unusedVariables false
open Go.ChangeShapes Go.WideShapes Go.ChangeAt Go.RowKit

theorem ret_int {k : IntKind} {a b : Int} (h : a = b) : Ending.returned (.int k a) = .returned (.int k b) := by rw [h]

end Go.Proofs.YtgikkcnpnnbgdaaGreatDoor

namespace Go.Proofs.YtgikkcnpnnbgdaaGreatDoor
set_option linter.unusedVariables false
open Go.ChangeShapes Go.WideShapes Go.ChangeAt Go.RowKit

set_option maxHeartbeats 4000000 in
theorem pick_c (n m : Int) (hn : -9223372036854775808 ≤ n) (hn' : n ≤ 9223372036854775807) (hm : 0 < m) (hm' : m ≤ 9223372036854775807) (W : World) :
    Calls Tryz.prog 17 #[.int .i64 n, .int .i64 m] W fun e w' => e = .returned (.int .i64 (n % m)) ∧ W = w' := by
  have h1 := Int.emod_nonneg n (show m ≠ 0 by omega)
  have h2 := Int.emod_lt_of_pos n hm
  by_cases h0 : 0 ≤ n
  · have h3 : ¬ n % m < 0 := by omega
    go_enter Tryz.func17, Tryz.ntmps17
    go_wp2_with fail
    go_ret
    exact ⟨rfl, rfl⟩
  · have h4 : n.tmod m = -((-n).tmod m) := by rw [Int.neg_tmod]; omega
    have h5 : (-n).tmod m = (-n) % m := Int.tmod_eq_emod_of_nonneg (by omega)
    have h6 := Int.emod_nonneg (-n) (show m ≠ 0 by omega)
    have h7 := Int.emod_lt_of_pos (-n) hm
    have h8 : n % m = if n.tmod m < 0 then n.tmod m + m else n.tmod m := by
      have h9 := Int.tmod_eq_emod (a := n) (b := m)
      have h10 : m.natAbs = m := by omega
      split at h9 <;> split <;> omega
    rw [h8]
    clear h8
    by_cases h11 : n.tmod m < 0
    · rw [if_pos h11]
      have hb : -m < n.tmod m := by omega
      clear h4 h5 h6 h7 h1 h2
      go_enter Tryz.func17, Tryz.ntmps17
      go_wp2_with fail
      go_ret
      exact ⟨rfl, rfl⟩
    · rw [if_neg h11]
      clear h4 h5 h6 h7 h1 h2
      go_enter Tryz.func17, Tryz.ntmps17
      go_wp2_with fail
      go_ret
      exact ⟨rfl, rfl⟩

end Go.Proofs.YtgikkcnpnnbgdaaGreatDoor

namespace Go.Proofs.YtgikkcnpnnbgdaaGreatDoor
set_option linter.unusedVariables false
open Go.ChangeShapes Go.WideShapes Go.ChangeAt Go.RowKit

abbrev Fl := Nat
/-- A complex number of whole parts, with the signs of its zeros. -/
structure Cx where
  x : Int
  s : Bool
  y : Int
  t : Bool
@[reducible] def cxV (c : Cx) : Value := .complex .f64 (ww c.x c.s) (ww c.y c.t)
/-- Any complex number. -/
structure Cw where
  a : Nat
  b : Nat
@[reducible] def cwV (c : Cw) : Value := .complex .f64 c.a c.b
structure Pt where
  x : Int
  y : Int
@[reducible] def ptV (p : Pt) : Value := .agg #[.int .i64 p.x, .int .i64 p.y]
structure Bm where
  n : Cx
  d : Cx
@[reducible] def bmV (b : Bm) : Value := .agg #[cxV b.n, cxV b.d]
structure Bp where
  n : Pt
  d : Pt
@[reducible] def bpV (b : Bp) : Value := .agg #[.int .i64 b.n.x, .int .i64 b.n.y, .int .i64 b.d.x, .int .i64 b.d.y]
structure M4 where
  a : Int
  b : Int
  c : Int
  d : Int
@[reducible] def m4V (m : M4) : Value := .agg #[.int .i64 m.a, .int .i64 m.b, .int .i64 m.c, .int .i64 m.d]
/-- A word of a float64. -/
def OkW (x : Nat) : Prop := x < 18446744073709551616
/-- Within the bounds. -/
def OkIn (x : Nat) : Prop := inLo x = true
theorem okW_ww (n : Int) (z : Bool) : OkW (ww n z) := ww_lt n z

@[go_sem] theorem fmt64 : FloatKind.f64.format = Ieee.double := rfl
@[go_sem] theorem unary_negf (k : FloatKind) (b : Nat) : Op.unary .neg (.float k b) = pure (.float k (Op.negFloat k b)) := rfl
section
variable (P : Program) (w : World) (a : Addr) (m : Mode)
@[go_sem] theorem run_store_complex (k : FloatKind) (x y : Nat) : (store a (.complex k x y) m).run P w = stored P w a (.complex k x y) m := run_store P w a _ m rfl
@[go_sem] theorem run_store_float (k : FloatKind) (x : Nat) : (store a (.float k x) m).run P w = stored P w a (.float k x) m := run_store P w a _ m rfl
end


attribute [go_sem] ofInt_ww

/-! What operations on whole parts give. -/
section
variable {P : Program}
@[reducible] def In52 (n : Int) : Prop := -4503599627370495 ≤ n ∧ n ≤ 4503599627370495
theorem cadd {a b c d : Int} (s t u v : Bool) (ha : In52 a) (hb : In52 b) (hc : In52 c) (hd : In52 d) (T : TypeId) (w : World) :
    (binOp .add T (.complex .f64 (ww a s) (ww b t)) (.complex .f64 (ww c u) (ww d v))).run P w = .ok (.complex .f64 (ww (a + c) (zn a s && zn c u)) (ww (b + d) (zn b t && zn d v))) w := by
  refine run_complex_sum w .add (.inl rfl) T .f64 _ _ _ _ _ _ ?_
  have e1 := add_ww (a := a) (b := c) s u (by omega) (by omega) (by omega)
  have e2 := add_ww (a := b) (b := d) t v (by omega) (by omega) (by omega)
  unfold cSumBits floatBits
  show ((Ieee.double.add (ww a s) (ww c u)).bind fun re => (Ieee.double.add (ww b t) (ww d v)).bind fun im => some (re, im)) = _
  rw [e1, e2]
  rfl
theorem cmul {a b c d : Int} (s t u v : Bool) (ha : In52 a) (hb : In52 b) (hc : In52 c) (hd : In52 d) (h1 : In52 (a * c)) (h2 : In52 (b * d)) (h3 : In52 (a * d)) (h4 : In52 (b * c)) (x y : Int) (hx : a * c - b * d = x) (hy : a * d + b * c = y) :
    ∃ p q, ∀ (T : TypeId) (w : World), (binOp .mul T (.complex .f64 (ww a s) (ww b t)) (.complex .f64 (ww c u) (ww d v))).run P w = .ok (.complex .f64 (ww x p) (ww y q)) w := by
  subst hx hy
  have e1 := mul_ww (a := a) (b := c) s u (by omega) (by omega) (by omega)
  have e2 := mul_ww (a := b) (b := d) t v (by omega) (by omega) (by omega)
  have e3 := mul_ww (a := a) (b := d) s v (by omega) (by omega) (by omega)
  have e4 := mul_ww (a := b) (b := c) t u (by omega) (by omega) (by omega)
  have e5 := sub_ww (a := a * c) (b := b * d) (zn a s ^^ zn c u) (zn b t ^^ zn d v) (by omega) (by omega) (by omega)
  have e6 := add_ww (a := a * d) (b := b * c) (zn a s ^^ zn d v) (zn b t ^^ zn c u) (by omega) (by omega) (by omega)
  generalize (zn (a * c) (zn a s ^^ zn c u) && !zn (b * d) (zn b t ^^ zn d v)) = p at e5
  generalize (zn (a * d) (zn a s ^^ zn d v) && zn (b * c) (zn b t ^^ zn c u)) = q at e6
  have key : cMulBits (ww a s) (ww b t) (ww c u) (ww d v) = some (ww (a * c - b * d) p, ww (a * d + b * c) q) := by
    unfold cMulBits floatBits
    show ((Ieee.double.mul (ww a s) (ww c u)).bind fun ac => (Ieee.double.mul (ww b t) (ww d v)).bind fun bd => (Ieee.double.sub ac bd).bind fun re =>
      (Ieee.double.mul (ww a s) (ww d v)).bind fun ad => (Ieee.double.mul (ww b t) (ww c u)).bind fun bc => (Ieee.double.add ad bc).bind fun im => some (re, im)) = _
    rw [e1, e2, e3, e4]
    simp only [Option.bind_some]
    rw [e5, e6]
    rfl
  exact ⟨p, q, fun T w => run_complex_mul w T _ _ _ _ _ _ key⟩
theorem fadd {a c : Int} (s u : Bool) (ha : In52 a) (hc : In52 c) (T : TypeId) (w : World) :
    (binOp .add T (.float .f64 (ww a s)) (.float .f64 (ww c u))).run P w = .ok (.float .f64 (ww (a + c) (zn a s && zn c u))) w := by
  refine run_float_arith w .add T .f64 _ _ _ ?_
  exact add_ww (a := a) (b := c) s u (by omega) (by omega) (by omega)
theorem fmul {a c : Int} (s u : Bool) (ha : In52 a) (hc : In52 c) (h1 : In52 (a * c)) (T : TypeId) (w : World) :
    (binOp .mul T (.float .f64 (ww a s)) (.float .f64 (ww c u))).run P w = .ok (.float .f64 (ww (a * c) (zn a s ^^ zn c u))) w := by
  refine run_float_arith w .mul T .f64 _ _ _ ?_
  exact mul_ww (a := a) (b := c) s u (by omega) (by omega) (by omega)
end
theorem eq_ww {a b : Int} (s t : Bool) (ha : In52 a) (hb : In52 b) : (Ieee.double.order (ww a s) (ww b t) == some .eq) = decide (a = b) := by
  rw [order_ww s t (by omega) (by omega), cmp_eq]
theorem lt_ww {a b : Int} (s t : Bool) (ha : In52 a) (hb : In52 b) : (Ieee.double.order (ww a s) (ww b t) == some .lt) = decide (a < b) := by
  rw [order_ww s t (by omega) (by omega), Int.compare_eq_ite_lt]
  by_cases h : a < b
  · simp [h]
  · by_cases h2 : b < a <;> simp [h, h2]

def smallI (n : Int) : Bool := decide (-1048576 ≤ n) && decide (n ≤ 1048576)
def OkNot (a b : Nat) : Prop := (wp a && wp b) = false

@[go_sem] theorem and3 (n : Int) : _root_.Go.bits .and .i64 n 3 = n % 4 := by
  have h3 : (BitVec.ofInt 64 3).toNat = 2 ^ 2 - 1 := by decide
  have key : (BitVec.ofInt 64 n &&& BitVec.ofInt 64 3).toNat = (n % ((2 ^ 64 : Nat) : Int)).toNat % 2 ^ 2 := by
    rw [BitVec.toNat_and, BitVec.toNat_ofInt, h3, Nat.and_two_pow_sub_one_eq_mod]
  show IntKind.i64.wrap ((BitVec.ofInt 64 n &&& BitVec.ofInt 64 3).toNat : Nat) = n % 4
  rw [key, IntKind.wrap_i64]
  omega

/-- Squares, and products, of what is within bounds. -/
theorem sq_in {n : Int} (h : -1048577 ≤ n ∧ n ≤ 1048577) : 0 ≤ n * n ∧ n * n ≤ 1099513724929 := by
  have a : n * n = n.natAbs * n.natAbs := by rw [← Int.natAbs_mul_self]; rfl
  have b : n.natAbs * n.natAbs ≤ 1048577 * 1048577 := Nat.mul_le_mul (by omega) (by omega)
  have c : ((n.natAbs * n.natAbs : Nat) : Int) = (n.natAbs : Int) * n.natAbs := by simp
  omega
theorem mul_in {m n : Int} (hm : -2097152 ≤ m ∧ m ≤ 2097152) (h : -2097152 ≤ n ∧ n ≤ 2097152) : -4398046511104 ≤ m * n ∧ m * n ≤ 4398046511104 := by
  have a : (m * n).natAbs = m.natAbs * n.natAbs := Int.natAbs_mul m n
  have b : m.natAbs * n.natAbs ≤ 2097152 * 2097152 := Nat.mul_le_mul (by omega) (by omega)
  omega

/-! In plain numbers. -/
def nrm (x y : Int) : Int := x * x + y * y
def nearI (n : Int) : Int := if n < 0 then n + 1 else n
def farI (x y : Int) : Int := max (x * x) ((x + 1) * (x + 1)) + max (y * y) ((y + 1) * (y + 1))
def clampI (n k : Int) : Int := min (max n 0) k
def discI (x y n : Int) : Int := if farI x y ≤ clampI n 1048576 * clampI n 1048576 then 1 else if clampI n 1048576 * clampI n 1048576 < nrm (nearI x) (nearI y) then 2 else 0
def turn1 (p : Pt) : Pt := ⟨-p.y, p.x⟩
def turnN : Nat → Pt → Pt
  | 0, p => p
  | k + 1, p => turnN k (turn1 p)
def turnI (p : Pt) (k : Int) : Pt := turnN (k % 4).toNat p
@[reducible] def cxP (p : Pt) : Value := .complex .f64 (ww p.x false) (ww p.y false)

structure Fx where
  n : Int
  z : Bool
@[reducible] def fxV (f : Fx) : Value := .float .f64 (ww f.n f.z)

theorem turnI_0 {x y k : Int} (h : k % 4 = 0) : turnI ⟨x, y⟩ k = ⟨x, y⟩ := by unfold turnI; rw [h]; rfl
theorem turnI_1 {x y k : Int} (h : k % 4 = 1) : turnI ⟨x, y⟩ k = ⟨-y, x⟩ := by unfold turnI; rw [h]; rfl
theorem turnI_2 {x y k : Int} (h : k % 4 = 2) : turnI ⟨x, y⟩ k = ⟨-x, -y⟩ := by unfold turnI; rw [h]; rfl
theorem turnI_3 {x y k : Int} (h : k % 4 = 3) : turnI ⟨x, y⟩ k = ⟨y, -x⟩ := by unfold turnI; rw [h]; show (⟨- -y, -x⟩ : Pt) = _; rw [Int.neg_neg]
/-- One quarter. -/
theorem mul_i {P : Program} {x y : Int} (s t : Bool) (hx : -1048577 ≤ x ∧ x ≤ 1048577) (hy : -1048577 ≤ y ∧ y ≤ 1048577) :
    ∃ p q, ∀ (T : TypeId) (w : World), (binOp .mul T (.complex .f64 (ww x s) (ww y t)) (.complex .f64 0 4607182418800017408)).run P w = .ok (.complex .f64 (ww (-y) p) (ww x q)) w := by
  have := cmul (P := P) (a := x) (b := y) (c := 0) (d := 1) s t false false (by omega) (by omega) (by decide) (by decide) (by omega) (by omega) (by omega) (by omega) (-y) x (by omega) (by omega)
  rw [← lit_zero, ← lit_one] at this
  exact this

def zeroP (p : Pt) : Bool := decide (p.x = 0) && decide (p.y = 0)
def smallP (p : Pt) : Bool := smallI p.x && smallI p.y
def isBp (b : Bp) : Bool := smallP b.n && (smallP b.d && (!zeroP b.n || !zeroP b.d))
def smallM (m : M4) : Bool := smallI m.a && (smallI m.b && (smallI m.c && smallI m.d))
/-- The whole number of a complex one. -/
def Cx.pt (c : Cx) : Pt := ⟨c.x, c.y⟩
def Bm.bp (b : Bm) : Bp := ⟨b.n.pt, b.d.pt⟩
/-- A whole number without signs of its zeros. -/
def Pt.cx (p : Pt) : Cx := ⟨p.x, false, p.y, false⟩
def mixP (b : Bp) (k l : Int) : Pt := ⟨k * b.n.x + l * b.d.x, k * b.n.y + l * b.d.y⟩
def carried (b : Bp) (m : M4) : Bp := ⟨mixP b m.a m.b, mixP b m.c m.d⟩
def zeroBp : Bp := ⟨⟨0, 0⟩, ⟨0, 0⟩⟩
def carryB (b : Bp) (m : M4) : Bool := isBp b && (smallM m && isBp (carried b m))

theorem neq0 {x y : Int} (s t : Bool) (hx : In52 x) (hy : In52 y) : (Ieee.double.order (ww x s) 0 == some .eq && Ieee.double.order (ww y t) 0 == some .eq) = zeroP ⟨x, y⟩ := by
  have e1 := eq_ww (a := x) (b := 0) s false hx (by decide)
  have e2 := eq_ww (a := y) (b := 0) t false hy (by decide)
  rw [← lit_zero] at e1 e2
  rw [e1, e2]
  rfl

end Go.Proofs.YtgikkcnpnnbgdaaGreatDoor

namespace Go.Proofs.YtgikkcnpnnbgdaaGreatDoor
set_option linter.unusedVariables false
open Go.ChangeShapes Go.WideShapes Go.ChangeAt Go.RowKit

end Go.Proofs.YtgikkcnpnnbgdaaGreatDoor

namespace Go.Proofs.YtgikkcnpnnbgdaaGreatDoor
set_option linter.unusedVariables false
open Go.ChangeShapes Go.WideShapes Go.ChangeAt Go.RowKit

end Go.Proofs.YtgikkcnpnnbgdaaGreatDoor

namespace Go.Proofs.YtgikkcnpnnbgdaaGreatDoor
set_option linter.unusedVariables false
open Go.ChangeShapes Go.WideShapes Go.ChangeAt Go.RowKit

end Go.Proofs.YtgikkcnpnnbgdaaGreatDoor
