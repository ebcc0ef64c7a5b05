/-
  Slices of intervals: which intervals a slice's cells hold in a world; sums of powers and slopes, in plain numbers.
-/
import Derived.Test.YtolfobgpgmfnpaaDoorGb
import Derived.Test.YtolfobgpgmfnpaaDoorGa
import Derived.ArgAppend
namespace Go.Proofs.YtolfobgpgmfnpaaDoor
set_option linter.unusedVariables false
open Go.RowKit

/-- The cells of the slice v hold the intervals l. -/
def Row (w : World) (v : Value) (l : List Iv) : Prop :=
  (v = .slice none 0 0 ∧ l = []) ∨ ∃ g o c, v = .slice (some ⟨g, o, none⟩) l.length c ∧ ∀ k a, l[k]? = some a →
    w.cell? ⟨g, o + k * 3, none⟩ = some (.int .i64 a.lo) ∧ w.cell? ⟨g, o + k * 3 + 1, none⟩ = some (.int .i64 a.hi) ∧ w.cell? ⟨g, o + k * 3 + 2, none⟩ = some (.bool a.no)
theorem Row.nil (w : World) : Row w (.slice none 0 0) [] := .inl ⟨rfl, rfl⟩
theorem Row.keep {w w' : World} {v : Value} {l : List Iv} (h : Row w v l) (hb : ∀ k, k < w.heap.size → w'.heap[k]? = w.heap[k]?) : Row w' v l := by
  rcases h with h | ⟨g, o, c, hv, hc⟩
  · exact .inl h
  · refine .inr ⟨g, o, c, hv, fun k a hk => ?_⟩
    obtain ⟨h1, h2, h3⟩ := hc k a hk
    have hg : g < w.heap.size := World.block_lt_of_cell? w _ h1
    have e : ∀ n, w'.cell? ⟨g, n, none⟩ = w.cell? ⟨g, n, none⟩ := fun n => World.cell?_of_block (hb g hg)
    rw [e, e, e]
    exact ⟨h1, h2, h3⟩
theorem Row.more {w : World} {v : Value} {l : List Iv} (h : Row w v l) {r : Rest} : Row (more w r) v l := h.keep fun k hk => heap_more w r k hk
theorem Row.plus {w : World} {v : Value} {l : List Iv} {r s : Rest} (h : Row (_root_.Go.Proofs.YtolfobgpgmfnpaaDoor.more w r) v l) : Row (_root_.Go.Proofs.YtolfobgpgmfnpaaDoor.more w (r.plus s)) v l := by
  rw [← more_more]
  exact h.more
theorem Row.alloc {w : World} {v : Value} {l : List Iv} (h : Row w v l) {o : Obj} : Row (w.alloc o) v l := h.keep fun k hk => Below.heap_alloc w o k hk
theorem Row.drew {w : World} {v : Value} {l : List Iv} (h : Row w v l) : Row w.drew v l := h.keep fun _ _ => rfl
theorem Row.drewN {w : World} {v : Value} {l : List Iv} (h : Row w v l) {n : Nat} : Row (w.drewN n) v l := h.keep fun _ _ => rfl
theorem Row.up {w w' : World} {v : Value} {l : List Iv} (h : Row w v l) (hm : More w w') : Row w' v l := by
  obtain ⟨r, rfl⟩ := hm
  exact h.more

/-- One interval's three cells; those of a list. -/
def cells1 (a : Iv) : List Value := [.int .i64 a.lo, .int .i64 a.hi, .bool a.no]
def cellsL : List Iv → List Value
  | [] => []
  | a :: r => cells1 a ++ cellsL r
theorem cellsL_length : ∀ l : List Iv, (cellsL l).length = l.length * 3
  | [] => rfl
  | a :: r => by simp [cellsL, cells1, cellsL_length r]; omega
theorem cellsL_append : ∀ l m : List Iv, cellsL (l ++ m) = cellsL l ++ cellsL m
  | [], m => rfl
  | a :: r, m => by simp [cellsL, cellsL_append r m]
theorem cellsL_at : ∀ (l : List Iv) (k : Nat) (a : Iv), l[k]? = some a →
    (cellsL l)[k * 3]? = some (.int .i64 a.lo) ∧ (cellsL l)[k * 3 + 1]? = some (.int .i64 a.hi) ∧ (cellsL l)[k * 3 + 2]? = some (.bool a.no)
  | [], k, a, h => by simp at h
  | b :: r, 0, a, h => by
    simp at h
    subst h
    simp [cellsL, cells1]
  | b :: r, k + 1, a, h => by
    have := cellsL_at r k a (by simpa using h)
    simp only [cellsL, cells1, List.cons_append, List.nil_append]
    rw [show (k + 1) * 3 = k * 3 + 1 + 1 + 1 by omega, show k * 3 + 1 + 1 + 1 + 1 = (k * 3 + 1) + 1 + 1 + 1 by omega, show k * 3 + 1 + 1 + 1 + 2 = (k * 3 + 2) + 1 + 1 + 1 by omega]
    simpa using this
theorem cellsL_one (l : List Iv) : ∀ u ∈ cellsL l, u.oneCell' = true := by
  induction l with
  | nil => intro u hu; simp [cellsL] at hu
  | cons a r ih =>
    intro u hu
    simp only [cellsL, cells1, List.mem_append, List.mem_cons, List.not_mem_nil, or_false] at hu
    rcases hu with (rfl | rfl | rfl) | hu
    · rfl
    · rfl
    · rfl
    · exact ih u hu
/-- A row of cells that begins with those of l holds l. -/
theorem Row.of_cells {w : World} {g c : Nat} {e : TypeId} {cur : Array Value} {l : List Iv} {x : Value} (hx : x = .slice (some ⟨g, 0, none⟩) l.length c) (hg : w.heap[g]? = some (.cells cur e (0, 0))) (ht : cur.toList.take (l.length * 3) = cellsL l) : Row w x l := by
  refine .inr ⟨g, 0, c, hx, fun k a hk => ?_⟩
  have hlt : k < l.length := (List.getElem?_eq_some_iff.1 hk).1
  obtain ⟨h1, h2, h3⟩ := cellsL_at l k a hk
  rw [← ht] at h1 h2 h3
  have e : ∀ n u, (cur.toList.take (l.length * 3))[n]? = some u → w.cell? ⟨g, n, none⟩ = some u := fun n u hu => by
    have hn : n < l.length * 3 := by
      have := (List.getElem?_eq_some_iff.1 hu).1
      simp at this
      omega
    rw [List.getElem?_take_of_lt hn] at hu
    simp [World.cell?, hg]
    simpa using hu
  simp only [Nat.zero_add]
  exact ⟨e _ _ h1, e _ _ h2, e _ _ h3⟩
theorem Row.of_owns {w : World} {base n : Nat} {v : Value} {e : TypeId} {l : List Iv} (h : w.ownsRow base e 3 v n (cellsL l)) : Row w v l := by
  obtain ⟨hl, h⟩ := h
  rw [cellsL_length] at hl
  have hn : n = l.length := by omega
  subst hn
  rcases h with ⟨rfl, h0⟩ | ⟨g, cap, cur, rfl, -, hg, -, -, -, ht⟩
  · exact .inl ⟨rfl, List.eq_nil_of_length_eq_zero h0⟩
  · exact Row.of_cells rfl hg ht
theorem Row.lit {w : World} {v : Value} {e : TypeId} {l : List Iv} {b c : Nat} {cur : Array Value} (hv : v = .slice (some ⟨b, 0, none⟩) l.length c) (hb : b = w.heap.size) (ht : cur.toList = cellsL l) : Row (w.alloc (.cells cur e)) v l := by
  subst hb
  refine Row.of_cells hv (heap_alloc_new w _) ?_
  rw [ht, ← cellsL_length, List.take_length]
theorem row_lit1 {w : World} {e : TypeId} {b c : Nat} (a0 : Iv) (hb : b = w.heap.size) : Row (w.alloc (.cells #[.int .i64 a0.lo, .int .i64 a0.hi, .bool a0.no] e)) (.slice (some ⟨b, 0, none⟩) 1 c) [a0] := Row.lit rfl hb rfl
theorem row_lit2 {w : World} {e : TypeId} {b c : Nat} (a0 a1 : Iv) (hb : b = w.heap.size) : Row (w.alloc (.cells #[.int .i64 a0.lo, .int .i64 a0.hi, .bool a0.no, .int .i64 a1.lo, .int .i64 a1.hi, .bool a1.no] e)) (.slice (some ⟨b, 0, none⟩) 2 c) [a0, a1] := Row.lit rfl hb rfl
theorem row_lit3 {w : World} {e : TypeId} {b c : Nat} (a0 a1 a2 : Iv) (hb : b = w.heap.size) : Row (w.alloc (.cells #[.int .i64 a0.lo, .int .i64 a0.hi, .bool a0.no, .int .i64 a1.lo, .int .i64 a1.hi, .bool a1.no, .int .i64 a2.lo, .int .i64 a2.hi, .bool a2.no] e)) (.slice (some ⟨b, 0, none⟩) 3 c) [a0, a1, a2] := Row.lit rfl hb rfl

abbrev Val := Value
theorem int_is {a b : Int} (h : a = b) : Value.int .i64 a = .int .i64 b := by rw [h]

theorem row_num1 {w : World} {e : TypeId} {b c : Nat} {l0 h0 : Int} {n0 : Bool} (hb : b = w.heap.size) : Row (w.alloc (.cells #[.int .i64 l0, .int .i64 h0, .bool n0] e)) (.slice (some ⟨b, 0, none⟩) 1 c) [⟨l0, h0, n0⟩] := Row.lit rfl hb rfl
theorem row_num2 {w : World} {e : TypeId} {b c : Nat} {l0 h0 l1 h1 : Int} {n0 n1 : Bool} (hb : b = w.heap.size) : Row (w.alloc (.cells #[.int .i64 l0, .int .i64 h0, .bool n0, .int .i64 l1, .int .i64 h1, .bool n1] e)) (.slice (some ⟨b, 0, none⟩) 2 c) [⟨l0, h0, n0⟩, ⟨l1, h1, n1⟩] := Row.lit rfl hb rfl
theorem row_num3 {w : World} {e : TypeId} {b c : Nat} {l0 h0 l1 h1 l2 h2 : Int} {n0 n1 n2 : Bool} (hb : b = w.heap.size) : Row (w.alloc (.cells #[.int .i64 l0, .int .i64 h0, .bool n0, .int .i64 l1, .int .i64 h1, .bool n1, .int .i64 l2, .int .i64 h2, .bool n2] e)) (.slice (some ⟨b, 0, none⟩) 3 c) [⟨l0, h0, n0⟩, ⟨l1, h1, n1⟩, ⟨l2, h2, n2⟩] := Row.lit rfl hb rfl
theorem owns_keep {w w' : World} {base n size : Nat} {e : TypeId} {v : Value} {xs : List Value} (h : w.ownsRow base e size v n xs) (hb : ∀ k, k < w.heap.size → w'.heap[k]? = w.heap[k]?) : w'.ownsRow base e size v n xs := by
  obtain ⟨hl, h⟩ := h
  refine ⟨hl, ?_⟩
  rcases h with h | ⟨g, cap, cur, hv, hg, hc, h1⟩
  · exact .inl h
  · exact .inr ⟨g, cap, cur, hv, hg, (hb g ((Array.getElem?_eq_some_iff.1 hc).1)).trans hc, h1⟩
theorem owns_more {w : World} {base n size : Nat} {e : TypeId} {v : Value} {xs : List Value} (h : w.ownsRow base e size v n xs) {r : Rest} : (more w r).ownsRow base e size v n xs := owns_keep h fun k hk => heap_more w r k hk
theorem owns_alloc {w : World} {base n size : Nat} {e : TypeId} {v : Value} {xs : List Value} (h : w.ownsRow base e size v n xs) {o : Obj} : (w.alloc o).ownsRow base e size v n xs := owns_keep h fun k hk => Below.heap_alloc w o k hk
theorem below_more {B : Nat} {a w : World} (h : Below B a w) (r : Rest) (hB : B ≤ w.heap.size) : Below B a (more w r) :=
  h.trans ⟨rfl, rfl, rfl, by simp, fun k hk => heap_more _ _ _ (by omega)⟩

theorem new_cells {w : World} {e : TypeId} {b : Nat} (a : Iv) (hb : b = w.heap.size) : ∀ j u, (cells1 a)[j]? = some u → (w.alloc (.cells #[.int .i64 a.lo, .int .i64 a.hi, .bool a.no] e)).cell? ((⟨b, 0, none⟩ : Addr).add j) = some u := by
  subst hb
  intro j u hu
  have c : ∀ n (cur : Array Value), (w.alloc (.cells cur e)).cell? ⟨w.heap.size, n, none⟩ = cur[n]? := fun n cur => by
    simp only [World.cell?]
    rw [heap_alloc_new]
    rfl
  rw [Addr.add_lit, Nat.zero_add, c]
  simpa [cells1] using hu
theorem cells1_one (a : Iv) : ∀ u ∈ cells1 a, u.oneCell' = true := by
  have := cellsL_one [a]
  simpa [cellsL] using this
theorem cellsL_snoc (l : List Iv) (a : Iv) : cellsL l ++ cells1 a = cellsL (l ++ [a]) := by rw [cellsL_append]; simp [cellsL]

/-! Sums of powers and slopes. -/
def horner : List Iv → Iv → Iv
  | [], _ => ivPoint 0
  | [a], _ => if ivRight a then a else ivNone
  | a :: b :: l, x => ivAdd (ivMul (horner (b :: l) x) x) a
def slopeTo (l : List Iv) (k : Nat) : List Iv := (List.range k).map fun i => ivTimes (l.getD (i + 1) ivNone) ((i + 1 : Nat) : Int)
def slope (l : List Iv) : List Iv := slopeTo l (l.length - 1)
theorem slopeTo_succ (l : List Iv) (k : Nat) : slopeTo l (k + 1) = slopeTo l k ++ [ivTimes (l.getD (k + 1) ivNone) ((k + 1 : Nat) : Int)] := by
  simp [slopeTo, List.range_succ]
theorem slopeTo_length (l : List Iv) (k : Nat) : (slopeTo l k).length = k := by simp [slopeTo]
@[simp] theorem slope_length (l : List Iv) : (slope l).length = l.length - 1 := slopeTo_length l _
/-- From place k on. -/
theorem horner_drop {l : List Iv} {k : Nat} (h : k + 1 < l.length) (x : Iv) : horner (l.drop k) x = ivAdd (ivMul (horner (l.drop (k + 1)) x) x) (l.getD k ivNone) := by
  have h1 : l.drop k = l.getD k ivNone :: l.drop (k + 1) := by
    rw [List.drop_eq_getElem_cons (by omega)]
    simp [List.getD, show k < l.length by omega]
  have h2 : l.drop (k + 1) = l.getD (k + 1) ivNone :: l.drop (k + 1 + 1) := by
    rw [List.drop_eq_getElem_cons (by omega)]
    simp [List.getD, show k + 1 < l.length by omega]
  rw [h1, h2]
  rfl
theorem horner_last {l : List Iv} {k : Nat} (h : k + 1 = l.length) (x : Iv) : horner (l.drop k) x = if ivRight (l.getD k ivNone) then l.getD k ivNone else ivNone := by
  have h1 : l.drop k = l.getD k ivNone :: l.drop (k + 1) := by
    rw [List.drop_eq_getElem_cons (by omega)]
    simp [List.getD, show k < l.length by omega]
  rw [h1, List.drop_eq_nil_of_le (by omega)]
  rfl
theorem mul_none (x : Iv) : ivMul ivNone x = ivNone := by unfold ivMul ivBoth; rw [right_none]; rfl
theorem add_none (x : Iv) : ivAdd ivNone x = ivNone := by unfold ivAdd ivBoth; rw [right_none]; rfl
theorem horner_none {l : List Iv} (x : Iv) : ∀ (d k : Nat), k + d < l.length → horner (l.drop (k + d)) x = ivNone → horner (l.drop k) x = ivNone
  | 0, k, _, h => h
  | d + 1, k, hk, h => by
    have := horner_none (l := l) x d (k + 1) (by omega) (by rw [show k + 1 + d = k + (d + 1) by omega]; exact h)
    rw [horner_drop (by omega), this, mul_none, add_none]
theorem horner_bad {l : List Iv} (x : Iv) (h0 : ¬ l.length = 0) (h : horner (l.drop (l.length - 1)) x = ivNone) : horner l x = ivNone := by
  have := horner_none (l := l) x (l.length - 1) 0 (by omega) (by rw [Nat.zero_add]; exact h)
  simpa using this
end Go.Proofs.YtolfobgpgmfnpaaDoor

