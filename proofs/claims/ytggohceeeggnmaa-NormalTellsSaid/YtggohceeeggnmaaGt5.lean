/-
  Across a face, in plain numbers: of less it is less; turned; mirrored; on the axis.
  A block holds a face; a ray; a place: its cells, its loads.
-/
import Derived.Test.YtggohceeeggnmaaSagMath
import Derived.Test.YtggohceeeggnmaaGq5
import Derived.Test.YtggohceeeggnmaaSagOf
import Derived.Test.YtggohceeeggnmaaGr5
import Derived.Test.YtggohceeeggnmaaReg8
import Derived.Deep.RegionLaw
import Derived.Deep.Cut

namespace Go.Proofs.Ytggohceeeggnmaa
set_option linter.unusedVariables false

def normR (p : Pl) : Iv := ivAdd (ivSqr p.x) (ivSqr p.y)
def normF (s : Sf) (p : Pl) : Pl := ⟨ivNeg (ivMul s.curve p.x), ivNeg (ivMul s.curve p.y), ivSub oneI (ivMul s.curve (ivMul s.conic p.z))⟩
def normB (s : Sf) (p : Pl) : Pl := ⟨ivNeg (ivTimes (ivMul (sagM s (normR p)) p.x) 2), ivNeg (ivTimes (ivMul (sagM s (normR p)) p.y) 2), oneI⟩
def normV (s : Sf) (p : Pl) : Pl := if s.bent = true then normB s p else normF s p
def normP (s : Sf) (p : Pl) : Pl := plUnit (normV s p)

/-! ### Of less -/
def LessPl (q p : Pl) : Prop := ivLess q.x p.x = true ∧ ivLess q.y p.y = true ∧ ivLess q.z p.z = true
theorem nm_lessSqr {p x : Iv} (h : ivLess p x = true) : ivLess (ivSqr p) (ivSqr x) = true := by
  cases hr : ivRight x
  · have e : ivSqr x = ivNone := by
      unfold ivSqr
      rw [hr]
      rfl
    rw [e]
    exact lessBad rfl
  · exact less_sqr (lessPart h hr)
theorem nm_lessM (s : Sf) {p r : Iv} (h : ivLess p r = true) : ivLess (sagM s p) (sagM s r) = true := by
  cases hm : ivRight (sagM s r)
  · exact lessBad hm
  · have hk : sagOk s r = true := by
      unfold sagM at hm
      by_cases hk : sagOk s r = true
      · exact hk
      · rw [if_neg hk] at hm
        cases hm
    have hz : ivRight (sagZ s r) = true := by
      unfold sagZ
      rw [if_pos hk]
      unfold sagOk at hk
      rw [Bool.and_eq_true] at hk
      exact hk.1
    unfold ivLess
    rw [(sag_less s h hz).2, Bool.or_true]
theorem normR_less {q p : Pl} (h : LessPl q p) : ivLess (normR q) (normR p) = true := lessAdd (nm_lessSqr h.1) (nm_lessSqr h.2.1)
theorem normV_less (s : Sf) {q p : Pl} (h : LessPl q p) : LessPl (normV s q) (normV s p) := by
  unfold normV
  split
  · have hm := nm_lessM s (normR_less h)
    exact ⟨lessNeg (lessTimes 2 (lessMul hm h.1)), lessNeg (lessTimes 2 (lessMul hm h.2.1)), lessSelf _⟩
  · exact ⟨lessNeg (lessMul (lessSelf _) h.1), lessNeg (lessMul (lessSelf _) h.2.1), lessSub (lessSelf _) (lessMul (lessSelf _) (lessMul (lessSelf _) h.2.2))⟩
theorem unit_lessP {u x : Pl} (h : LessPl u x) : LessPl (plUnit u) (plUnit x) :=
  have r := lessRoot (lessAdd (lessAdd (nm_lessSqr h.1) (nm_lessSqr h.2.1)) (nm_lessSqr h.2.2))
  ⟨lessDiv h.1 r, lessDiv h.2.1 r, lessDiv h.2.2 r⟩
/-- At what lies in a place the way across lies in the place's. -/
theorem norm_less (s : Sf) {q p : Pl} (h : PPart q p) (hr : plRight (normP s p) = true) : plInside (normP s q) (normP s p) = true := by
  obtain ⟨r1, r2, r3⟩ := plRight_iff.1 hr
  have hl : LessPl (normP s q) (normP s p) := unit_lessP (normV_less s ⟨partLess h.1, partLess h.2.1, partLess h.2.2⟩)
  obtain ⟨h1, h2, h3⟩ := hl
  unfold plInside
  rw [(less_rights h1 r1).2, (less_rights h2 r2).2, (less_rights h3 r3).2]
  rfl
/-- Its length has One. -/
theorem norm_long (s : Sf) {p : Pl} (h : ivRight (plLen2 (normP s p)) = true) : ivHas (plLen2 (normP s p)) 65536 = true := by
  obtain ⟨⟨q1, q2, q3⟩, -⟩ := sum_right h
  exact unit_has (plRight_iff.2 ⟨rights_sqr q1, rights_sqr q2, rights_sqr q3⟩) h

/-! ### Turned, mirrored -/
theorem nm_sqr_neg (a : Iv) : ivSqr (ivNeg a) = ivSqr a := by
  cases h : ivRight a
  · rw [neg_bad h]
    unfold ivSqr
    rw [h]
    rfl
  · exact sqr_neg h
theorem mulNeg (a b : Iv) : ivMul a (ivNeg b) = ivNeg (ivMul a b) := by rw [mul_comm', negMul, mul_comm']
theorem unit_one' (a : Pl) : plUnit (plOne a) = plOne (plUnit a) := by
  have e : plLen2 (plOne a) = plLen2 a := by
    unfold plLen2 plOne
    dsimp only
    rw [nm_sqr_neg, sum_swap]
  unfold plUnit
  rw [e]
  unfold plBy plOne
  dsimp only
  rw [negDiv]
theorem unit_mir' (a : Pl) : plUnit (plMirror a) = plMirror (plUnit a) := by
  unfold plUnit plLen2 plMirror plBy
  dsimp only
  rw [nm_sqr_neg, negDiv]
theorem normR_one (p : Pl) : normR (plOne p) = normR p := by
  unfold normR plOne
  dsimp only
  rw [nm_sqr_neg, add_comm']
theorem normR_mir (p : Pl) : normR (plMirror p) = normR p := by
  unfold normR plMirror
  dsimp only
  rw [nm_sqr_neg]
theorem norm_one (s : Sf) (p : Pl) : normP s (plOne p) = plOne (normP s p) := by
  have e : normV s (plOne p) = plOne (normV s p) := by
    unfold normV
    split
    · unfold normB
      rw [normR_one]
      unfold plOne
      dsimp only
      rw [mulNeg, negTimes]
    · unfold normF plOne
      dsimp only
      rw [mulNeg]
  unfold normP
  rw [e, unit_one']
theorem norm_mir (s : Sf) (p : Pl) : normP s (plMirror p) = plMirror (normP s p) := by
  have e : normV s (plMirror p) = plMirror (normV s p) := by
    unfold normV
    split
    · unfold normB
      rw [normR_mir]
      unfold plMirror
      dsimp only
      rw [mulNeg, negTimes]
    · unfold normF plMirror
      dsimp only
      rw [mulNeg]
  unfold normP
  rw [e, unit_mir']
/-- At a place that is turned by quarters the way across is turned. -/
theorem norm_turn (s : Sf) (p : Pl) (k : Int) : normP s (plTurn p k) = plTurn (normP s p) k := by
  have h1 := norm_one s p
  have h2 := norm_one s (plOne p)
  have h3 := norm_one s (plOne (plOne p))
  rw [h1] at h2
  rw [h2] at h3
  have hk : k % 4 = 0 ∨ k % 4 = 1 ∨ k % 4 = 2 ∨ k % 4 = 3 := by omega
  rcases hk with h | h | h | h
  · rw [turn_of h, turn_of h]; rfl
  · rw [turn_of h, turn_of h]; exact h1
  · rw [turn_of h, turn_of h]; exact h2
  · rw [turn_of h, turn_of h]; exact h3

/-! ### On the axis -/
theorem norm_axis {s : Sf} (h : Mild s) : normP s ⟨⟨0, 0, false⟩, ⟨0, 0, false⟩, ⟨0, 0, false⟩⟩ = ⟨⟨0, 0, false⟩, ⟨0, 0, false⟩, ⟨65536, 65536, false⟩⟩ := by
  have hone : oneI = ⟨65536, 65536, false⟩ := by kernel_rfl
  have n0 : ivNeg ⟨0, 0, false⟩ = ⟨0, 0, false⟩ := by kernel_rfl
  have t0 : ivTimes ⟨0, 0, false⟩ 2 = ⟨0, 0, false⟩ := by kernel_rfl
  have r0 : normR ⟨⟨0, 0, false⟩, ⟨0, 0, false⟩, ⟨0, 0, false⟩⟩ = ⟨0, 0, false⟩ := by kernel_rfl
  have s0 : ivSub ⟨65536, 65536, false⟩ ⟨0, 0, false⟩ = ⟨65536, 65536, false⟩ := by kernel_rfl
  have hz := sag_axis h
  have hk : sagOk s ⟨0, 0, false⟩ = true := sagZ_ok (by rw [hz]; decide)
  have hm : ivRight (sagM s ⟨0, 0, false⟩) = true := by
    unfold sagM
    rw [if_pos hk]
    unfold sagOk at hk
    rw [Bool.and_eq_true] at hk
    exact hk.2
  have e : normV s ⟨⟨0, 0, false⟩, ⟨0, 0, false⟩, ⟨0, 0, false⟩⟩ = ⟨⟨0, 0, false⟩, ⟨0, 0, false⟩, ⟨65536, 65536, false⟩⟩ := by
    unfold normV
    split
    · unfold normB
      rw [r0]
      dsimp only
      rw [mul_zero hm, t0, n0, hone]
    · unfold normF
      dsimp only
      rw [mul_zero h.conic.1, mul_zero h.curve.1, n0, hone, s0]
  have u : plUnit ⟨⟨0, 0, false⟩, ⟨0, 0, false⟩, ⟨65536, 65536, false⟩⟩ = ⟨⟨0, 0, false⟩, ⟨0, 0, false⟩, ⟨65536, 65536, false⟩⟩ := by kernel_rfl
  unfold normP
  rw [e, u]

/-! ### Balls -/
def nballS (c : Iv) : Sf := ⟨false, false, c, ⟨65536, 65536, false⟩, ⟨0, 0, false⟩, ⟨0, 0, false⟩, ⟨0, 0, false⟩, ⟨6553600, 6553600, false⟩, ⟨65536, 65536, false⟩⟩
def nballOk (m n : Int) (up : Bool) : Bool :=
  let p := ivWhole (m * m - n * n)
  let z := ivWhole (m * m + n * n - 2 * m * n)
  let a := normP (nballS (ivDiv (ivWhole 1) (ivWhole (m * m + n * n)))) (if up then ⟨⟨0, 0, false⟩, p, z⟩ else ⟨p, ⟨0, 0, false⟩, z⟩)
  let side := if up then a.y else a.x
  let other := if up then a.x else a.y
  (decide (side.lo * (m * m + n * n) ≤ -((m * m - n * n) * 65536)) && decide (-((m * m - n * n) * 65536) ≤ side.hi * (m * m + n * n))) &&
  (decide (a.z.lo * (m * m + n * n) ≤ 2 * m * n * 65536) && decide (2 * m * n * 65536 ≤ a.z.hi * (m * m + n * n))) && ivHas other 0 &&
  (decide (-100000 ≤ side.lo ∧ side.lo ≤ 100000) && decide (-100000 ≤ side.hi ∧ side.hi ≤ 100000) && decide (-100000 ≤ a.z.lo ∧ a.z.lo ≤ 100000) && decide (-100000 ≤ a.z.hi ∧ a.z.hi ≤ 100000))
theorem nball_all : ∀ m : Fin 3, ∀ n : Fin 3, n.val + 1 < m.val + 2 → ∀ h : Bool, nballOk (2 + m.val) (1 + n.val) h = true := by decide +kernel
theorem nball_has {m n : Int} (h0 : 2 ≤ m) (h1 : m ≤ 4) (h2 : 1 ≤ n) (h3 : n < m) (h : Bool) : nballOk m n h = true := by
  have := nball_all ⟨(m - 2).toNat, by omega⟩ ⟨(n - 1).toNat, by omega⟩ (by dsimp only; omega) h
  dsimp only at this
  rwa [show (2 : Int) + ((m - 2).toNat : Int) = m by omega, show (1 : Int) + ((n - 1).toNat : Int) = n by omega] at this
end Go.Proofs.Ytggohceeeggnmaa

namespace Go.Proofs.Ytggohceeeggnmaa
set_option linter.unusedVariables false
open Go.ChangeShapes Go.WideShapes Go.ChangeAt Go.RowKit

def cellsP (p : Pl) : List Value := [.int .i64 p.x.lo, .int .i64 p.x.hi, .bool p.x.no, .int .i64 p.y.lo, .int .i64 p.y.hi, .bool p.y.no, .int .i64 p.z.lo, .int .i64 p.z.hi, .bool p.z.no]
def cellsR (r : Wy) : List Value := [.int .i64 r.o.x.lo, .int .i64 r.o.x.hi, .bool r.o.x.no, .int .i64 r.o.y.lo, .int .i64 r.o.y.hi, .bool r.o.y.no, .int .i64 r.o.z.lo, .int .i64 r.o.z.hi, .bool r.o.z.no, .int .i64 r.d.x.lo, .int .i64 r.d.x.hi, .bool r.d.x.no, .int .i64 r.d.y.lo, .int .i64 r.d.y.hi, .bool r.d.y.no, .int .i64 r.d.z.lo, .int .i64 r.d.z.hi, .bool r.d.z.no]
/-- A block holds a face; a ray; a place. -/
def OkSfAt (w : World) (b : Nat) (s : Sf) : Prop := w.heap[b]? = some (.cells (cellsS s).toArray 25 (0, 0))
def OkWyAt (w : World) (b : Nat) (r : Wy) : Prop := w.heap[b]? = some (.cells (cellsR r).toArray 56 (0, 0))
def OkPlAt (w : World) (b : Nat) (p : Pl) : Prop := w.heap[b]? = some (.cells (cellsP p).toArray 30 (0, 0))
theorem OkSfAt.up {w w' : World} {b : Nat} {s : Sf} (h : OkSfAt w b s) (hM : More w w') : OkSfAt w' b s := heap_up hM h
theorem OkWyAt.up {w w' : World} {b : Nat} {s : Wy} (h : OkWyAt w b s) (hM : More w w') : OkWyAt w' b s := heap_up hM h
theorem OkPlAt.up {w w' : World} {b : Nat} {s : Pl} (h : OkPlAt w b s) (hM : More w w') : OkPlAt w' b s := heap_up hM h
theorem heap_cell {w : World} {b j : Nat} {cs : Array Value} {T : TypeId} {v : Value} (h : w.heap[b]? = some (.cells cs T (0, 0))) (hj : cs[j]? = some v) : w.cell? ⟨b, j, none⟩ = some v := by simp [World.cell?, h, hj]
theorem one_pl (p : Pl) : ∀ v ∈ cellsP p, v.oneCell' = true := by simp [cellsP, Value.oneCell']

theorem sfat_cells {w : World} {b : Nat} {s : Sf} (h : OkSfAt w b s) : b < w.heap.size ∧ w.cell? ⟨b, 1, none⟩ = some (.bool s.bent) ∧
    (w.cell? ⟨b, 2, none⟩ = some (.int .i64 s.curve.lo) ∧ w.cell? ⟨b, 3, none⟩ = some (.int .i64 s.curve.hi) ∧ w.cell? ⟨b, 4, none⟩ = some (.bool s.curve.no)) ∧
    (w.cell? ⟨b, 5, none⟩ = some (.int .i64 s.conic.lo) ∧ w.cell? ⟨b, 6, none⟩ = some (.int .i64 s.conic.hi) ∧ w.cell? ⟨b, 7, none⟩ = some (.bool s.conic.no)) ∧
    (w.cell? ⟨b, 14, none⟩ = some (.int .i64 s.place.lo) ∧ w.cell? ⟨b, 15, none⟩ = some (.int .i64 s.place.hi) ∧ w.cell? ⟨b, 16, none⟩ = some (.bool s.place.no)) :=
  ⟨(Array.getElem?_eq_some_iff.1 h).1, heap_cell h rfl, ⟨heap_cell h rfl, heap_cell h rfl, heap_cell h rfl⟩, ⟨heap_cell h rfl, heap_cell h rfl, heap_cell h rfl⟩, heap_cell h rfl, heap_cell h rfl, heap_cell h rfl⟩
theorem plat_cells {w : World} {b : Nat} {p : Pl} (h : OkPlAt w b p) : b < w.heap.size ∧
    (w.cell? ⟨b, 0, none⟩ = some (.int .i64 p.x.lo) ∧ w.cell? ⟨b, 1, none⟩ = some (.int .i64 p.x.hi) ∧ w.cell? ⟨b, 2, none⟩ = some (.bool p.x.no)) ∧
    (w.cell? ⟨b, 3, none⟩ = some (.int .i64 p.y.lo) ∧ w.cell? ⟨b, 4, none⟩ = some (.int .i64 p.y.hi) ∧ w.cell? ⟨b, 5, none⟩ = some (.bool p.y.no)) ∧
    (w.cell? ⟨b, 6, none⟩ = some (.int .i64 p.z.lo) ∧ w.cell? ⟨b, 7, none⟩ = some (.int .i64 p.z.hi) ∧ w.cell? ⟨b, 8, none⟩ = some (.bool p.z.no)) :=
  ⟨(Array.getElem?_eq_some_iff.1 h).1, ⟨heap_cell h rfl, heap_cell h rfl, heap_cell h rfl⟩, ⟨heap_cell h rfl, heap_cell h rfl, heap_cell h rfl⟩, heap_cell h rfl, heap_cell h rfl, heap_cell h rfl⟩
theorem load_pl_obj {w : World} {b : Nat} {p : Pl} (h : OkPlAt w b p) : (loadVar 30 ⟨b, 0, none⟩).run Try.prog w = .ok (plV p) w := by
  have hc : World.cellsIn w b = 9 := by unfold World.cellsIn; rw [h]; rfl
  show (loadWhole 30 ⟨b, 0, none⟩).run Try.prog w = _
  rw [run_loadWhole (agg_pl w) (size_pl w) (by decide) hc]
  unfold World.cellsOf
  rw [h]
  rfl
theorem one_end {P : Program} {ops : Array Oper} {Q : Exit → Act → World → Prop} {a : Act} {W w : World} {o1 : Oper} {rest : List Oper} (T : TypeId) (n : Nat) (p1 x1 : Operand) (b1 : Nat) (z1 : Array Value) (v1 : List Value)
    (h1 : o1.op = .store T p1 x1) (g1 : o1.guard = none) (d1 : o1.dst = none) (e1 : a.eval p1 = .pointer (some ⟨b1, 0, none⟩)) (y1 : a.eval x1 = .agg v1.toArray)
    (hs : ∀ w, (sizeOf T).run P w = .ok n w) (hn1 : v1.length = n) (h0 : n ≠ 0) (u1 : ∀ v ∈ v1, v.oneCell' = true)
    (hM : More W w) (hb1 : W.heap.size ≤ b1) (hc1 : w.heap[b1]? = some (.cells z1 T (0, 0))) (hz1 : z1.size = n)
    (hK : ∀ wx, More W wx → wx.heap[b1]? = some (.cells v1.toArray T (0, 0)) → wpList P ops Q rest a wx) : wpList P ops Q (o1 :: rest) a w := by
  refine wpList_store_new T p1 x1 n b1 z1 v1 h1 g1 d1 e1 y1 (hs _) hn1 h0 u1 hc1 hz1 ?_
  exact hK _ (more_setRow hM hb1) (heap_setRow hc1)
end Go.Proofs.Ytggohceeeggnmaa
