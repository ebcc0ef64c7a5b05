/-
  Faces in numbers in memory: a struct of twenty-three cells; a slice of them.
-/
import Derived.Test.YtggohceeeggnmaaGy5
import Derived.Test.YtggohceeeggnmaaGl
import Derived.Test.YtggohceeeggnmaaGa
namespace Go.Proofs.Ytggohceeeggnmaa
set_option linter.unusedVariables false
open Go.ChangeShapes Go.WideShapes Go.ChangeAt Go.RowKit

def cellsS (s : Sf) : List Value := [.bool s.stop, .bool s.bent, .int .i64 s.curve.lo, .int .i64 s.curve.hi, .bool s.curve.no, .int .i64 s.conic.lo, .int .i64 s.conic.hi, .bool s.conic.no, .int .i64 s.a4.lo, .int .i64 s.a4.hi, .bool s.a4.no, .int .i64 s.a6.lo, .int .i64 s.a6.hi, .bool s.a6.no, .int .i64 s.place.lo, .int .i64 s.place.hi, .bool s.place.no, .int .i64 s.open2.lo, .int .i64 s.open2.hi, .bool s.open2.no, .int .i64 s.ratio.lo, .int .i64 s.ratio.hi, .bool s.ratio.no]
@[reducible] def sfV (s : Sf) : Value := .agg #[.bool s.stop, .bool s.bent, .int .i64 s.curve.lo, .int .i64 s.curve.hi, .bool s.curve.no, .int .i64 s.conic.lo, .int .i64 s.conic.hi, .bool s.conic.no, .int .i64 s.a4.lo, .int .i64 s.a4.hi, .bool s.a4.no, .int .i64 s.a6.lo, .int .i64 s.a6.hi, .bool s.a6.no, .int .i64 s.place.lo, .int .i64 s.place.hi, .bool s.place.no, .int .i64 s.open2.lo, .int .i64 s.open2.hi, .bool s.open2.no, .int .i64 s.ratio.lo, .int .i64 s.ratio.hi, .bool s.ratio.no]
theorem cellsS_len (s : Sf) : (cellsS s).length = 23 := rfl
theorem agg_sf (w : World) : (isAgg 25).run Try.prog w = .ok true w := by kernel_rfl
theorem size_sf (w : World) : (sizeOf 25).run Try.prog w = .ok 23 w := by kernel_rfl
@[go_sem ↓ high] theorem storeVar_sf (a : Addr) (v : Value) : storeVar 25 a v = storeWhole 25 a v := rfl
@[go_sem ↓ high] theorem loadVar_sf (a : Addr) : loadVar 25 a = loadWhole 25 a := rfl
@[go_sem] theorem run_store_sf (w : World) (b : Nat) (p q : Bool) (x0 x1 x2 x3 x4 x5 x6 x7 x8 x9 x10 x11 x12 x13 : Int) (n0 n1 n2 n3 n4 n5 n6 : Bool) :
    (storeWhole 25 ⟨b, 0, none⟩ (.agg #[.bool p, .bool q, .int .i64 x0, .int .i64 x1, .bool n0, .int .i64 x2, .int .i64 x3, .bool n1, .int .i64 x4, .int .i64 x5, .bool n2, .int .i64 x6, .int .i64 x7, .bool n3, .int .i64 x8, .int .i64 x9, .bool n4, .int .i64 x10, .int .i64 x11, .bool n5, .int .i64 x12, .int .i64 x13, .bool n6])).run Try.prog w =
      if World.cellsIn w b = 23 then .ok () (w.setRow b #[.bool p, .bool q, .int .i64 x0, .int .i64 x1, .bool n0, .int .i64 x2, .int .i64 x3, .bool n1, .int .i64 x4, .int .i64 x5, .bool n2, .int .i64 x6, .int .i64 x7, .bool n3, .int .i64 x8, .int .i64 x9, .bool n4, .int .i64 x10, .int .i64 x11, .bool n5, .int .i64 x12, .int .i64 x13, .bool n6]) else (storeElse 25 ⟨b, 0, none⟩ (.agg #[.bool p, .bool q, .int .i64 x0, .int .i64 x1, .bool n0, .int .i64 x2, .int .i64 x3, .bool n1, .int .i64 x4, .int .i64 x5, .bool n2, .int .i64 x6, .int .i64 x7, .bool n3, .int .i64 x8, .int .i64 x9, .bool n4, .int .i64 x10, .int .i64 x11, .bool n5, .int .i64 x12, .int .i64 x13, .bool n6])).run Try.prog w := by
  split
  · rename_i h
    refine run_storeWhole (n := 23) (vs := [.bool p, .bool q, .int .i64 x0, .int .i64 x1, .bool n0, .int .i64 x2, .int .i64 x3, .bool n1, .int .i64 x4, .int .i64 x5, .bool n2, .int .i64 x6, .int .i64 x7, .bool n3, .int .i64 x8, .int .i64 x9, .bool n4, .int .i64 x10, .int .i64 x11, .bool n5, .int .i64 x12, .int .i64 x13, .bool n6]) (size_sf w) rfl (by decide) ?_ h
    (repeat (refine List.forall_mem_cons.2 ⟨rfl, ?_⟩))
    intro v hv
    cases hv
  · rfl
@[go_sem] theorem run_load_sf (w : World) (b : Nat) :
    (loadWhole 25 ⟨b, 0, none⟩).run Try.prog w = if World.cellsIn w b = 23 then .ok (.agg (World.cellsOf w b)) w else (loadElse 25 ⟨b, 0, none⟩).run Try.prog w := by
  split
  · rename_i h
    exact run_loadWhole (agg_sf w) (size_sf w) (by decide) h
  · rfl
theorem load_sf_at {w : World} {b o : Nat} {f : Sf} (h : ∀ j u, (cellsS f)[j]? = some u → w.cell? ⟨b, o + j, none⟩ = some u) : (loadWhole 25 ⟨b, o, none⟩).run Try.prog w = .ok (sfV f) w := by
  have hl := run_loadCells_list (P := Try.prog) w ⟨b, o, none⟩ (cellsS f) (fun j v hj => by rw [Addr.add_lit]; exact h j v hj)
  unfold loadWhole loadVar
  rw [cellsS_len] at hl
  simp [hl]
  rfl
theorem load_sf_obj {w : World} {b : Nat} {s : Sf} (h : w.heap[b]? = some (.cells (cellsS s).toArray 25 (0, 0))) : (loadVar 25 ⟨b, 0, none⟩).run Try.prog w = .ok (sfV s) w := by
  refine load_sf_at (b := b) (o := 0) fun j u hu => ?_
  rw [Nat.zero_add]
  simp only [World.cell?, h]
  simpa using hu
/-- A result that lies in a block of many cells. -/
theorem results_one {P : Program} {fn : Func} {tmps : Array Value} {w : World} {k : Nat} {T : TypeId} {b : Addr} {v : Value} (h1 : fn.results = #[.cell k T]) (h2 : tmps.getD k undef = .pointer (some b)) (h3 : (loadVar T b).run P w = .ok v w) : (results fn tmps).run P w = .ok v w := by
  unfold results
  rw [h1]
  have h4 : tmps[k]?.getD undef = .pointer (some b) := by simpa using h2
  simp [h4, h3, asAddr]
/-- Equality of two intervals, of two decimals. -/
theorem eqIn_iv (x1 x2 y1 y2 : Int) (n m : Bool) (w : World) : (Op.equalIn 9999 23 (.agg #[.int .i64 x1, .int .i64 x2, .bool n]) (.agg #[.int .i64 y1, .int .i64 y2, .bool m])).run Try.prog w = .ok (x1 == y1 && (x2 == y2 && n == m)) w := by
  have hS : Try.prog.underlying 23 = some (.struct (Try.prog.fieldsOf 23)) := by kernel_rfl
  have hp : Try.prog.stoodInHeld 23 = false := by kernel_rfl
  rw [show (9999 : Nat) = 9998 + 1 from rfl, run_equalIn_agg w 9998 _ _ _ hS hp]
  simp only [Program.fieldsOf, Try.underlying23]
  go_simp
  by_cases h1 : x1 = y1 <;> by_cases h2 : x2 = y2 <;> by_cases h3 : n = m <;> simp [h1, h2, h3]
theorem eql_iv (a b : Iv) (w : World) : (binOp .eql 23 (ivV a) (ivV b)).run Try.prog w = .ok (.bool (ivEq a b)) w := by
  have hS : Try.prog.underlying 23 = some (.struct (Try.prog.fieldsOf 23)) := by kernel_rfl
  have hp : Try.prog.stoodInHeld 23 = false := by kernel_rfl
  rw [run_eql_struct, show (10000 : Nat) = 9999 + 1 from rfl, run_equalIn_agg w 9999 _ _ _ hS hp]
  simp only [Program.fieldsOf, Try.underlying23]
  go_simp
  unfold ivEq
  by_cases h1 : a.lo = b.lo <;> by_cases h2 : a.hi = b.hi <;> by_cases h3 : a.no = b.no <;> simp [h1, h2, h3]
end Go.Proofs.Ytggohceeeggnmaa

