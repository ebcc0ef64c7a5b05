/-
  LensKnown: chapter 12's example, the other known texts: the walk.
-/
import Derived.Test.YtgikjbmaahblpaaGreatDoorGk
import Derived.Test.YtgikjbmaahblpaaGreatDoorGlassHd
namespace Go.Proofs.YtgikjbmaahblpaaGreatDoor
set_option linter.unusedVariables false
open Go.ChangeShapes Go.WideShapes Go.ChangeAt Go.RowKit

/-- A world in which the closure's glasses lie. -/
structure WhyAt (W : World) (p c : Nat) (ga : Option Addr) : Prop where
  lt : p < W.heap.size
  cell : W.cell? ⟨p, 0, none⟩ = some (.slice ga 2 c)
  gls : Gls W (.slice ga 2 c) (glassesG [])
theorem WhyAt.up {W W' : World} {p c : Nat} {ga : Option Addr} (h : WhyAt W p c ga) (hM : More W W') : WhyAt W' p c ga := by
  obtain ⟨r, rfl⟩ := hM
  exact ⟨by rw [size_more]; have := h.lt; omega, by rw [cell_more _ _ _ _ h.lt]; exact h.cell, h.gls.more⟩

theorem eql_dec (c s : Int) (w : World) : (binOp .eql 27 (.agg #[.int .i64 c, .int .i64 s]) (.agg #[.int .i64 c, .int .i64 s])).run Tryz.prog w = .ok (.bool true) w := by
  have hS : Tryz.prog.underlying 27 = some (.struct (Tryz.prog.fieldsOf 27)) := by kernel_rfl
  have hp : Tryz.prog.stoodInHeld 27 = false := by kernel_rfl
  rw [run_eql_struct, show (10000 : Nat) = 9999 + 1 from rfl, run_equalIn_agg w 9999 _ _ _ hS hp]
  simp only [Program.fieldsOf, Tryz.underlying27]
  go_simp
set_option maxHeartbeats 4000000 in
set_option maxRecDepth 100000 in
theorem eql_fc (p : Bool) (s : ByteArray) (x1 x2 x3 x4 x5 x6 x7 x8 x9 x10 x11 x12 : Int) (w : World) :
    (binOp .eql 41 (.agg #[.bool p, .int .i64 x1, .int .i64 x2, .int .i64 x3, .int .i64 x4, .int .i64 x5, .int .i64 x6, .int .i64 x7, .int .i64 x8, .int .i64 x9, .int .i64 x10, .int .i64 x11, .int .i64 x12, .string s]) (.agg #[.bool p, .int .i64 x1, .int .i64 x2, .int .i64 x3, .int .i64 x4, .int .i64 x5, .int .i64 x6, .int .i64 x7, .int .i64 x8, .int .i64 x9, .int .i64 x10, .int .i64 x11, .int .i64 x12, .string s])).run Tryz.prog w = .ok (.bool true) w := by
  have hS : Tryz.prog.underlying 41 = some (.struct (Tryz.prog.fieldsOf 41)) := by kernel_rfl
  have hp : Tryz.prog.stoodInHeld 41 = false := by kernel_rfl
  have hd := eqIn_dec
  rw [run_eql_struct, show (10000 : Nat) = 9999 + 1 from rfl, run_equalIn_agg w 9999 _ _ _ hS hp]
  simp only [Program.fieldsOf, Tryz.underlying41]
  go_simp

end Go.Proofs.YtgikjbmaahblpaaGreatDoor

