/-
  A struct of many cells goes into a block, and comes out of it, at once: cell by cell the check of a walk doubles with each.
  Places of raw numbers, of small ones, and such as lie in others; chapter 5's example.
-/
import Derived.Test.YtggohceeeggnmaaVec
import Derived.Test.YtggohceeeggnmaaGa

namespace Go.Proofs.Ytggohceeeggnmaa
set_option linter.unusedVariables false
open Go.ChangeShapes Go.WideShapes Go.ChangeAt Go.RowKit

theorem size_pl (w : World) : (sizeOf 30).run Try.prog w = .ok 9 w := by kernel_rfl
theorem agg_wy (w : World) : (isAgg 56).run Try.prog w = .ok true w := by kernel_rfl
theorem size_wy (w : World) : (sizeOf 56).run Try.prog w = .ok 18 w := by kernel_rfl

@[go_sem ↓ high] theorem storeVar_pl (a : Addr) (v : Value) : storeVar 30 a v = storeWhole 30 a v := rfl
@[go_sem ↓ high] theorem storeVar_wy (a : Addr) (v : Value) : storeVar 56 a v = storeWhole 56 a v := rfl
@[go_sem ↓ high] theorem loadVar_wy (a : Addr) : loadVar 56 a = loadWhole 56 a := rfl

@[go_sem] theorem run_store_pl (w : World) (b : Nat) (x0 x1 y0 y1 z0 z1 : Int) (x y z : Bool) :
    (storeWhole 30 ⟨b, 0, none⟩ (.agg #[.int .i64 x0, .int .i64 x1, .bool x, .int .i64 y0, .int .i64 y1, .bool y, .int .i64 z0, .int .i64 z1, .bool z])).run Try.prog w =
      if World.cellsIn w b = 9 then .ok () (w.setRow b #[.int .i64 x0, .int .i64 x1, .bool x, .int .i64 y0, .int .i64 y1, .bool y, .int .i64 z0, .int .i64 z1, .bool z]) else (storeElse 30 ⟨b, 0, none⟩ (.agg #[.int .i64 x0, .int .i64 x1, .bool x, .int .i64 y0, .int .i64 y1, .bool y, .int .i64 z0, .int .i64 z1, .bool z])).run Try.prog w := by
  split
  · rename_i h
    exact run_storeWhole (vs := [.int .i64 x0, .int .i64 x1, .bool x, .int .i64 y0, .int .i64 y1, .bool y, .int .i64 z0, .int .i64 z1, .bool z]) (size_pl w) rfl (by decide) (by simp [Value.oneCell']) h
  · rfl

@[go_sem] theorem run_store_wy (w : World) (b : Nat) (x0 x1 y0 y1 z0 z1 u0 u1 v0 v1 p0 p1 : Int) (x y z u v p : Bool) :
    (storeWhole 56 ⟨b, 0, none⟩ (.agg #[.int .i64 x0, .int .i64 x1, .bool x, .int .i64 y0, .int .i64 y1, .bool y, .int .i64 z0, .int .i64 z1, .bool z, .int .i64 u0, .int .i64 u1, .bool u, .int .i64 v0, .int .i64 v1, .bool v, .int .i64 p0, .int .i64 p1, .bool p])).run Try.prog w =
      if World.cellsIn w b = 18 then .ok () (w.setRow b #[.int .i64 x0, .int .i64 x1, .bool x, .int .i64 y0, .int .i64 y1, .bool y, .int .i64 z0, .int .i64 z1, .bool z, .int .i64 u0, .int .i64 u1, .bool u, .int .i64 v0, .int .i64 v1, .bool v, .int .i64 p0, .int .i64 p1, .bool p]) else (storeElse 56 ⟨b, 0, none⟩ (.agg #[.int .i64 x0, .int .i64 x1, .bool x, .int .i64 y0, .int .i64 y1, .bool y, .int .i64 z0, .int .i64 z1, .bool z, .int .i64 u0, .int .i64 u1, .bool u, .int .i64 v0, .int .i64 v1, .bool v, .int .i64 p0, .int .i64 p1, .bool p])).run Try.prog w := by
  split
  · rename_i h
    exact run_storeWhole (vs := [.int .i64 x0, .int .i64 x1, .bool x, .int .i64 y0, .int .i64 y1, .bool y, .int .i64 z0, .int .i64 z1, .bool z, .int .i64 u0, .int .i64 u1, .bool u, .int .i64 v0, .int .i64 v1, .bool v, .int .i64 p0, .int .i64 p1, .bool p]) (size_wy w) rfl (by decide) (by simp [Value.oneCell']) h
  · rfl

@[go_sem] theorem run_load_wy (w : World) (b : Nat) :
    (loadWhole 56 ⟨b, 0, none⟩).run Try.prog w = if World.cellsIn w b = 18 then .ok (.agg (World.cellsOf w b)) w else (loadElse 56 ⟨b, 0, none⟩).run Try.prog w := by
  split
  · rename_i h
    exact run_loadWhole (agg_wy w) (size_wy w) (by decide) h
  · rfl

end Go.Proofs.Ytggohceeeggnmaa

namespace Go.Proofs.Ytggohceeeggnmaa
set_option linter.unusedVariables false
open Go.ChangeShapes Go.WideShapes Go.ChangeAt Go.RowKit

structure Six where
  a : Int
  b : Int
  c : Int
  d : Int
  e : Int
  f : Int

@[reducible] def sixV (s : Six) : Value := .agg #[.int .i64 s.a, .int .i64 s.b, .int .i64 s.c, .int .i64 s.d, .int .i64 s.e, .int .i64 s.f]

@[reducible] def In64 (n : Int) : Prop := -9223372036854775808 ≤ n ∧ n ≤ 9223372036854775807
end Go.Proofs.Ytggohceeeggnmaa
