/-
  Faces in memory: a struct of fourteen cells; a slice of them.
-/
import Derived.Test.YtggohceeeggnmaaGj
import Derived.Test.YtggohceeeggnmaaGe
import Derived.Test.YtggohceeeggnmaaRef8
import Derived.Test.YtggohceeeggnmaaGd
import Derived.Test.YtggohceeeggnmaaGa

namespace Go.Proofs.Ytggohceeeggnmaa
set_option linter.unusedVariables false
open Go.ChangeShapes Go.WideShapes Go.ChangeAt Go.RowKit

@[reducible] def fcV (f : Fc) : Value := .agg #[.bool f.stop, .int .i64 f.radius.c, .int .i64 f.radius.s, .int .i64 f.aperture.c, .int .i64 f.aperture.s, .int .i64 f.thick.c, .int .i64 f.thick.s, .int .i64 f.conic.c, .int .i64 f.conic.s, .int .i64 f.a4.c, .int .i64 f.a4.s, .int .i64 f.a6.c, .int .i64 f.a6.s, .string (bsOf f.glass)]
theorem agg_fc (w : World) : (isAgg 105).run Try.prog w = .ok true w := by kernel_rfl
theorem size_fc (w : World) : (sizeOf 105).run Try.prog w = .ok 14 w := by kernel_rfl
@[go_sem ↓ high] theorem storeVar_fc (a : Addr) (v : Value) : storeVar 105 a v = storeWhole 105 a v := rfl
@[go_sem ↓ high] theorem loadVar_fc (a : Addr) : loadVar 105 a = loadWhole 105 a := rfl
@[go_sem] theorem run_store_fc (w : World) (b : Nat) (p : Bool) (s : ByteArray) (x1 x2 x3 x4 x5 x6 x7 x8 x9 x10 x11 x12 : Int) :
    (storeWhole 105 ⟨b, 0, none⟩ (.agg #[.bool p, .int .i64 x1, .int .i64 x2, .int .i64 x3, .int .i64 x4, .int .i64 x5, .int .i64 x6, .int .i64 x7, .int .i64 x8, .int .i64 x9, .int .i64 x10, .int .i64 x11, .int .i64 x12, .string s])).run Try.prog w =
      if World.cellsIn w b = 14 then .ok () (w.setRow b #[.bool p, .int .i64 x1, .int .i64 x2, .int .i64 x3, .int .i64 x4, .int .i64 x5, .int .i64 x6, .int .i64 x7, .int .i64 x8, .int .i64 x9, .int .i64 x10, .int .i64 x11, .int .i64 x12, .string s]) else (storeElse 105 ⟨b, 0, none⟩ (.agg #[.bool p, .int .i64 x1, .int .i64 x2, .int .i64 x3, .int .i64 x4, .int .i64 x5, .int .i64 x6, .int .i64 x7, .int .i64 x8, .int .i64 x9, .int .i64 x10, .int .i64 x11, .int .i64 x12, .string s])).run Try.prog w := by
  split
  · rename_i h
    refine run_storeWhole (n := 14) (vs := [.bool p, .int .i64 x1, .int .i64 x2, .int .i64 x3, .int .i64 x4, .int .i64 x5, .int .i64 x6, .int .i64 x7, .int .i64 x8, .int .i64 x9, .int .i64 x10, .int .i64 x11, .int .i64 x12, .string s]) (size_fc w) rfl (by decide) ?_ h
    (repeat (refine List.forall_mem_cons.2 ⟨rfl, ?_⟩))
    intro v hv
    cases hv
  · rfl
@[go_sem] theorem run_load_fc (w : World) (b : Nat) :
    (loadWhole 105 ⟨b, 0, none⟩).run Try.prog w = if World.cellsIn w b = 14 then .ok (.agg (World.cellsOf w b)) w else (loadElse 105 ⟨b, 0, none⟩).run Try.prog w := by
  split
  · rename_i h
    exact run_loadWhole (agg_fc w) (size_fc w) (by decide) h
  · rfl
@[reducible] def lnV (x : Ln) (lv : Value) : Value := .agg #[.string (bsOf x.name), .int .i64 x.back.c, .int .i64 x.back.s, lv]
end Go.Proofs.Ytggohceeeggnmaa
