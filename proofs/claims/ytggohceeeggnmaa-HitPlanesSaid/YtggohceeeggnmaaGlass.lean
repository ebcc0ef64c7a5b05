/-
  Glasses in memory: a struct of thirteen cells; a slice of them; which one is found.
-/
import Derived.Test.YtggohceeeggnmaaGg
import Derived.Test.YtggohceeeggnmaaGe
import Derived.Test.YtggohceeeggnmaaRef8
import Derived.Test.YtggohceeeggnmaaGd
import Derived.Test.YtggohceeeggnmaaGa
namespace Go.Proofs.Ytggohceeeggnmaa
set_option linter.unusedVariables false
open Go.ChangeShapes Go.WideShapes Go.ChangeAt Go.RowKit

def cellsG (g : Gl) : List Value := [.string (bsOf g.name), .int .i64 g.b0.c, .int .i64 g.b0.s, .int .i64 g.b1.c, .int .i64 g.b1.s, .int .i64 g.b2.c, .int .i64 g.b2.s, .int .i64 g.c0.c, .int .i64 g.c0.s, .int .i64 g.c1.c, .int .i64 g.c1.s, .int .i64 g.c2.c, .int .i64 g.c2.s]
@[reducible] def glV (g : Gl) : Value := .agg #[.string (bsOf g.name), .int .i64 g.b0.c, .int .i64 g.b0.s, .int .i64 g.b1.c, .int .i64 g.b1.s, .int .i64 g.b2.c, .int .i64 g.b2.s, .int .i64 g.c0.c, .int .i64 g.c0.s, .int .i64 g.c1.c, .int .i64 g.c1.s, .int .i64 g.c2.c, .int .i64 g.c2.s]
theorem agg_gl (w : World) : (isAgg 100).run Try.prog w = .ok true w := by kernel_rfl
theorem size_gl (w : World) : (sizeOf 100).run Try.prog w = .ok 13 w := by kernel_rfl
@[go_sem ↓ high] theorem storeVar_gl (a : Addr) (v : Value) : storeVar 100 a v = storeWhole 100 a v := rfl
@[go_sem ↓ high] theorem loadVar_gl (a : Addr) : loadVar 100 a = loadWhole 100 a := rfl
@[go_sem] theorem run_store_gl (w : World) (b : Nat) (s : ByteArray) (x1 x2 x3 x4 x5 x6 y1 y2 y3 y4 y5 y6 : Int) :
    (storeWhole 100 ⟨b, 0, none⟩ (.agg #[.string s, .int .i64 x1, .int .i64 x2, .int .i64 x3, .int .i64 x4, .int .i64 x5, .int .i64 x6, .int .i64 y1, .int .i64 y2, .int .i64 y3, .int .i64 y4, .int .i64 y5, .int .i64 y6])).run Try.prog w =
      if World.cellsIn w b = 13 then .ok () (w.setRow b #[.string s, .int .i64 x1, .int .i64 x2, .int .i64 x3, .int .i64 x4, .int .i64 x5, .int .i64 x6, .int .i64 y1, .int .i64 y2, .int .i64 y3, .int .i64 y4, .int .i64 y5, .int .i64 y6]) else (storeElse 100 ⟨b, 0, none⟩ (.agg #[.string s, .int .i64 x1, .int .i64 x2, .int .i64 x3, .int .i64 x4, .int .i64 x5, .int .i64 x6, .int .i64 y1, .int .i64 y2, .int .i64 y3, .int .i64 y4, .int .i64 y5, .int .i64 y6])).run Try.prog w := by
  split
  · rename_i h
    refine run_storeWhole (n := 13) (vs := [.string s, .int .i64 x1, .int .i64 x2, .int .i64 x3, .int .i64 x4, .int .i64 x5, .int .i64 x6, .int .i64 y1, .int .i64 y2, .int .i64 y3, .int .i64 y4, .int .i64 y5, .int .i64 y6]) (size_gl w) rfl (by decide) ?_ h
    (repeat (refine List.forall_mem_cons.2 ⟨rfl, ?_⟩))
    intro v hv
    cases hv
  · rfl
@[go_sem] theorem run_load_gl (w : World) (b : Nat) :
    (loadWhole 100 ⟨b, 0, none⟩).run Try.prog w = if World.cellsIn w b = 13 then .ok (.agg (World.cellsOf w b)) w else (loadElse 100 ⟨b, 0, none⟩).run Try.prog w := by
  split
  · rename_i h
    exact run_loadWhole (agg_gl w) (size_gl w) (by decide) h
  · rfl
end Go.Proofs.Ytggohceeeggnmaa

