/-
  The contracts of what the statements of chapter 9 lean on: decimals said plainly.
-/
import Derived.Test.YtggohceeeggnmaaGz5
import Derived.Test.YtggohceeeggnmaaGc
import Derived.Test.YtggohceeeggnmaaGa
import Derived.Laws.BytesArg
namespace Go.Proofs.Ytggohceeeggnmaa
set_option linter.unusedVariables false
open Go.ChangeShapes Go.WideShapes Go.ChangeAt Go.RowKit

/-- A slice of one byte. -/
def Byte1 (w : World) (u : Value) (b : Int) : Prop := ∃ g, u = .slice (some ⟨g, 0, none⟩) 1 1 ∧ w.cell? ⟨g, 0, none⟩ = some (.int .u8 b)
theorem Byte1.up {w w' : World} {u : Value} {b : Int} (h : Byte1 w u b) (hm : More w w') : Byte1 w' u b := by
  obtain ⟨r, rfl⟩ := hm
  obtain ⟨g, e, hc⟩ := h
  refine ⟨g, e, ?_⟩
  rw [World.cell?_of_block (heap_more w r g (World.block_lt_of_cell? w _ hc))]
  exact hc
theorem Byte1.new {w : World} {g : Nat} {b : Int} {T : TypeId} (h : g = w.heap.size) : Byte1 (w.alloc (.cells #[.int .u8 b] T)) (.slice (some ⟨g, 0, none⟩) 1 1) b := by
  subst h
  exact ⟨_, rfl, by simp⟩
theorem byte_text (w : World) (g : Nat) (b : Int) (hc : w.cell? ⟨g, 0, none⟩ = some (.int .u8 b)) : (convert 126 9 (.slice (some ⟨g, 0, none⟩) 1 1)).run Try.prog w = .ok (.string (bsOf [UInt8.ofNat b.toNat])) w :=
  run_convert_bytes_arg (P := Try.prog) w 126 5 (by kernel_rfl) (by kernel_rfl) g 0 1 1 [b] rfl (fun i hi => by
    have : i = 0 := by omega
    subst this
    simpa using hc) 9 (by kernel_rfl)
theorem Byte1.text {w : World} {u : Value} {b : Int} (h : Byte1 w u b) : (convert 126 9 u).run Try.prog w = .ok (.string (bsOf [UInt8.ofNat b.toNat])) w := by
  obtain ⟨g, rfl, hc⟩ := h
  exact byte_text w g b hc

end Go.Proofs.Ytggohceeeggnmaa

