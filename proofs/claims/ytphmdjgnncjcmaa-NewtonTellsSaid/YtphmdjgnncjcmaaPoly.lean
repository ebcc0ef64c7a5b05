/-
  The calls of package poly.
-/
import Derived.Test.YtphmdjgnncjcmaaRow
import Derived.Test.YtphmdjgnncjcmaaIv
namespace Go.Proofs.Ytphmdjgnncjcmaa
set_option linter.unusedVariables false
open Go.ChangeShapes Go.WideShapes Go.ChangeAt Go.RowKit

/-- What a row says of one place, as the walk spells it. -/
theorem row_at {W : World} {l : List Iv} {g o : Nat} (hc : ∀ k a, l[k]? = some a → W.cell? ⟨g, o + k * 3, none⟩ = some (.int .i64 a.lo) ∧ W.cell? ⟨g, o + k * 3 + 1, none⟩ = some (.int .i64 a.hi) ∧ W.cell? ⟨g, o + k * 3 + 2, none⟩ = some (.bool a.no)) (k : Nat) (hk : k < l.length) :
    g < W.heap.size ∧ W.cell? ⟨g, o + k * 3, none⟩ = some (.int .i64 (l.getD k ivNone).lo) ∧ W.cell? ⟨g, o + (k * 3 + 1), none⟩ = some (.int .i64 (l.getD k ivNone).hi) ∧ W.cell? ⟨g, o + (k * 3 + 2), none⟩ = some (.bool (l.getD k ivNone).no) := by
  obtain ⟨h1, h2, h3⟩ := hc k (l.getD k ivNone) (by simp [List.getD, hk])
  exact ⟨World.block_lt_of_cell? W _ h1, h1, h2, h3⟩

theorem und_ivs : Try.prog.underlying 37 = some (.slice 23) := by kernel_rfl

theorem info_iv : (Try.prog.info? 23).map (fun i => (i.zero, i.size, i.bytes)) = some (some (.agg #[.int .i64 0, .int .i64 0, .bool false]), 3, 24) := by kernel_rfl

end Go.Proofs.Ytphmdjgnncjcmaa

