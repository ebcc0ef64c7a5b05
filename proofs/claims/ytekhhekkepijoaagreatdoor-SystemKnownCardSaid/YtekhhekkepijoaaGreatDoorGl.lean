/-
  Faces in memory: a struct of fourteen cells; a slice of them.
  A slice of raw faces (structs of six numbers) among the arguments.
-/
import Derived.Test.YtekhhekkepijoaaGreatDoorGj
import Derived.Test.YtekhhekkepijoaaGreatDoorGe
import Derived.Test.YtekhhekkepijoaaGreatDoorGa
import Derived.Test.YtekhhekkepijoaaGreatDoorGc
import Derived.Deep.Slices

namespace Go.Proofs.YtekhhekkepijoaaGreatDoor
set_option linter.unusedVariables false
open Go.ChangeShapes Go.WideShapes Go.ChangeAt Go.RowKit

def cellsF (f : Fc) : List Value := [.bool f.stop, .int .i64 f.radius.c, .int .i64 f.radius.s, .int .i64 f.aperture.c, .int .i64 f.aperture.s, .int .i64 f.thick.c, .int .i64 f.thick.s, .int .i64 f.conic.c, .int .i64 f.conic.s, .int .i64 f.a4.c, .int .i64 f.a4.s, .int .i64 f.a6.c, .int .i64 f.a6.s, .string (bsOf f.glass)]
@[reducible] def fcV (f : Fc) : Value := .agg #[.bool f.stop, .int .i64 f.radius.c, .int .i64 f.radius.s, .int .i64 f.aperture.c, .int .i64 f.aperture.s, .int .i64 f.thick.c, .int .i64 f.thick.s, .int .i64 f.conic.c, .int .i64 f.conic.s, .int .i64 f.a4.c, .int .i64 f.a4.s, .int .i64 f.a6.c, .int .i64 f.a6.s, .string (bsOf f.glass)]
theorem cellsF_len (f : Fc) : (cellsF f).length = 14 := rfl
theorem cellsF_one (f : Fc) : ∀ u ∈ cellsF f, u.oneCell' = true := by
  intro u hu
  simp only [cellsF, List.mem_cons, List.not_mem_nil, or_false] at hu
  rcases hu with rfl | rfl | rfl | rfl | rfl | rfl | rfl | rfl | rfl | rfl | rfl | rfl | rfl | rfl <;> rfl
abbrev Fcs (w : World) (v : Value) (l : List Fc) : Prop := GRow cellsF 14 w v l
theorem fcs_pos (f : Fc) : 0 < (cellsF f).length := by rw [cellsF_len]; decide
theorem und_fs : Tryz.prog.underlying 26 = some (.slice 56) := by kernel_rfl
theorem info_fs : (Tryz.prog.info? 56).map (fun i => (i.zero, i.size, i.bytes)) = some (some (.agg #[.bool false, .int .i64 0, .int .i64 0, .int .i64 0, .int .i64 0, .int .i64 0, .int .i64 0, .int .i64 0, .int .i64 0, .int .i64 0, .int .i64 0, .int .i64 0, .int .i64 0, .string ⟨#[]⟩]), 14, 120) := by kernel_rfl

theorem agg_fc (w : World) : (isAgg 56).run Tryz.prog w = .ok true w := by kernel_rfl
theorem size_fc (w : World) : (sizeOf 56).run Tryz.prog w = .ok 14 w := by kernel_rfl
@[go_sem ↓ high] theorem storeVar_fc (a : Addr) (v : Value) : storeVar 56 a v = storeWhole 56 a v := rfl
@[go_sem ↓ high] theorem loadVar_fc (a : Addr) : loadVar 56 a = loadWhole 56 a := rfl
@[go_sem] theorem run_store_fc (w : World) (b : Nat) (p : Bool) (s : ByteArray) (x1 x2 x3 x4 x5 x6 x7 x8 x9 x10 x11 x12 : Int) :
    (storeWhole 56 ⟨b, 0, none⟩ (.agg #[.bool p, .int .i64 x1, .int .i64 x2, .int .i64 x3, .int .i64 x4, .int .i64 x5, .int .i64 x6, .int .i64 x7, .int .i64 x8, .int .i64 x9, .int .i64 x10, .int .i64 x11, .int .i64 x12, .string s])).run Tryz.prog w =
      if World.cellsIn w b = 14 then .ok () (w.setRow b #[.bool p, .int .i64 x1, .int .i64 x2, .int .i64 x3, .int .i64 x4, .int .i64 x5, .int .i64 x6, .int .i64 x7, .int .i64 x8, .int .i64 x9, .int .i64 x10, .int .i64 x11, .int .i64 x12, .string s]) else (storeElse 56 ⟨b, 0, none⟩ (.agg #[.bool p, .int .i64 x1, .int .i64 x2, .int .i64 x3, .int .i64 x4, .int .i64 x5, .int .i64 x6, .int .i64 x7, .int .i64 x8, .int .i64 x9, .int .i64 x10, .int .i64 x11, .int .i64 x12, .string s])).run Tryz.prog w := by
  split
  · rename_i h
    refine run_storeWhole (n := 14) (vs := [.bool p, .int .i64 x1, .int .i64 x2, .int .i64 x3, .int .i64 x4, .int .i64 x5, .int .i64 x6, .int .i64 x7, .int .i64 x8, .int .i64 x9, .int .i64 x10, .int .i64 x11, .int .i64 x12, .string s]) (size_fc w) rfl (by decide) ?_ h
    (repeat (refine List.forall_mem_cons.2 ⟨rfl, ?_⟩))
    intro v hv
    cases hv
  · rfl
@[go_sem] theorem run_load_fc (w : World) (b : Nat) :
    (loadWhole 56 ⟨b, 0, none⟩).run Tryz.prog w = if World.cellsIn w b = 14 then .ok (.agg (World.cellsOf w b)) w else (loadElse 56 ⟨b, 0, none⟩).run Tryz.prog w := by
  split
  · rename_i h
    exact run_loadWhole (agg_fc w) (size_fc w) (by decide) h
  · rfl
/-- A face of a slice comes out of its place at once. -/
theorem load_fc_at {w : World} {b o : Nat} {f : Fc} (h : ∀ j u, (cellsF f)[j]? = some u → w.cell? ⟨b, o + j, none⟩ = some u) : (loadWhole 56 ⟨b, o, none⟩).run Tryz.prog w = .ok (fcV f) w := by
  have hl := run_loadCells_list (P := Tryz.prog) w ⟨b, o, none⟩ (cellsF f) (fun j v hj => by rw [Addr.add_lit]; exact h j v hj)
  unfold loadWhole loadVar
  rw [cellsF_len] at hl
  simp [hl]
  rfl
/-- What a slice of faces says at one place, as a walk takes it. -/
theorem fcs_at {w : World} {ao : Option Addr} {n c k : Nat} {l : List Fc} {f : Fc} (h : Fcs w (.slice ao n c) l) (hk : l[k]? = some f) :
    ∃ b o, ao = some ⟨b, o, none⟩ ∧ b < w.heap.size ∧ (∀ r, (loadWhole 56 ⟨b, o + k * 14, none⟩).run Tryz.prog (more w r) = .ok (fcV f) (more w r)) ∧ (loadWhole 56 ⟨b, o + k * 14, none⟩).run Tryz.prog w = .ok (fcV f) w := by
  rcases h with ⟨-, rfl⟩ | ⟨b, o, c', hv, -, hc⟩
  · simp at hk
  · injection hv with h1 h2 h3
    subst h1
    have h0 := hc k f hk 0 _ rfl
    have hb := World.block_lt_of_cell? w _ h0
    have hc' : ∀ j u, (cellsF f)[j]? = some u → w.cell? ⟨b, o + k * 14 + j, none⟩ = some u := fun j u hj => by rw [Nat.add_assoc]; exact hc k f hk j u hj
    refine ⟨b, o, rfl, hb, fun r => load_fc_at fun j u hj => ?_, load_fc_at hc'⟩
    rw [cell_more _ _ _ _ hb]
    exact hc' j u hj
@[reducible] def lnV (x : Ln) (lv : Value) : Value := .agg #[.string (bsOf x.name), .int .i64 x.back.c, .int .i64 x.back.s, lv]
end Go.Proofs.YtekhhekkepijoaaGreatDoor

namespace Go.Proofs.YtekhhekkepijoaaGreatDoor
set_option linter.unusedVariables false
open Go.ChangeShapes Go.WideShapes Go.ChangeAt Go.RowKit

def raw6 (f : RawF) : List Value := [.int .i64 f.kind, .int .i64 f.r, .int .i64 f.a, .int .i64 f.t, .int .i64 f.g, .int .i64 f.k]
/-- The cells of the slice v hold these raw faces. -/
def Raws (w : World) (v : Value) (l : List RawF) : Prop :=
  (l = [] ∧ ∃ a c, v = .slice a 0 c) ∨ ∃ b o c, v = .slice (some ⟨b, o, none⟩) l.length c ∧ ∀ k f, l[k]? = some f → ∀ j u, (raw6 f)[j]? = some u → w.cell? ⟨b, o + (k * 6 + j), none⟩ = some u

section
variable {H : Type} {enc : TypeId × Value → H} {P : Program} {w : World} {base : Nat} {spare : Nat → Bool} {held : Bool}
end
theorem cell_up {w W : World} (h : More w W) {b o : Nat} {v : Value} (hc : w.cell? ⟨b, o, none⟩ = some v) : W.cell? ⟨b, o, none⟩ = some v := by
  obtain ⟨r, rfl⟩ := h
  rw [cell_more _ _ _ _ (World.block_lt_of_cell? w _ hc)]
  exact hc
theorem Raws.up {w w' : World} {v : Value} {l : List RawF} (h : Raws w v l) (hm : More w w') : Raws w' v l := by
  rcases h with h | ⟨b, o, c, hv, hc⟩
  · exact .inl h
  · exact .inr ⟨b, o, c, hv, fun k f hk j u hu => by
      have h1 := hc k f hk j u hu
      exact cell_up hm h1⟩
end Go.Proofs.YtekhhekkepijoaaGreatDoor
