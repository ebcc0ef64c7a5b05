/-
  Faces in numbers in memory: a struct of twenty-three cells; a slice of them.
-/
import Derived.Test.YtekhhekkepijoaaGreatDoorGy5
import Derived.Test.YtekhhekkepijoaaGreatDoorGl
import Derived.Test.YtekhhekkepijoaaGreatDoorGa
namespace Go.Proofs.YtekhhekkepijoaaGreatDoor
set_option linter.unusedVariables false
open Go.ChangeShapes Go.WideShapes Go.ChangeAt Go.RowKit

def cellsS (s : Sf) : List Value := [.bool s.stop, .bool s.bent, .int .i64 s.curve.lo, .int .i64 s.curve.hi, .bool s.curve.no, .int .i64 s.conic.lo, .int .i64 s.conic.hi, .bool s.conic.no, .int .i64 s.a4.lo, .int .i64 s.a4.hi, .bool s.a4.no, .int .i64 s.a6.lo, .int .i64 s.a6.hi, .bool s.a6.no, .int .i64 s.place.lo, .int .i64 s.place.hi, .bool s.place.no, .int .i64 s.open2.lo, .int .i64 s.open2.hi, .bool s.open2.no, .int .i64 s.ratio.lo, .int .i64 s.ratio.hi, .bool s.ratio.no]
@[reducible] def sfV (s : Sf) : Value := .agg #[.bool s.stop, .bool s.bent, .int .i64 s.curve.lo, .int .i64 s.curve.hi, .bool s.curve.no, .int .i64 s.conic.lo, .int .i64 s.conic.hi, .bool s.conic.no, .int .i64 s.a4.lo, .int .i64 s.a4.hi, .bool s.a4.no, .int .i64 s.a6.lo, .int .i64 s.a6.hi, .bool s.a6.no, .int .i64 s.place.lo, .int .i64 s.place.hi, .bool s.place.no, .int .i64 s.open2.lo, .int .i64 s.open2.hi, .bool s.open2.no, .int .i64 s.ratio.lo, .int .i64 s.ratio.hi, .bool s.ratio.no]
theorem cellsS_len (s : Sf) : (cellsS s).length = 23 := rfl
theorem cellsS_one (s : Sf) : ∀ u ∈ cellsS s, u.oneCell' = true := by
  unfold cellsS
  (repeat (refine List.forall_mem_cons.2 ⟨rfl, ?_⟩))
  intro v hv
  cases hv
abbrev Sfs (w : World) (v : Value) (l : List Sf) : Prop := GRow cellsS 23 w v l
theorem sfs_pos (s : Sf) : 0 < (cellsS s).length := by rw [cellsS_len]; decide
theorem und_ss : Tryz.prog.underlying 34 = some (.slice 48) := by kernel_rfl
theorem info_ss : (Tryz.prog.info? 48).map (fun i => (i.zero, i.size, i.bytes)) = some (some (.agg #[.bool false, .bool false, .int .i64 0, .int .i64 0, .bool false, .int .i64 0, .int .i64 0, .bool false, .int .i64 0, .int .i64 0, .bool false, .int .i64 0, .int .i64 0, .bool false, .int .i64 0, .int .i64 0, .bool false, .int .i64 0, .int .i64 0, .bool false, .int .i64 0, .int .i64 0, .bool false]), 23, 176) := by kernel_rfl
theorem agg_sf (w : World) : (isAgg 48).run Tryz.prog w = .ok true w := by kernel_rfl
theorem size_sf (w : World) : (sizeOf 48).run Tryz.prog w = .ok 23 w := by kernel_rfl
@[go_sem ↓ high] theorem storeVar_sf (a : Addr) (v : Value) : storeVar 48 a v = storeWhole 48 a v := rfl
@[go_sem ↓ high] theorem loadVar_sf (a : Addr) : loadVar 48 a = loadWhole 48 a := rfl
@[go_sem] theorem run_store_sf (w : World) (b : Nat) (p q : Bool) (x0 x1 x2 x3 x4 x5 x6 x7 x8 x9 x10 x11 x12 x13 : Int) (n0 n1 n2 n3 n4 n5 n6 : Bool) :
    (storeWhole 48 ⟨b, 0, none⟩ (.agg #[.bool p, .bool q, .int .i64 x0, .int .i64 x1, .bool n0, .int .i64 x2, .int .i64 x3, .bool n1, .int .i64 x4, .int .i64 x5, .bool n2, .int .i64 x6, .int .i64 x7, .bool n3, .int .i64 x8, .int .i64 x9, .bool n4, .int .i64 x10, .int .i64 x11, .bool n5, .int .i64 x12, .int .i64 x13, .bool n6])).run Tryz.prog w =
      if World.cellsIn w b = 23 then .ok () (w.setRow b #[.bool p, .bool q, .int .i64 x0, .int .i64 x1, .bool n0, .int .i64 x2, .int .i64 x3, .bool n1, .int .i64 x4, .int .i64 x5, .bool n2, .int .i64 x6, .int .i64 x7, .bool n3, .int .i64 x8, .int .i64 x9, .bool n4, .int .i64 x10, .int .i64 x11, .bool n5, .int .i64 x12, .int .i64 x13, .bool n6]) else (storeElse 48 ⟨b, 0, none⟩ (.agg #[.bool p, .bool q, .int .i64 x0, .int .i64 x1, .bool n0, .int .i64 x2, .int .i64 x3, .bool n1, .int .i64 x4, .int .i64 x5, .bool n2, .int .i64 x6, .int .i64 x7, .bool n3, .int .i64 x8, .int .i64 x9, .bool n4, .int .i64 x10, .int .i64 x11, .bool n5, .int .i64 x12, .int .i64 x13, .bool n6])).run Tryz.prog w := by
  split
  · rename_i h
    refine run_storeWhole (n := 23) (vs := [.bool p, .bool q, .int .i64 x0, .int .i64 x1, .bool n0, .int .i64 x2, .int .i64 x3, .bool n1, .int .i64 x4, .int .i64 x5, .bool n2, .int .i64 x6, .int .i64 x7, .bool n3, .int .i64 x8, .int .i64 x9, .bool n4, .int .i64 x10, .int .i64 x11, .bool n5, .int .i64 x12, .int .i64 x13, .bool n6]) (size_sf w) rfl (by decide) ?_ h
    (repeat (refine List.forall_mem_cons.2 ⟨rfl, ?_⟩))
    intro v hv
    cases hv
  · rfl
@[go_sem] theorem run_load_sf (w : World) (b : Nat) :
    (loadWhole 48 ⟨b, 0, none⟩).run Tryz.prog w = if World.cellsIn w b = 23 then .ok (.agg (World.cellsOf w b)) w else (loadElse 48 ⟨b, 0, none⟩).run Tryz.prog w := by
  split
  · rename_i h
    exact run_loadWhole (agg_sf w) (size_sf w) (by decide) h
  · rfl
theorem load_sf_at {w : World} {b o : Nat} {f : Sf} (h : ∀ j u, (cellsS f)[j]? = some u → w.cell? ⟨b, o + j, none⟩ = some u) : (loadWhole 48 ⟨b, o, none⟩).run Tryz.prog w = .ok (sfV f) w := by
  have hl := run_loadCells_list (P := Tryz.prog) w ⟨b, o, none⟩ (cellsS f) (fun j v hj => by rw [Addr.add_lit]; exact h j v hj)
  unfold loadWhole loadVar
  rw [cellsS_len] at hl
  simp [hl]
  rfl
/-- What a slice of faces in numbers says at one place, as a walk takes it. -/
theorem sfs_at {w : World} {ao : Option Addr} {n c k : Nat} {l : List Sf} {f : Sf} (h : Sfs w (.slice ao n c) l) (hk : l[k]? = some f) :
    ∃ b o, ao = some ⟨b, o, none⟩ ∧ b < w.heap.size ∧ (∀ r, (loadWhole 48 ⟨b, o + k * 23, none⟩).run Tryz.prog (more w r) = .ok (sfV f) (more w r)) ∧ (loadWhole 48 ⟨b, o + k * 23, none⟩).run Tryz.prog w = .ok (sfV f) w := by
  rcases h with ⟨-, rfl⟩ | ⟨b, o, c', hv, -, hc⟩
  · simp at hk
  · injection hv with h1 h2 h3
    subst h1
    have h0 := hc k f hk 0 _ rfl
    have hb := World.block_lt_of_cell? w _ h0
    have hc' : ∀ j u, (cellsS f)[j]? = some u → w.cell? ⟨b, o + k * 23 + j, none⟩ = some u := fun j u hj => by rw [Nat.add_assoc]; exact hc k f hk j u hj
    refine ⟨b, o, rfl, hb, fun r => load_sf_at fun j u hj => ?_, load_sf_at hc'⟩
    rw [cell_more _ _ _ _ hb]
    exact hc' j u hj
theorem load_sf_obj {w : World} {b : Nat} {s : Sf} (h : w.heap[b]? = some (.cells (cellsS s).toArray 48 (0, 0))) : (loadVar 48 ⟨b, 0, none⟩).run Tryz.prog w = .ok (sfV s) w := by
  refine load_sf_at (b := b) (o := 0) fun j u hu => ?_
  rw [Nat.zero_add]
  simp only [World.cell?, h]
  simpa using hu
/-- A result that lies in a block of many cells. -/
theorem results_one {P : Program} {fn : Func} {tmps : Array Value} {w : World} {k : Nat} {T : TypeId} {b : Addr} {v : Value} (h1 : fn.results = #[.cell k T]) (h2 : tmps.getD k undef = .pointer (some b)) (h3 : (loadVar T b).run P w = .ok v w) : (results fn tmps).run P w = .ok v w := by
  unfold results
  rw [h1]
  have h4 : tmps[k]?.getD undef = .pointer (some b) := by simpa using h2
  simp [h4, h3, asAddr]
theorem obj_at2 (W : World) (A B O : Obj) (r : Rest) : (more (((W.alloc A).alloc B).alloc O) r).heap[W.heap.size + 2]? = some O := by
  have e : W.heap.size + 2 = ((W.alloc A).alloc B).heap.size := by simp
  rw [heap_more _ _ _ (by simp), e, heap_alloc_new]
/-- Equality of two intervals, of two decimals. -/
theorem eqIn_iv (x1 x2 y1 y2 : Int) (n m : Bool) (w : World) : (Op.equalIn 9999 36 (.agg #[.int .i64 x1, .int .i64 x2, .bool n]) (.agg #[.int .i64 y1, .int .i64 y2, .bool m])).run Tryz.prog w = .ok (x1 == y1 && (x2 == y2 && n == m)) w := by
  have hS : Tryz.prog.underlying 36 = some (.struct (Tryz.prog.fieldsOf 36)) := by kernel_rfl
  have hp : Tryz.prog.stoodInHeld 36 = false := by kernel_rfl
  rw [show (9999 : Nat) = 9998 + 1 from rfl, run_equalIn_agg w 9998 _ _ _ hS hp]
  simp only [Program.fieldsOf, Tryz.underlying36]
  go_simp
  by_cases h1 : x1 = y1 <;> by_cases h2 : x2 = y2 <;> by_cases h3 : n = m <;> simp [h1, h2, h3]
theorem eql_iv (a b : Iv) (w : World) : (binOp .eql 36 (ivV a) (ivV b)).run Tryz.prog w = .ok (.bool (ivEq a b)) w := by
  have hS : Tryz.prog.underlying 36 = some (.struct (Tryz.prog.fieldsOf 36)) := by kernel_rfl
  have hp : Tryz.prog.stoodInHeld 36 = false := by kernel_rfl
  rw [run_eql_struct, show (10000 : Nat) = 9999 + 1 from rfl, run_equalIn_agg w 9999 _ _ _ hS hp]
  simp only [Program.fieldsOf, Tryz.underlying36]
  go_simp
  unfold ivEq
  by_cases h1 : a.lo = b.lo <;> by_cases h2 : a.hi = b.hi <;> by_cases h3 : a.no = b.no <;> simp [h1, h2, h3]
theorem neql_dec0 (c s : Int) (w : World) : (binOp .neq 25 (.agg #[.int .i64 c, .int .i64 s]) (.agg #[.int .i64 0, .int .i64 0])).run Tryz.prog w = .ok (.bool (!isZ ⟨c, s⟩)) w := by
  have hS : Tryz.prog.underlying 25 = some (.struct (Tryz.prog.fieldsOf 25)) := by kernel_rfl
  have hp : Tryz.prog.stoodInHeld 25 = false := by kernel_rfl
  rw [run_neq_struct, show (10000 : Nat) = 9999 + 1 from rfl, run_equalIn_agg w 9999 _ _ _ hS hp]
  simp only [Program.fieldsOf, Tryz.underlying25]
  go_simp
  unfold isZ
  by_cases h1 : c = 0 <;> by_cases h2 : s = 0 <;> simp [h1, h2]
set_option maxHeartbeats 4000000 in
set_option maxRecDepth 100000 in
theorem neql_sf (s : Sf) (w : World) : (binOp .neq 48 (sfV s) (sfV s)).run Tryz.prog w = .ok (.bool false) w := by
  have hS : Tryz.prog.underlying 48 = some (.struct (Tryz.prog.fieldsOf 48)) := by kernel_rfl
  have hp : Tryz.prog.stoodInHeld 48 = false := by kernel_rfl
  have hd : ∀ (x1 x2 : Int) (n : Bool) (w : World), (Op.equalIn 9999 36 (.agg #[.int .i64 x1, .int .i64 x2, .bool n]) (.agg #[.int .i64 x1, .int .i64 x2, .bool n])).run Tryz.prog w = .ok true w := fun x1 x2 n w => by rw [eqIn_iv]; simp
  rw [run_neq_struct, show (10000 : Nat) = 9999 + 1 from rfl, run_equalIn_agg w 9999 _ _ _ hS hp]
  simp only [Program.fieldsOf, Tryz.underlying48]
  go_simp
end Go.Proofs.YtekhhekkepijoaaGreatDoor

