/-
  The plain saying's function of a face and a ray: how far beyond, and the slope.
-/
import Derived.Test.YtggohceeeggnmaaGreatGm5
import Derived.Test.YtggohceeeggnmaaGreatSagRef
import Derived.Test.YtggohceeeggnmaaGreatGq5
import Derived.Test.YtggohceeeggnmaaGreatFn7
namespace Go.Proofs.YtggohceeeggnmaaGreat
set_option linter.unusedVariables false
open Go.ChangeShapes Go.WideShapes Go.ChangeAt Go.RowKit

/-- How far a ray is beyond a face, as a function. -/
structure Gv where
  s : Sf
  r : Wy
def cellsG15 (g : Gv) : List Value := [.slice none 0 0, .bool true, .bool g.s.stop, .bool g.s.bent, .int .i64 g.s.curve.lo, .int .i64 g.s.curve.hi, .bool g.s.curve.no, .int .i64 g.s.conic.lo, .int .i64 g.s.conic.hi, .bool g.s.conic.no, .int .i64 g.s.a4.lo, .int .i64 g.s.a4.hi, .bool g.s.a4.no, .int .i64 g.s.a6.lo, .int .i64 g.s.a6.hi, .bool g.s.a6.no, .int .i64 g.s.place.lo, .int .i64 g.s.place.hi, .bool g.s.place.no, .int .i64 g.s.open2.lo, .int .i64 g.s.open2.hi, .bool g.s.open2.no, .int .i64 g.s.ratio.lo, .int .i64 g.s.ratio.hi, .bool g.s.ratio.no, .int .i64 g.r.o.x.lo, .int .i64 g.r.o.x.hi, .bool g.r.o.x.no, .int .i64 g.r.o.y.lo, .int .i64 g.r.o.y.hi, .bool g.r.o.y.no, .int .i64 g.r.o.z.lo, .int .i64 g.r.o.z.hi, .bool g.r.o.z.no, .int .i64 g.r.d.x.lo, .int .i64 g.r.d.x.hi, .bool g.r.d.x.no, .int .i64 g.r.d.y.lo, .int .i64 g.r.d.y.hi, .bool g.r.d.y.no, .int .i64 g.r.d.z.lo, .int .i64 g.r.d.z.hi, .bool g.r.d.z.no]
@[reducible] def gnV (g : Gv) : Value := .agg #[.slice none 0 0, .bool true, .bool g.s.stop, .bool g.s.bent, .int .i64 g.s.curve.lo, .int .i64 g.s.curve.hi, .bool g.s.curve.no, .int .i64 g.s.conic.lo, .int .i64 g.s.conic.hi, .bool g.s.conic.no, .int .i64 g.s.a4.lo, .int .i64 g.s.a4.hi, .bool g.s.a4.no, .int .i64 g.s.a6.lo, .int .i64 g.s.a6.hi, .bool g.s.a6.no, .int .i64 g.s.place.lo, .int .i64 g.s.place.hi, .bool g.s.place.no, .int .i64 g.s.open2.lo, .int .i64 g.s.open2.hi, .bool g.s.open2.no, .int .i64 g.s.ratio.lo, .int .i64 g.s.ratio.hi, .bool g.s.ratio.no, .int .i64 g.r.o.x.lo, .int .i64 g.r.o.x.hi, .bool g.r.o.x.no, .int .i64 g.r.o.y.lo, .int .i64 g.r.o.y.hi, .bool g.r.o.y.no, .int .i64 g.r.o.z.lo, .int .i64 g.r.o.z.hi, .bool g.r.o.z.no, .int .i64 g.r.d.x.lo, .int .i64 g.r.d.x.hi, .bool g.r.d.x.no, .int .i64 g.r.d.y.lo, .int .i64 g.r.d.y.hi, .bool g.r.d.y.no, .int .i64 g.r.d.z.lo, .int .i64 g.r.d.z.hi, .bool g.r.d.z.no]
theorem load_wy_at {w : World} {b o : Nat} {r : Wy} (h : ∀ j u, (cellsR r)[j]? = some u → w.cell? ⟨b, o + j, none⟩ = some u) : (loadWhole 34 ⟨b, o, none⟩).run Tryz.prog w = .ok (wyV r) w := by
  have hl := run_loadCells_list (P := Tryz.prog) w ⟨b, o, none⟩ (cellsR r) (fun j v hj => by rw [Addr.add_lit]; exact h j v hj)
  unfold loadWhole loadVar
  rw [show (cellsR r).length = 18 from rfl] at hl
  simp [hl]
  rfl
def OkGvAt (w : World) (b : Nat) (g : Gv) : Prop := w.heap[b]? = some (.cells (cellsG15 g).toArray 84 (0, 0))
theorem OkGvAt.up {w w' : World} {b : Nat} {g : Gv} (h : OkGvAt w b g) (hM : More w w') : OkGvAt w' b g := heap_up hM h
theorem load_gv_sf {w : World} {b : Nat} {g : Gv} (h : OkGvAt w b g) : (loadWhole 43 ⟨b, 2, none⟩).run Tryz.prog w = .ok (sfV g.s) w := by
  refine load_sf_at fun j u hu => ?_
  have hj : j < 23 := by have := (List.getElem?_eq_some_iff.1 hu).1; rwa [cellsS_len] at this
  refine heap_cell h ?_
  have e : (cellsG15 g)[2 + j]? = (cellsS g.s)[j]? := by
    show ((.slice none 0 0) :: (.bool true) :: (cellsS g.s ++ cellsR g.r))[2 + j]? = _
    rw [Nat.add_comm]
    simp only [List.getElem?_cons_succ]
    exact List.getElem?_append_left (by rw [cellsS_len]; exact hj)
  simpa using e.trans hu
theorem load_gv_wy {w : World} {b : Nat} {g : Gv} (h : OkGvAt w b g) : (loadWhole 34 ⟨b, 25, none⟩).run Tryz.prog w = .ok (wyV g.r) w := by
  refine load_wy_at fun j u hu => ?_
  refine heap_cell h ?_
  have e : (cellsG15 g)[25 + j]? = (cellsR g.r)[j]? := by
    show ((.slice none 0 0) :: (.bool true) :: (cellsS g.s ++ cellsR g.r))[25 + j]? = _
    rw [show 25 + j = (23 + j) + 2 by omega]
    simp only [List.getElem?_cons_succ]
    rw [List.getElem?_append_right (by rw [cellsS_len]; omega), cellsS_len, show 23 + j - 23 = j by omega]
  simpa using e.trans hu
set_option maxHeartbeats 4000000 in
set_option maxRecDepth 100000 in
@[go_sem] theorem run_store_gn (w : World) (b : Nat) (g : Gv) :
    (storeWhole 84 ⟨b, 0, none⟩ (.agg #[.slice none 0 0, .bool true, .bool g.s.stop, .bool g.s.bent, .int .i64 g.s.curve.lo, .int .i64 g.s.curve.hi, .bool g.s.curve.no, .int .i64 g.s.conic.lo, .int .i64 g.s.conic.hi, .bool g.s.conic.no, .int .i64 g.s.a4.lo, .int .i64 g.s.a4.hi, .bool g.s.a4.no, .int .i64 g.s.a6.lo, .int .i64 g.s.a6.hi, .bool g.s.a6.no, .int .i64 g.s.place.lo, .int .i64 g.s.place.hi, .bool g.s.place.no, .int .i64 g.s.open2.lo, .int .i64 g.s.open2.hi, .bool g.s.open2.no, .int .i64 g.s.ratio.lo, .int .i64 g.s.ratio.hi, .bool g.s.ratio.no, .int .i64 g.r.o.x.lo, .int .i64 g.r.o.x.hi, .bool g.r.o.x.no, .int .i64 g.r.o.y.lo, .int .i64 g.r.o.y.hi, .bool g.r.o.y.no, .int .i64 g.r.o.z.lo, .int .i64 g.r.o.z.hi, .bool g.r.o.z.no, .int .i64 g.r.d.x.lo, .int .i64 g.r.d.x.hi, .bool g.r.d.x.no, .int .i64 g.r.d.y.lo, .int .i64 g.r.d.y.hi, .bool g.r.d.y.no, .int .i64 g.r.d.z.lo, .int .i64 g.r.d.z.hi, .bool g.r.d.z.no])).run Tryz.prog w =
      if World.cellsIn w b = 43 then .ok () (w.setRow b #[.slice none 0 0, .bool true, .bool g.s.stop, .bool g.s.bent, .int .i64 g.s.curve.lo, .int .i64 g.s.curve.hi, .bool g.s.curve.no, .int .i64 g.s.conic.lo, .int .i64 g.s.conic.hi, .bool g.s.conic.no, .int .i64 g.s.a4.lo, .int .i64 g.s.a4.hi, .bool g.s.a4.no, .int .i64 g.s.a6.lo, .int .i64 g.s.a6.hi, .bool g.s.a6.no, .int .i64 g.s.place.lo, .int .i64 g.s.place.hi, .bool g.s.place.no, .int .i64 g.s.open2.lo, .int .i64 g.s.open2.hi, .bool g.s.open2.no, .int .i64 g.s.ratio.lo, .int .i64 g.s.ratio.hi, .bool g.s.ratio.no, .int .i64 g.r.o.x.lo, .int .i64 g.r.o.x.hi, .bool g.r.o.x.no, .int .i64 g.r.o.y.lo, .int .i64 g.r.o.y.hi, .bool g.r.o.y.no, .int .i64 g.r.o.z.lo, .int .i64 g.r.o.z.hi, .bool g.r.o.z.no, .int .i64 g.r.d.x.lo, .int .i64 g.r.d.x.hi, .bool g.r.d.x.no, .int .i64 g.r.d.y.lo, .int .i64 g.r.d.y.hi, .bool g.r.d.y.no, .int .i64 g.r.d.z.lo, .int .i64 g.r.d.z.hi, .bool g.r.d.z.no]) else (storeElse 84 ⟨b, 0, none⟩ (gnV g)).run Tryz.prog w := by
  split
  · rename_i h
    refine run_storeWhole (n := 43) (b := b) (size_fn w) rfl (by decide) ?_ h
    (repeat (refine List.forall_mem_cons.2 ⟨rfl, ?_⟩))
    intro v hv
    cases hv
  · rfl

set_option maxHeartbeats 16000000 in
set_option maxRecDepth 100000 in
theorem atg_c (g : Gv) (t : Iv) (W : World) :
    Calls Tryz.prog 90 #[gnV g, ivV t] W fun e w' => e = .returned (.tuple #[ivV (hitF g.s g.r t).1, ivV (hitF g.s g.r t).2]) ∧ More W w' := by
  unfold hitF
  obtain ⟨P, hP⟩ : ∃ P, plAlong g.r t = P := ⟨_, rfl⟩
  rw [hP]
  obtain ⟨⟨q1, q2, q3⟩, hq⟩ : ∃ d, hitR2 P = d := ⟨_, rfl⟩
  rw [hq]
  obtain ⟨⟨z1, z2, z3⟩, hz⟩ : ∃ d, sagZ g.s ⟨q1, q2, q3⟩ = d := ⟨_, rfl⟩
  obtain ⟨⟨m1, m2, m3⟩, hm⟩ : ∃ d, sagM g.s ⟨q1, q2, q3⟩ = d := ⟨_, rfl⟩
  rw [hz, hm]
  obtain ⟨⟨a1, a2, a3⟩, ha⟩ : ∃ d, hitAc g.r P = d := ⟨_, rfl⟩
  rw [ha]
  unfold hitR2 at hq
  unfold hitAc at ha
  have HQ := Lib.hid hq
  have HZ := Lib.hid hz
  have HM := Lib.hid hm
  clear hq hz hm
  have hgv : ∀ W1, More (W.alloc (.cells #[.slice none 0 0, .bool true, .bool g.s.stop, .bool g.s.bent, .int .i64 g.s.curve.lo, .int .i64 g.s.curve.hi, .bool g.s.curve.no, .int .i64 g.s.conic.lo, .int .i64 g.s.conic.hi, .bool g.s.conic.no, .int .i64 g.s.a4.lo, .int .i64 g.s.a4.hi, .bool g.s.a4.no, .int .i64 g.s.a6.lo, .int .i64 g.s.a6.hi, .bool g.s.a6.no, .int .i64 g.s.place.lo, .int .i64 g.s.place.hi, .bool g.s.place.no, .int .i64 g.s.open2.lo, .int .i64 g.s.open2.hi, .bool g.s.open2.no, .int .i64 g.s.ratio.lo, .int .i64 g.s.ratio.hi, .bool g.s.ratio.no, .int .i64 g.r.o.x.lo, .int .i64 g.r.o.x.hi, .bool g.r.o.x.no, .int .i64 g.r.o.y.lo, .int .i64 g.r.o.y.hi, .bool g.r.o.y.no, .int .i64 g.r.o.z.lo, .int .i64 g.r.o.z.hi, .bool g.r.o.z.no, .int .i64 g.r.d.x.lo, .int .i64 g.r.d.x.hi, .bool g.r.d.x.no, .int .i64 g.r.d.y.lo, .int .i64 g.r.d.y.hi, .bool g.r.d.y.no, .int .i64 g.r.d.z.lo, .int .i64 g.r.d.z.hi, .bool g.r.d.z.no] 84)) W1 → OkGvAt W1 W.heap.size g := fun W1 hM => obj_under hM
  have LW0 := load_gv_wy (hgv ((((W.alloc (.cells #[.slice none 0 0, .bool true, .bool g.s.stop, .bool g.s.bent, .int .i64 g.s.curve.lo, .int .i64 g.s.curve.hi, .bool g.s.curve.no, .int .i64 g.s.conic.lo, .int .i64 g.s.conic.hi, .bool g.s.conic.no, .int .i64 g.s.a4.lo, .int .i64 g.s.a4.hi, .bool g.s.a4.no, .int .i64 g.s.a6.lo, .int .i64 g.s.a6.hi, .bool g.s.a6.no, .int .i64 g.s.place.lo, .int .i64 g.s.place.hi, .bool g.s.place.no, .int .i64 g.s.open2.lo, .int .i64 g.s.open2.hi, .bool g.s.open2.no, .int .i64 g.s.ratio.lo, .int .i64 g.s.ratio.hi, .bool g.s.ratio.no, .int .i64 g.r.o.x.lo, .int .i64 g.r.o.x.hi, .bool g.r.o.x.no, .int .i64 g.r.o.y.lo, .int .i64 g.r.o.y.hi, .bool g.r.o.y.no, .int .i64 g.r.o.z.lo, .int .i64 g.r.o.z.hi, .bool g.r.o.z.no, .int .i64 g.r.d.x.lo, .int .i64 g.r.d.x.hi, .bool g.r.d.x.no, .int .i64 g.r.d.y.lo, .int .i64 g.r.d.y.hi, .bool g.r.d.y.no, .int .i64 g.r.d.z.lo, .int .i64 g.r.d.z.hi, .bool g.r.d.z.no] 84)).alloc (.cells #[.int .i64 t.lo, .int .i64 t.hi, .bool t.no] 27)).alloc (.cells #[.int .i64 0, .int .i64 0, .bool false] 27)).alloc (.cells #[.int .i64 0, .int .i64 0, .bool false] 27)) (by repeat (first | exact More.refl _ | refine More.alloc ?_ _ | refine More.more ?_ _ | refine More.drew ?_ | refine More.drewN ?_ _)))
  have HG := Lib.hid hgv
  clear hgv
  go_enter Tryz.func90, Tryz.ntmps90
  go_upto_region 4 with (first | (go_at_call 48; (with_reducible refine (rvalong_c g.r t _).mono ?_); rintro e w' ⟨rfl, ra, rfl⟩; rw [hP]))
  clear LW0 hP
  obtain ⟨wv, hwv⟩ : ∃ wv : World, wv = ((more ((((W.alloc (.cells #[.slice none 0 0, .bool true, .bool g.s.stop, .bool g.s.bent, .int .i64 g.s.curve.lo, .int .i64 g.s.curve.hi, .bool g.s.curve.no, .int .i64 g.s.conic.lo, .int .i64 g.s.conic.hi, .bool g.s.conic.no, .int .i64 g.s.a4.lo, .int .i64 g.s.a4.hi, .bool g.s.a4.no, .int .i64 g.s.a6.lo, .int .i64 g.s.a6.hi, .bool g.s.a6.no, .int .i64 g.s.place.lo, .int .i64 g.s.place.hi, .bool g.s.place.no, .int .i64 g.s.open2.lo, .int .i64 g.s.open2.hi, .bool g.s.open2.no, .int .i64 g.s.ratio.lo, .int .i64 g.s.ratio.hi, .bool g.s.ratio.no, .int .i64 g.r.o.x.lo, .int .i64 g.r.o.x.hi, .bool g.r.o.x.no, .int .i64 g.r.o.y.lo, .int .i64 g.r.o.y.hi, .bool g.r.o.y.no, .int .i64 g.r.o.z.lo, .int .i64 g.r.o.z.hi, .bool g.r.o.z.no, .int .i64 g.r.d.x.lo, .int .i64 g.r.d.x.hi, .bool g.r.d.x.no, .int .i64 g.r.d.y.lo, .int .i64 g.r.d.y.hi, .bool g.r.d.y.no, .int .i64 g.r.d.z.lo, .int .i64 g.r.d.z.hi, .bool g.r.d.z.no] 84)).alloc (.cells #[.int .i64 t.lo, .int .i64 t.hi, .bool t.no] 27)).alloc (.cells #[.int .i64 0, .int .i64 0, .bool false] 27)).alloc (.cells #[.int .i64 0, .int .i64 0, .bool false] 27)) ra).alloc (.cells #[.int .i64 P.x.lo, .int .i64 P.x.hi, .bool P.x.no, .int .i64 P.y.lo, .int .i64 P.y.hi, .bool P.y.no, .int .i64 P.z.lo, .int .i64 P.z.hi, .bool P.z.no] 32)) := ⟨_, rfl⟩
  simp only [← hwv]
  have hMX : More ((more ((((W.alloc (.cells #[.slice none 0 0, .bool true, .bool g.s.stop, .bool g.s.bent, .int .i64 g.s.curve.lo, .int .i64 g.s.curve.hi, .bool g.s.curve.no, .int .i64 g.s.conic.lo, .int .i64 g.s.conic.hi, .bool g.s.conic.no, .int .i64 g.s.a4.lo, .int .i64 g.s.a4.hi, .bool g.s.a4.no, .int .i64 g.s.a6.lo, .int .i64 g.s.a6.hi, .bool g.s.a6.no, .int .i64 g.s.place.lo, .int .i64 g.s.place.hi, .bool g.s.place.no, .int .i64 g.s.open2.lo, .int .i64 g.s.open2.hi, .bool g.s.open2.no, .int .i64 g.s.ratio.lo, .int .i64 g.s.ratio.hi, .bool g.s.ratio.no, .int .i64 g.r.o.x.lo, .int .i64 g.r.o.x.hi, .bool g.r.o.x.no, .int .i64 g.r.o.y.lo, .int .i64 g.r.o.y.hi, .bool g.r.o.y.no, .int .i64 g.r.o.z.lo, .int .i64 g.r.o.z.hi, .bool g.r.o.z.no, .int .i64 g.r.d.x.lo, .int .i64 g.r.d.x.hi, .bool g.r.d.x.no, .int .i64 g.r.d.y.lo, .int .i64 g.r.d.y.hi, .bool g.r.d.y.no, .int .i64 g.r.d.z.lo, .int .i64 g.r.d.z.hi, .bool g.r.d.z.no] 84)).alloc (.cells #[.int .i64 t.lo, .int .i64 t.hi, .bool t.no] 27)).alloc (.cells #[.int .i64 0, .int .i64 0, .bool false] 27)).alloc (.cells #[.int .i64 0, .int .i64 0, .bool false] 27)) ra).alloc (.cells #[.int .i64 P.x.lo, .int .i64 P.x.hi, .bool P.x.no, .int .i64 P.y.lo, .int .i64 P.y.hi, .bool P.y.no, .int .i64 P.z.lo, .int .i64 P.z.hi, .bool P.z.no] 32)) wv := by
    rw [hwv]
    exact More.refl _
  clear hwv
  have hG0 := HG.out wv (More.trans (by repeat (first | exact More.refl _ | refine More.alloc ?_ _ | refine More.more ?_ _ | refine More.drew ?_ | refine More.drewN ?_ _)) hMX)
  have LS0 := load_gv_sf hG0
  have LSR : ∀ R, (loadWhole 43 ⟨W.heap.size, 2, none⟩).run Tryz.prog (more wv R) = .ok (sfV g.s) (more wv R) := fun R => load_gv_sf (hG0.up ((More.refl _).more R))
  have hP0 : OkPlAt wv (W.heap.size + (4 + ra.len)) P := heap_at _ hMX (by simp [Nat.add_assoc])
  obtain ⟨p0, ⟨p1, p2, p3⟩, ⟨p4, p5, p6⟩, p7, p8, p9⟩ := plat_cells hP0
  have g0 : W.heap.size < wv.heap.size := (Array.getElem?_eq_some_iff.1 hG0).1
  have HMX := Lib.hid hMX
  clear hMX hP0
  (first | (with_reducible refine wp_more_apartl_m (id := 4) 15 67 [12] [(27, #[.int .i64 0, .int .i64 0, .bool false])] ?_ ?_ ?_ ?_ ?_ ?_ ?_ ?_ ?_ ?_) | (refine wp_more_apartl (id := 4) 15 67 [12] [(27, #[.int .i64 0, .int .i64 0, .bool false])] ?_ ?_ ?_ ?_ ?_ ?_ ?_ ?_ ?_ ?_))
  · intro p hp; simp only [List.mem_cons, List.not_mem_nil, or_false] at hp; subst hp <;> first | exact new_iv
  · kernel_rfl
  · kernel_rfl
  · kernel_rfl
  · kernel_rfl
  · kernel_rfl
  · kernel_rfl
  · rfl
  · (intro _ _ _ _ _ h; exact h)
  simp only [List.take_succ_cons, List.take_zero, List.drop_succ_cons, List.drop_zero]
  (repeat (first | (refine loose_alloc 7 27 #[.int .i64 0, .int .i64 0, .bool false] new_iv rfl rfl rfl rfl (by simp) ?_) | (refine loose_alloc 8 27 #[.int .i64 0, .int .i64 0, .bool false] new_iv rfl rfl rfl rfl (by simp) ?_) | (refine loose_step rfl (fun K9 hK9 => ?_); go_simp; first | (refine hK9 _ ?_; clear hK9 K9) | (apply Exists.intro; refine ⟨fun _ => ?_, hK9 _ ?_⟩; ((first | (go_at_call 119; with_reducible exact rsag_c g.s (ivAdd (ivSqr P.x) (ivSqr P.y)) _) | (go_at_call 40; with_reducible exact radd_c _ _ _) | (go_at_call 40; with_reducible exact radd_c _ ⟨_, _, _⟩ _) | (go_at_call 40; with_reducible exact radd_c ⟨_, _, _⟩ _ _) | (go_at_call 40; with_reducible exact radd_c ⟨_, _, _⟩ ⟨_, _, _⟩ _) | (go_at_call 41; with_reducible exact rsqr_c _ _) | (go_at_call 41; with_reducible exact rsqr_c ⟨_, _, _⟩ _) | (go_at_call 119; with_reducible exact rsag_c _ _ _) | (go_at_call 119; with_reducible exact rsag_c _ ⟨_, _, _⟩ _) | (go_at_call 119; with_reducible exact rsag_c ⟨_, _, ⟨_, _, _⟩, ⟨_, _, _⟩, ⟨_, _, _⟩, ⟨_, _, _⟩, ⟨_, _, _⟩, ⟨_, _, _⟩, ⟨_, _, _⟩⟩ ⟨_, _, _⟩ _))); clear hK9 K9))))
  intro r
  simp only [allFits]
  rintro _ ⟨b2', rfl, hb2', hc2'⟩ _ ⟨b1', rfl, hb1', hc1'⟩ hfar
  have n12 := hfar 13 14 _ _ _ _ 7 8 rfl rfl rfl rfl rfl rfl (by decide)
  simp [Act.put] at n12
  refine two_end 27 3 (.tmp 7) (.tmp 37) (.tmp 8) (.tmp 38) b1' b2' _ _ (cellsI (sagZ g.s (ivAdd (ivSqr P.x) (ivSqr P.y)))) (cellsI (sagM g.s (ivAdd (ivSqr P.x) (ivSqr P.y)))) rfl rfl rfl rfl rfl rfl rfl rfl rfl rfl size_ivT rfl rfl (by decide) (one_iv _ _ _) (one_iv _ _ _) ((More.refl _).more r) hb1' hb2' hc1' rfl hc2' rfl n12 ?_
  clear hfar n12 hb1' hb2' hc1' hc2'
  intro V hMV h1V h2V
  refine wpList_nil ?_
  rw [HQ.out, HZ.out] at h1V
  rw [HQ.out, HM.out] at h2V
  have hM1 : More wv V := More.trans (by repeat (first | exact More.refl _ | refine More.alloc ?_ _ | refine More.more ?_ _ | refine More.drew ?_ | refine More.drewN ?_ _)) hMV
  have hMW : More ((((W.alloc (.cells #[.slice none 0 0, .bool true, .bool g.s.stop, .bool g.s.bent, .int .i64 g.s.curve.lo, .int .i64 g.s.curve.hi, .bool g.s.curve.no, .int .i64 g.s.conic.lo, .int .i64 g.s.conic.hi, .bool g.s.conic.no, .int .i64 g.s.a4.lo, .int .i64 g.s.a4.hi, .bool g.s.a4.no, .int .i64 g.s.a6.lo, .int .i64 g.s.a6.hi, .bool g.s.a6.no, .int .i64 g.s.place.lo, .int .i64 g.s.place.hi, .bool g.s.place.no, .int .i64 g.s.open2.lo, .int .i64 g.s.open2.hi, .bool g.s.open2.no, .int .i64 g.s.ratio.lo, .int .i64 g.s.ratio.hi, .bool g.s.ratio.no, .int .i64 g.r.o.x.lo, .int .i64 g.r.o.x.hi, .bool g.r.o.x.no, .int .i64 g.r.o.y.lo, .int .i64 g.r.o.y.hi, .bool g.r.o.y.no, .int .i64 g.r.o.z.lo, .int .i64 g.r.o.z.hi, .bool g.r.o.z.no, .int .i64 g.r.d.x.lo, .int .i64 g.r.d.x.hi, .bool g.r.d.x.no, .int .i64 g.r.d.y.lo, .int .i64 g.r.d.y.hi, .bool g.r.d.y.no, .int .i64 g.r.d.z.lo, .int .i64 g.r.d.z.hi, .bool g.r.d.z.no] 84)).alloc (.cells #[.int .i64 t.lo, .int .i64 t.hi, .bool t.no] 27)).alloc (.cells #[.int .i64 0, .int .i64 0, .bool false] 27)).alloc (.cells #[.int .i64 0, .int .i64 0, .bool false] 27)) V := More.trans (More.trans (by repeat (first | exact More.refl _ | refine More.alloc ?_ _ | refine More.more ?_ _ | refine More.drew ?_ | refine More.drewN ?_ _)) HMX.out) hM1
  have hG1 : OkGvAt V W.heap.size g := hG0.up hM1
  have hMXV := More.trans HMX.out hM1
  have m2 : More (((W.alloc (.cells #[.slice none 0 0, .bool true, .bool g.s.stop, .bool g.s.bent, .int .i64 g.s.curve.lo, .int .i64 g.s.curve.hi, .bool g.s.curve.no, .int .i64 g.s.conic.lo, .int .i64 g.s.conic.hi, .bool g.s.conic.no, .int .i64 g.s.a4.lo, .int .i64 g.s.a4.hi, .bool g.s.a4.no, .int .i64 g.s.a6.lo, .int .i64 g.s.a6.hi, .bool g.s.a6.no, .int .i64 g.s.place.lo, .int .i64 g.s.place.hi, .bool g.s.place.no, .int .i64 g.s.open2.lo, .int .i64 g.s.open2.hi, .bool g.s.open2.no, .int .i64 g.s.ratio.lo, .int .i64 g.s.ratio.hi, .bool g.s.ratio.no, .int .i64 g.r.o.x.lo, .int .i64 g.r.o.x.hi, .bool g.r.o.x.no, .int .i64 g.r.o.y.lo, .int .i64 g.r.o.y.hi, .bool g.r.o.y.no, .int .i64 g.r.o.z.lo, .int .i64 g.r.o.z.hi, .bool g.r.o.z.no, .int .i64 g.r.d.x.lo, .int .i64 g.r.d.x.hi, .bool g.r.d.x.no, .int .i64 g.r.d.y.lo, .int .i64 g.r.d.y.hi, .bool g.r.d.y.no, .int .i64 g.r.d.z.lo, .int .i64 g.r.d.z.hi, .bool g.r.d.z.no] 84)).alloc (.cells #[.int .i64 t.lo, .int .i64 t.hi, .bool t.no] 27)).alloc (.cells #[.int .i64 0, .int .i64 0, .bool false] 27)) V := More.trans (by repeat (first | exact More.refl _ | refine More.alloc ?_ _ | refine More.more ?_ _ | refine More.drew ?_ | refine More.drewN ?_ _)) hMW
  have m3 : More ((((W.alloc (.cells #[.slice none 0 0, .bool true, .bool g.s.stop, .bool g.s.bent, .int .i64 g.s.curve.lo, .int .i64 g.s.curve.hi, .bool g.s.curve.no, .int .i64 g.s.conic.lo, .int .i64 g.s.conic.hi, .bool g.s.conic.no, .int .i64 g.s.a4.lo, .int .i64 g.s.a4.hi, .bool g.s.a4.no, .int .i64 g.s.a6.lo, .int .i64 g.s.a6.hi, .bool g.s.a6.no, .int .i64 g.s.place.lo, .int .i64 g.s.place.hi, .bool g.s.place.no, .int .i64 g.s.open2.lo, .int .i64 g.s.open2.hi, .bool g.s.open2.no, .int .i64 g.s.ratio.lo, .int .i64 g.s.ratio.hi, .bool g.s.ratio.no, .int .i64 g.r.o.x.lo, .int .i64 g.r.o.x.hi, .bool g.r.o.x.no, .int .i64 g.r.o.y.lo, .int .i64 g.r.o.y.hi, .bool g.r.o.y.no, .int .i64 g.r.o.z.lo, .int .i64 g.r.o.z.hi, .bool g.r.o.z.no, .int .i64 g.r.d.x.lo, .int .i64 g.r.d.x.hi, .bool g.r.d.x.no, .int .i64 g.r.d.y.lo, .int .i64 g.r.d.y.hi, .bool g.r.d.y.no, .int .i64 g.r.d.z.lo, .int .i64 g.r.d.z.hi, .bool g.r.d.z.no] 84)).alloc (.cells #[.int .i64 t.lo, .int .i64 t.hi, .bool t.no] 27)).alloc (.cells #[.int .i64 0, .int .i64 0, .bool false] 27)).alloc (.cells #[.int .i64 0, .int .i64 0, .bool false] 27)) V := More.trans (by repeat (first | exact More.refl _ | refine More.alloc ?_ _ | refine More.more ?_ _ | refine More.drew ?_ | refine More.drewN ?_ _)) hMW
  have hP1 : OkPlAt V (W.heap.size + (4 + ra.len)) P := heap_at _ hMXV (by simp [Nat.add_assoc])
  have ht4 : V.heap[W.heap.size + 2]? = some (.cells #[.int .i64 0, .int .i64 0, .bool false] 27 (0, 0)) := heap_at _ m2 (by simp)
  have ht5 : V.heap[W.heap.size + 3]? = some (.cells #[.int .i64 0, .int .i64 0, .bool false] 27 (0, 0)) := heap_at _ m3 (by simp)
  have b0 : W.heap.size < V.heap.size := (Array.getElem?_eq_some_iff.1 hG1).1
  have b34 : V.cell? ⟨W.heap.size, 34, none⟩ = some (.int .i64 g.r.d.x.lo) := heap_cell hG1 rfl
  have b35 : V.cell? ⟨W.heap.size, 35, none⟩ = some (.int .i64 g.r.d.x.hi) := heap_cell hG1 rfl
  have b36 : V.cell? ⟨W.heap.size, 36, none⟩ = some (.bool g.r.d.x.no) := heap_cell hG1 rfl
  have b37 : V.cell? ⟨W.heap.size, 37, none⟩ = some (.int .i64 g.r.d.y.lo) := heap_cell hG1 rfl
  have b38 : V.cell? ⟨W.heap.size, 38, none⟩ = some (.int .i64 g.r.d.y.hi) := heap_cell hG1 rfl
  have b39 : V.cell? ⟨W.heap.size, 39, none⟩ = some (.bool g.r.d.y.no) := heap_cell hG1 rfl
  have b40 : V.cell? ⟨W.heap.size, 40, none⟩ = some (.int .i64 g.r.d.z.lo) := heap_cell hG1 rfl
  have b41 : V.cell? ⟨W.heap.size, 41, none⟩ = some (.int .i64 g.r.d.z.hi) := heap_cell hG1 rfl
  have b42 : V.cell? ⟨W.heap.size, 42, none⟩ = some (.bool g.r.d.z.no) := heap_cell hG1 rfl
  obtain ⟨q0', ⟨q1', q2', q3'⟩, ⟨q4', q5', q6'⟩, q7', q8', q9'⟩ := plat_cells hP1
  obtain ⟨s1, s2, s3, s4⟩ := iv_cells h1V
  obtain ⟨l1, l2, l3, l4⟩ := iv_cells h2V
  have hWV : More W V := More.trans (by repeat (first | exact More.refl _ | refine More.alloc ?_ _ | refine More.more ?_ _ | refine More.drew ?_ | refine More.drewN ?_ _)) hMW
  clear m2 m3 hMXV p0 p1 p2 p3 p4 p5 p6 p7 p8 p9 g0 LS0 LSR hG0 hG1 hP1 h1V h2V hMV hM1 hMW HG HMX HQ HZ HM
  dsimp only [cellsI] at *
  have HWV := Lib.hid hWV
  have HT4 := Lib.hid ht4
  have HT5 := Lib.hid ht5
  clear hWV ht4 ht5
  go_upto_region 6 with (first | (first | (go_at_call 39; (with_reducible refine (rmuliv_c _ _ _).mono ?_); rintro e w' ⟨rfl, r, rfl⟩) | (go_at_call 39; (with_reducible refine (rmuliv_c _ ⟨_, _, _⟩ _).mono ?_); rintro e w' ⟨rfl, r, rfl⟩) | (go_at_call 39; (with_reducible refine (rmuliv_c ⟨_, _, _⟩ _ _).mono ?_); rintro e w' ⟨rfl, r, rfl⟩) | (go_at_call 39; (with_reducible refine (rmuliv_c ⟨_, _, _⟩ ⟨_, _, _⟩ _).mono ?_); rintro e w' ⟨rfl, r, rfl⟩) | (go_at_call 40; (with_reducible refine (radd_c _ _ _).mono ?_); rintro e w' ⟨rfl, r, rfl⟩) | (go_at_call 40; (with_reducible refine (radd_c _ ⟨_, _, _⟩ _).mono ?_); rintro e w' ⟨rfl, r, rfl⟩) | (go_at_call 40; (with_reducible refine (radd_c ⟨_, _, _⟩ _ _).mono ?_); rintro e w' ⟨rfl, r, rfl⟩) | (go_at_call 40; (with_reducible refine (radd_c ⟨_, _, _⟩ ⟨_, _, _⟩ _).mono ?_); rintro e w' ⟨rfl, r, rfl⟩) | ((with_reducible show Code.wp _ (Code.region 5 _ true) _ _ _); (with_reducible apply wp_more_heap_m (id := 5) 16 15 9); kernel_rfl; kernel_rfl; rfl; decide; rfl; (intro _ _; go_simp; rfl); intro x; (try simp only [List.append_eq, List.cons_append, List.nil_append]); (simp only [List.take_succ_cons, List.take_zero, List.drop_succ_cons, List.drop_zero, skipAt, Nat.reduceAdd, Nat.reduceEqDiff, reduceIte, Nat.zero_add]); (repeat (any_goals (first | go_big_quiet_step ((first | (go_at_call 39; (with_reducible apply quiet_up); with_reducible exact rmuliv_c _ _ _) | (go_at_call 39; (with_reducible apply quiet_up); with_reducible exact rmuliv_c _ ⟨_, _, _⟩ _) | (go_at_call 39; (with_reducible apply quiet_up); with_reducible exact rmuliv_c ⟨_, _, _⟩ _ _) | (go_at_call 39; (with_reducible apply quiet_up); with_reducible exact rmuliv_c ⟨_, _, _⟩ ⟨_, _, _⟩ _) | (go_at_call 40; (with_reducible apply quiet_up); with_reducible exact radd_c _ _ _) | (go_at_call 40; (with_reducible apply quiet_up); with_reducible exact radd_c _ ⟨_, _, _⟩ _) | (go_at_call 40; (with_reducible apply quiet_up); with_reducible exact radd_c ⟨_, _, _⟩ _ _) | (go_at_call 40; (with_reducible apply quiet_up); with_reducible exact radd_c ⟨_, _, _⟩ ⟨_, _, _⟩ _))) | quiet_step ((first | (go_at_call 39; (with_reducible apply quiet_up); with_reducible exact rmuliv_c _ _ _) | (go_at_call 39; (with_reducible apply quiet_up); with_reducible exact rmuliv_c _ ⟨_, _, _⟩ _) | (go_at_call 39; (with_reducible apply quiet_up); with_reducible exact rmuliv_c ⟨_, _, _⟩ _ _) | (go_at_call 39; (with_reducible apply quiet_up); with_reducible exact rmuliv_c ⟨_, _, _⟩ ⟨_, _, _⟩ _) | (go_at_call 40; (with_reducible apply quiet_up); with_reducible exact radd_c _ _ _) | (go_at_call 40; (with_reducible apply quiet_up); with_reducible exact radd_c _ ⟨_, _, _⟩ _) | (go_at_call 40; (with_reducible apply quiet_up); with_reducible exact radd_c ⟨_, _, _⟩ _ _) | (go_at_call 40; (with_reducible apply quiet_up); with_reducible exact radd_c ⟨_, _, _⟩ ⟨_, _, _⟩ _)))))); (with_reducible refine wpQuiet_nil ?_); intro r1 r2) | ((with_reducible show Code.wp _ (Code.region 5 _ true) _ _ _); (with_reducible apply wp_more_heap (id := 5) 16 15 9); kernel_rfl; kernel_rfl; rfl; decide; rfl; (intro _ _; go_simp; rfl); intro x; (try simp only [List.append_eq, List.cons_append, List.nil_append]); (simp only [List.take_succ_cons, List.take_zero, List.drop_succ_cons, List.drop_zero, skipAt, Nat.reduceAdd, Nat.reduceEqDiff, reduceIte, Nat.zero_add]); (repeat (any_goals (first | go_big_quiet_step ((first | (go_at_call 39; (with_reducible apply quiet_up); with_reducible exact rmuliv_c _ _ _) | (go_at_call 39; (with_reducible apply quiet_up); with_reducible exact rmuliv_c _ ⟨_, _, _⟩ _) | (go_at_call 39; (with_reducible apply quiet_up); with_reducible exact rmuliv_c ⟨_, _, _⟩ _ _) | (go_at_call 39; (with_reducible apply quiet_up); with_reducible exact rmuliv_c ⟨_, _, _⟩ ⟨_, _, _⟩ _) | (go_at_call 40; (with_reducible apply quiet_up); with_reducible exact radd_c _ _ _) | (go_at_call 40; (with_reducible apply quiet_up); with_reducible exact radd_c _ ⟨_, _, _⟩ _) | (go_at_call 40; (with_reducible apply quiet_up); with_reducible exact radd_c ⟨_, _, _⟩ _ _) | (go_at_call 40; (with_reducible apply quiet_up); with_reducible exact radd_c ⟨_, _, _⟩ ⟨_, _, _⟩ _))) | quiet_step ((first | (go_at_call 39; (with_reducible apply quiet_up); with_reducible exact rmuliv_c _ _ _) | (go_at_call 39; (with_reducible apply quiet_up); with_reducible exact rmuliv_c _ ⟨_, _, _⟩ _) | (go_at_call 39; (with_reducible apply quiet_up); with_reducible exact rmuliv_c ⟨_, _, _⟩ _ _) | (go_at_call 39; (with_reducible apply quiet_up); with_reducible exact rmuliv_c ⟨_, _, _⟩ ⟨_, _, _⟩ _) | (go_at_call 40; (with_reducible apply quiet_up); with_reducible exact radd_c _ _ _) | (go_at_call 40; (with_reducible apply quiet_up); with_reducible exact radd_c _ ⟨_, _, _⟩ _) | (go_at_call 40; (with_reducible apply quiet_up); with_reducible exact radd_c ⟨_, _, _⟩ _ _) | (go_at_call 40; (with_reducible apply quiet_up); with_reducible exact radd_c ⟨_, _, _⟩ ⟨_, _, _⟩ _)))))); (with_reducible refine wpQuiet_nil ?_); intro r1 r2)))
  (first | (with_reducible refine wp_more_tailq_m (id := 6) 13 ?_ ?_ ?_) | (with_reducible refine wp_more_tailq (id := 6) 13 ?_ ?_ ?_))
  · kernel_rfl
  · kernel_rfl
  (try simp only [List.take_succ_cons, List.take_zero, List.drop_succ_cons, List.drop_zero])
  (try simp only [List.append_eq, List.cons_append, List.nil_append])
  (repeat (any_goals (first | go_big_quiet_step ((first | (go_at_call 38; (with_reducible apply quiet_call); with_reducible exact rsub_c _ _ _) | (go_at_call 38; (with_reducible apply quiet_call); with_reducible exact rsub_c _ ⟨_, _, _⟩ _) | (go_at_call 38; (with_reducible apply quiet_call); with_reducible exact rsub_c ⟨_, _, _⟩ _ _) | (go_at_call 38; (with_reducible apply quiet_call); with_reducible exact rsub_c ⟨_, _, _⟩ ⟨_, _, _⟩ _) | (go_at_call 39; (with_reducible apply quiet_call); with_reducible exact rmuliv_c _ _ _) | (go_at_call 39; (with_reducible apply quiet_call); with_reducible exact rmuliv_c _ ⟨_, _, _⟩ _) | (go_at_call 39; (with_reducible apply quiet_call); with_reducible exact rmuliv_c ⟨_, _, _⟩ _ _) | (go_at_call 39; (with_reducible apply quiet_call); with_reducible exact rmuliv_c ⟨_, _, _⟩ ⟨_, _, _⟩ _) | (go_at_call 42; (with_reducible apply quiet_call); with_reducible exact rtimes_c _ _ _) | (go_at_call 42; (with_reducible apply quiet_call); with_reducible exact rtimes_c ⟨_, _, _⟩ _ _))) | quiet_step ((first | (go_at_call 38; (with_reducible apply quiet_call); with_reducible exact rsub_c _ _ _) | (go_at_call 38; (with_reducible apply quiet_call); with_reducible exact rsub_c _ ⟨_, _, _⟩ _) | (go_at_call 38; (with_reducible apply quiet_call); with_reducible exact rsub_c ⟨_, _, _⟩ _ _) | (go_at_call 38; (with_reducible apply quiet_call); with_reducible exact rsub_c ⟨_, _, _⟩ ⟨_, _, _⟩ _) | (go_at_call 39; (with_reducible apply quiet_call); with_reducible exact rmuliv_c _ _ _) | (go_at_call 39; (with_reducible apply quiet_call); with_reducible exact rmuliv_c _ ⟨_, _, _⟩ _) | (go_at_call 39; (with_reducible apply quiet_call); with_reducible exact rmuliv_c ⟨_, _, _⟩ _ _) | (go_at_call 39; (with_reducible apply quiet_call); with_reducible exact rmuliv_c ⟨_, _, _⟩ ⟨_, _, _⟩ _) | (go_at_call 42; (with_reducible apply quiet_call); with_reducible exact rtimes_c _ _ _) | (go_at_call 42; (with_reducible apply quiet_call); with_reducible exact rtimes_c ⟨_, _, _⟩ _ _))))))
  (with_reducible refine wpQuiet_nil ?_)
  intro r
  refine two_end 27 3 (.tmp 4) (.tmp 57) (.tmp 5) (.tmp 66) (W.heap.size + 2) (W.heap.size + 3) _ _ (cellsI (ivSub P.z ⟨z1, z2, z3⟩)) (cellsI (ivSub g.r.d.z (ivMul ⟨m1, m2, m3⟩ (ivTimes ⟨a1, a2, a3⟩ 2)))) rfl rfl rfl rfl rfl rfl rfl rfl rfl rfl size_ivT rfl rfl (by decide) (one_iv _ _ _) (one_iv _ _ _) (More.trans HWV.out (by repeat (first | exact More.refl _ | refine More.alloc ?_ _ | refine More.more ?_ _ | refine More.drew ?_ | refine More.drewN ?_ _))) (by omega) (by omega) (heap_up (by repeat (first | exact More.refl _ | refine More.alloc ?_ _ | refine More.more ?_ _ | refine More.drew ?_ | refine More.drewN ?_ _)) HT4.out) rfl (heap_up (by repeat (first | exact More.refl _ | refine More.alloc ?_ _ | refine More.more ?_ _ | refine More.drew ?_ | refine More.drewN ?_ _)) HT5.out) rfl (by omega) ?_
  intro wx hM h1 h2
  refine wpList_nil ?_
  go_wp2_with fail
  exact bodyPost_ret (results_two Tryz.results90 rfl (load_iv_obj h1) rfl (load_iv_obj h2)) rfl ⟨rfl, hM⟩
end Go.Proofs.YtggohceeeggnmaaGreat
