/-
  How much a glass bends light: the contracts of Line, Index.
  What is built of a lens; worlds that differ beneath a row; an append that keeps what is younger.
-/
import Derived.Test.YtekhhekkepijoaaGreatDoorGlass
import Derived.Test.YtekhhekkepijoaaGreatDoorGg
import Derived.Test.YtekhhekkepijoaaGreatDoorGa
import Derived.Test.YtekhhekkepijoaaGreatDoorIvDiv
import Derived.Test.YtekhhekkepijoaaGreatDoorSurf
import Derived.Test.YtekhhekkepijoaaGreatDoorGf
import Derived.Test.YtekhhekkepijoaaGreatDoorGlassRdW

namespace Go.Proofs.YtekhhekkepijoaaGreatDoor
set_option linter.unusedVariables false
open Go.ChangeShapes Go.WideShapes Go.ChangeAt Go.RowKit

theorem new_iv : NewRun Tryz.prog 36 #[.int .i64 0, .int .i64 0, .bool false] := fun w => by go_simp
theorem size_ivT (w : World) : (sizeOf 36).run Tryz.prog w = .ok 3 w := by kernel_rfl
theorem one_iv (a b : Int) (c : Bool) : ∀ v ∈ [Value.int .i64 a, .int .i64 b, .bool c], v.oneCell' = true := by simp [Value.oneCell']

set_option maxHeartbeats 4000000 in
theorem line_c (k : Int) (W : World) :
    Calls Tryz.prog 9 #[.int .i64 k] W fun e w' => e = .returned (ivV (lineP k)) ∧ More W w' := by
  unfold lineP
  by_cases h0 : k = 0
  · subst h0
    rw [if_pos rfl]
    go_enter Tryz.func9, Tryz.ntmps9
    go_wp2_with (first | (go_at_call 10; (with_reducible refine (none_c _).mono ?_); rintro e w' ⟨rfl, r, rfl⟩) | (go_at_call 26; (with_reducible refine (decIv_c _ _).mono ?_); rintro e w' ⟨rfl, r, rfl⟩) | (go_at_call 26; (with_reducible refine (decIv_c ⟨_, _⟩ _).mono ?_); rintro e w' ⟨rfl, r, rfl⟩))
    go_returns
    exact ⟨rfl, (by repeat (first | exact More.refl _ | refine More.alloc ?_ _ | refine More.more ?_ _ | refine More.drew ?_ | refine More.drewN ?_ _))⟩
  by_cases h1 : k = 1
  · subst h1
    rw [if_neg h0, if_pos rfl]
    go_enter Tryz.func9, Tryz.ntmps9
    go_wp2_with (first | (go_at_call 10; (with_reducible refine (none_c _).mono ?_); rintro e w' ⟨rfl, r, rfl⟩) | (go_at_call 26; (with_reducible refine (decIv_c _ _).mono ?_); rintro e w' ⟨rfl, r, rfl⟩) | (go_at_call 26; (with_reducible refine (decIv_c ⟨_, _⟩ _).mono ?_); rintro e w' ⟨rfl, r, rfl⟩))
    go_returns
    exact ⟨rfl, (by repeat (first | exact More.refl _ | refine More.alloc ?_ _ | refine More.more ?_ _ | refine More.drew ?_ | refine More.drewN ?_ _))⟩
  by_cases h2 : k = 2
  · subst h2
    rw [if_neg h0, if_neg h1, if_pos rfl]
    go_enter Tryz.func9, Tryz.ntmps9
    go_wp2_with (first | (go_at_call 10; (with_reducible refine (none_c _).mono ?_); rintro e w' ⟨rfl, r, rfl⟩) | (go_at_call 26; (with_reducible refine (decIv_c _ _).mono ?_); rintro e w' ⟨rfl, r, rfl⟩) | (go_at_call 26; (with_reducible refine (decIv_c ⟨_, _⟩ _).mono ?_); rintro e w' ⟨rfl, r, rfl⟩))
    go_returns
    exact ⟨rfl, (by repeat (first | exact More.refl _ | refine More.alloc ?_ _ | refine More.more ?_ _ | refine More.drew ?_ | refine More.drewN ?_ _))⟩
  · rw [if_neg h0, if_neg h1, if_neg h2]
    have g0 : (k == 0) = false := by simpa using h0
    have g1 : (k == 1) = false := by simpa using h1
    have g2 : (k == 2) = false := by simpa using h2
    go_enter Tryz.func9, Tryz.ntmps9
    go_wp2_with (first | (go_at_call 10; (with_reducible refine (none_c _).mono ?_); rintro e w' ⟨rfl, r, rfl⟩) | (go_at_call 26; (with_reducible refine (decIv_c _ _).mono ?_); rintro e w' ⟨rfl, r, rfl⟩) | (go_at_call 26; (with_reducible refine (decIv_c ⟨_, _⟩ _).mono ?_); rintro e w' ⟨rfl, r, rfl⟩))
    go_returns
    exact ⟨rfl, (by repeat (first | exact More.refl _ | refine More.alloc ?_ _ | refine More.more ?_ _ | refine More.drew ?_ | refine More.drewN ?_ _))⟩

/-- The sum of the first k of its three parts, and 1. -/
def sumK (l : Iv) (g : Gl) : Nat → Iv
  | 0 => ivPoint 65536
  | 1 => ivAdd (ivPoint 65536) (glSum l (decIv g.b0) (decIv g.c0))
  | 2 => ivAdd (ivAdd (ivPoint 65536) (glSum l (decIv g.b0) (decIv g.c0))) (glSum l (decIv g.b1) (decIv g.c1))
  | _ => ivAdd (ivAdd (ivAdd (ivPoint 65536) (glSum l (decIv g.b0) (decIv g.c0))) (glSum l (decIv g.b1) (decIv g.c1))) (glSum l (decIv g.b2) (decIv g.c2))
theorem frozen_of {w : World} {b : Nat} {c : Array Value} {T : TypeId} (h : w.heap[b]? = some (.cells c T (0, 0))) (j : Nat) : w.frozen? ⟨b, j, none⟩ = false := by
  simp [World.frozen?, h]
abbrev cellsI (x : Iv) : List Value := [.int .i64 x.lo, .int .i64 x.hi, .bool x.no]
abbrev zeroI : Array Value := #[.int .i64 0, .int .i64 0, .bool false]
theorem three_cells {w : World} {b : Nat} {x0 x1 x2 u0 u1 u2 : Value} (hb : b < w.heap.size) (e0 : w.cell? ⟨b, 0, none⟩ = some u0) (e1 : w.cell? ⟨b, 1, none⟩ = some u1) (e2 : w.cell? ⟨b, 2, none⟩ = some u2) (r : Rest) :
    (Go.Proofs.YtekhhekkepijoaaGreatDoor.more (((w.setCell ⟨b, 0, none⟩ x0).setCell ⟨b, 1, none⟩ x1).setCell ⟨b, 2, none⟩ x2) r).cell? ⟨b, 0, none⟩ = some x0 ∧ (Go.Proofs.YtekhhekkepijoaaGreatDoor.more (((w.setCell ⟨b, 0, none⟩ x0).setCell ⟨b, 1, none⟩ x1).setCell ⟨b, 2, none⟩ x2) r).cell? ⟨b, 1, none⟩ = some x1 ∧ (Go.Proofs.YtekhhekkepijoaaGreatDoor.more (((w.setCell ⟨b, 0, none⟩ x0).setCell ⟨b, 1, none⟩ x1).setCell ⟨b, 2, none⟩ x2) r).cell? ⟨b, 2, none⟩ = some x2 := by
  have hs : b < (((w.setCell ⟨b, 0, none⟩ x0).setCell ⟨b, 1, none⟩ x1).setCell ⟨b, 2, none⟩ x2).heap.size := by simpa using hb
  rw [cell_more _ _ _ _ hs, cell_more _ _ _ _ hs, cell_more _ _ _ _ hs]
  have o : ∀ (w : World) (i j : Nat) (v : Value), i ≠ j → (w.setCell ⟨b, j, none⟩ v).cell? ⟨b, i, none⟩ = w.cell? ⟨b, i, none⟩ := fun w i j v h => World.cell?_setCell_other _ _ _ _ (fun e => by injection e with _ e; exact h e.symm)
  refine ⟨?_, ?_, ?_⟩
  · rw [o _ _ _ _ (by decide), o _ _ _ _ (by decide), World.cell?_setCell_same' _ _ _ (by rw [e0]; rfl)]
  · rw [o _ _ _ _ (by decide), World.cell?_setCell_same' _ _ _ (by rw [o _ _ _ _ (by decide), e1]; rfl)]
  · rw [World.cell?_setCell_same' _ _ _ (by rw [o _ _ _ _ (by decide), o _ _ _ _ (by decide), e2]; rfl)]
/-- What lies where, while the sum is made. -/
structure IxW (W wr : World) (g : Gl) (l S : Iv) (bs bl : Nat) : Prop where
  more : More W wr
  gl : wr.heap[W.heap.size]? = some (.cells (cellsG g).toArray 46 (0, 0))
  res : wr.heap[W.heap.size + 2]? = some (.cells zeroI 36 (0, 0))
  sum : wr.heap[bs]? = some (.cells (cellsI S).toArray 36 (0, 0))
  lam : wr.heap[bl]? = some (.cells (cellsI l).toArray 36 (0, 0))
  ord : W.heap.size + 2 < bs ∧ W.heap.size + 2 < bl ∧ bs ≠ bl
section
variable {W wr wr' : World} {g : Gl} {l S : Iv} {bs bl : Nat}
theorem IxW.up (h : IxW W wr g l S bs bl) (hm : More wr wr') : IxW W wr' g l S bs bl := by
  obtain ⟨r, rfl⟩ := hm
  have k : ∀ {b : Nat} {o : Obj}, wr.heap[b]? = some o → (Go.Proofs.YtekhhekkepijoaaGreatDoor.more wr r).heap[b]? = some o := fun hb => (heap_more wr r _ (Array.getElem?_eq_some_iff.1 hb).1).trans hb
  exact ⟨h.more.trans ⟨r, rfl⟩, k h.gl, k h.res, k h.sum, k h.lam, h.ord⟩
theorem IxW.next (h : IxW W wr g l S bs bl) (S' : Iv) : IxW W (wr.setRow bs (cellsI S').toArray) g l S' bs bl := by
  obtain ⟨o1, o2, o3⟩ := h.ord
  have k : ∀ {b : Nat} {o : Obj}, b ≠ bs → wr.heap[b]? = some o → (wr.setRow bs (cellsI S').toArray).heap[b]? = some o := fun hb hx => (setRow_other _ _ _ _ (by omega)).trans hx
  exact ⟨more_setRow h.more (by omega), k (by omega) h.gl, k (by omega) h.res, heap_setRow h.sum, k (Ne.symm o3) h.lam, h.ord⟩
theorem IxW.lt (h : IxW W wr g l S bs bl) : W.heap.size < wr.heap.size ∧ W.heap.size + 2 < wr.heap.size ∧ bs < wr.heap.size ∧ bl < wr.heap.size :=
  ⟨(Array.getElem?_eq_some_iff.1 h.gl).1, (Array.getElem?_eq_some_iff.1 h.res).1, (Array.getElem?_eq_some_iff.1 h.sum).1, (Array.getElem?_eq_some_iff.1 h.lam).1⟩
theorem ix_start (V : Obj) (r1 r2 : Rest) : IxW W ((Go.Proofs.YtekhhekkepijoaaGreatDoor.more ((Go.Proofs.YtekhhekkepijoaaGreatDoor.more (((W.alloc (.cells (cellsG g).toArray 46)).alloc V).alloc (.cells zeroI 36)) r1).alloc (.cells (cellsI S).toArray 36)) r2).alloc (.cells (cellsI l).toArray 36)) g l S (W.heap.size + (3 + r1.len)) (W.heap.size + (3 + (r1.len + (1 + r2.len)))) := by
  have s1 : ∀ (w : World) (o : Obj), (w.alloc o).heap.size = w.heap.size + 1 := fun w o => by simp
  have e1 : W.heap.size + (3 + r1.len) = (Go.Proofs.YtekhhekkepijoaaGreatDoor.more (((W.alloc (.cells (cellsG g).toArray 46)).alloc V).alloc (.cells zeroI 36)) r1).heap.size := by rw [size_more, s1, s1, s1]; omega
  have e2 : W.heap.size + (3 + (r1.len + (1 + r2.len))) = (Go.Proofs.YtekhhekkepijoaaGreatDoor.more ((Go.Proofs.YtekhhekkepijoaaGreatDoor.more (((W.alloc (.cells (cellsG g).toArray 46)).alloc V).alloc (.cells zeroI 36)) r1).alloc (.cells (cellsI S).toArray 36)) r2).heap.size := by rw [size_more, s1, size_more, s1, s1, s1]; omega
  refine ⟨(((((((More.refl W).alloc _).alloc _).alloc _).more _).alloc _).more _).alloc _, ?_, ?_, ?_, ?_, by omega, by omega, by omega⟩
  · rw [Below.heap_alloc _ _ _ (by rw [← e2]; omega), heap_more _ _ _ (by rw [s1, ← e1]; omega), Below.heap_alloc _ _ _ (by rw [← e1]; omega), heap_more _ _ _ (by rw [s1, s1, s1]; omega), Below.heap_alloc _ _ _ (by rw [s1, s1]; omega), Below.heap_alloc _ _ _ (by rw [s1]; omega)]
    exact heap_alloc_new _ _
  · rw [Below.heap_alloc _ _ _ (by rw [← e2]; omega), heap_more _ _ _ (by rw [s1, ← e1]; omega), Below.heap_alloc _ _ _ (by rw [← e1]; omega), heap_more _ _ _ (by rw [s1, s1, s1]; omega)]
    have : W.heap.size + 2 = ((W.alloc (.cells (cellsG g).toArray 46)).alloc V).heap.size := by rw [s1, s1]
    rw [this]
    exact heap_alloc_new _ _
  · rw [Below.heap_alloc _ _ _ (by rw [← e2]; omega), heap_more _ _ _ (by rw [s1, ← e1]; omega), e1]
    exact heap_alloc_new _ _
  · rw [e2]
    exact heap_alloc_new _ _
end

set_option maxRecDepth 100000 in
set_option maxHeartbeats 8000000 in
theorem index_c (g : Gl) (w : Iv) (W : World) :
    Calls Tryz.prog 11 #[glV g, ivV w] W fun e w' => e = .returned (ivV (ixG g w)) ∧ More W w' := by
  unfold ixG
  by_cases ha : g.name = airT
  · rw [if_pos ha]
    have hq : (g.name == [97, 105, 114]) = true := by rw [ha]; rfl
    go_enter Tryz.func11, Tryz.ntmps11
    go_wp2_with (first | (go_at_call 12; (with_reducible refine (idiv_c _ _ _).mono ?_); rintro e w' ⟨rfl, r, rfl⟩) | (go_at_call 12; (with_reducible refine (idiv_c _ ⟨_, _, _⟩ _).mono ?_); rintro e w' ⟨rfl, r, rfl⟩) | (go_at_call 12; (with_reducible refine (idiv_c ⟨_, _, _⟩ _ _).mono ?_); rintro e w' ⟨rfl, r, rfl⟩) | (go_at_call 12; (with_reducible refine (idiv_c ⟨_, _, _⟩ ⟨_, _, _⟩ _).mono ?_); rintro e w' ⟨rfl, r, rfl⟩) | (go_at_call 23; (with_reducible refine (point_c _ _).mono ?_); rintro e w' ⟨rfl, r, rfl⟩) | (go_at_call 26; (with_reducible refine (decIv_c _ _).mono ?_); rintro e w' ⟨rfl, r, rfl⟩) | (go_at_call 26; (with_reducible refine (decIv_c ⟨_, _⟩ _).mono ?_); rintro e w' ⟨rfl, r, rfl⟩) | (go_at_call 29; (with_reducible refine (add_c _ _ _).mono ?_); rintro e w' ⟨rfl, r, rfl⟩) | (go_at_call 29; (with_reducible refine (add_c _ ⟨_, _, _⟩ _).mono ?_); rintro e w' ⟨rfl, r, rfl⟩) | (go_at_call 29; (with_reducible refine (add_c ⟨_, _, _⟩ _ _).mono ?_); rintro e w' ⟨rfl, r, rfl⟩) | (go_at_call 29; (with_reducible refine (add_c ⟨_, _, _⟩ ⟨_, _, _⟩ _).mono ?_); rintro e w' ⟨rfl, r, rfl⟩) | (go_at_call 31; (with_reducible refine (sqr_c _ _).mono ?_); rintro e w' ⟨rfl, r, rfl⟩) | (go_at_call 31; (with_reducible refine (sqr_c ⟨_, _, _⟩ _).mono ?_); rintro e w' ⟨rfl, r, rfl⟩) | (go_at_call 32; (with_reducible refine (mul_iv_c _ _ _).mono ?_); rintro e w' ⟨rfl, r, rfl⟩) | (go_at_call 32; (with_reducible refine (mul_iv_c _ ⟨_, _, _⟩ _).mono ?_); rintro e w' ⟨rfl, r, rfl⟩) | (go_at_call 32; (with_reducible refine (mul_iv_c ⟨_, _, _⟩ _ _).mono ?_); rintro e w' ⟨rfl, r, rfl⟩) | (go_at_call 32; (with_reducible refine (mul_iv_c ⟨_, _, _⟩ ⟨_, _, _⟩ _).mono ?_); rintro e w' ⟨rfl, r, rfl⟩) | (go_at_call 33; (with_reducible refine (sub_c _ _ _).mono ?_); rintro e w' ⟨rfl, r, rfl⟩) | (go_at_call 33; (with_reducible refine (sub_c _ ⟨_, _, _⟩ _).mono ?_); rintro e w' ⟨rfl, r, rfl⟩) | (go_at_call 33; (with_reducible refine (sub_c ⟨_, _, _⟩ _ _).mono ?_); rintro e w' ⟨rfl, r, rfl⟩) | (go_at_call 33; (with_reducible refine (sub_c ⟨_, _, _⟩ ⟨_, _, _⟩ _).mono ?_); rintro e w' ⟨rfl, r, rfl⟩) | (go_at_call 34; (with_reducible refine (iroot_c _ _).mono ?_); rintro e w' ⟨rfl, r, rfl⟩) | (go_at_call 34; (with_reducible refine (iroot_c ⟨_, _, _⟩ _).mono ?_); rintro e w' ⟨rfl, r, rfl⟩) | ((with_reducible show Code.wp _ (Code.region 8 _ true) _ _ _); (with_reducible refine wp_more_tailq_m (id := 8) 16 ?_ ?_ ?_); kernel_rfl; kernel_rfl; (try simp only [List.take_succ_cons, List.take_zero, List.drop_succ_cons, List.drop_zero]); (repeat (any_goals (first | go_big_quiet_step ((first | (go_at_call 26; (with_reducible apply quiet_call); with_reducible exact decIv_c _ _) | (go_at_call 26; (with_reducible apply quiet_call); with_reducible exact decIv_c ⟨_, _⟩ _) | (go_at_call 32; (with_reducible apply quiet_call); with_reducible exact mul_iv_c _ _ _) | (go_at_call 32; (with_reducible apply quiet_call); with_reducible exact mul_iv_c _ ⟨_, _, _⟩ _) | (go_at_call 32; (with_reducible apply quiet_call); with_reducible exact mul_iv_c ⟨_, _, _⟩ _ _) | (go_at_call 32; (with_reducible apply quiet_call); with_reducible exact mul_iv_c ⟨_, _, _⟩ ⟨_, _, _⟩ _) | (go_at_call 33; (with_reducible apply quiet_call); with_reducible exact sub_c _ _ _) | (go_at_call 33; (with_reducible apply quiet_call); with_reducible exact sub_c _ ⟨_, _, _⟩ _) | (go_at_call 33; (with_reducible apply quiet_call); with_reducible exact sub_c ⟨_, _, _⟩ _ _) | (go_at_call 33; (with_reducible apply quiet_call); with_reducible exact sub_c ⟨_, _, _⟩ ⟨_, _, _⟩ _))) | quiet_step ((first | (go_at_call 26; (with_reducible apply quiet_call); with_reducible exact decIv_c _ _) | (go_at_call 26; (with_reducible apply quiet_call); with_reducible exact decIv_c ⟨_, _⟩ _) | (go_at_call 32; (with_reducible apply quiet_call); with_reducible exact mul_iv_c _ _ _) | (go_at_call 32; (with_reducible apply quiet_call); with_reducible exact mul_iv_c _ ⟨_, _, _⟩ _) | (go_at_call 32; (with_reducible apply quiet_call); with_reducible exact mul_iv_c ⟨_, _, _⟩ _ _) | (go_at_call 32; (with_reducible apply quiet_call); with_reducible exact mul_iv_c ⟨_, _, _⟩ ⟨_, _, _⟩ _) | (go_at_call 33; (with_reducible apply quiet_call); with_reducible exact sub_c _ _ _) | (go_at_call 33; (with_reducible apply quiet_call); with_reducible exact sub_c _ ⟨_, _, _⟩ _) | (go_at_call 33; (with_reducible apply quiet_call); with_reducible exact sub_c ⟨_, _, _⟩ _ _) | (go_at_call 33; (with_reducible apply quiet_call); with_reducible exact sub_c ⟨_, _, _⟩ ⟨_, _, _⟩ _)))))); (with_reducible refine wpQuiet_nil ?_); intro r) | ((with_reducible show Code.wp _ (Code.region 8 _ true) _ _ _); (with_reducible refine wp_more_tailq (id := 8) 16 ?_ ?_ ?_); kernel_rfl; kernel_rfl; (try simp only [List.take_succ_cons, List.take_zero, List.drop_succ_cons, List.drop_zero]); (repeat (any_goals (first | go_big_quiet_step ((first | (go_at_call 26; (with_reducible apply quiet_call); with_reducible exact decIv_c _ _) | (go_at_call 26; (with_reducible apply quiet_call); with_reducible exact decIv_c ⟨_, _⟩ _) | (go_at_call 32; (with_reducible apply quiet_call); with_reducible exact mul_iv_c _ _ _) | (go_at_call 32; (with_reducible apply quiet_call); with_reducible exact mul_iv_c _ ⟨_, _, _⟩ _) | (go_at_call 32; (with_reducible apply quiet_call); with_reducible exact mul_iv_c ⟨_, _, _⟩ _ _) | (go_at_call 32; (with_reducible apply quiet_call); with_reducible exact mul_iv_c ⟨_, _, _⟩ ⟨_, _, _⟩ _) | (go_at_call 33; (with_reducible apply quiet_call); with_reducible exact sub_c _ _ _) | (go_at_call 33; (with_reducible apply quiet_call); with_reducible exact sub_c _ ⟨_, _, _⟩ _) | (go_at_call 33; (with_reducible apply quiet_call); with_reducible exact sub_c ⟨_, _, _⟩ _ _) | (go_at_call 33; (with_reducible apply quiet_call); with_reducible exact sub_c ⟨_, _, _⟩ ⟨_, _, _⟩ _))) | quiet_step ((first | (go_at_call 26; (with_reducible apply quiet_call); with_reducible exact decIv_c _ _) | (go_at_call 26; (with_reducible apply quiet_call); with_reducible exact decIv_c ⟨_, _⟩ _) | (go_at_call 32; (with_reducible apply quiet_call); with_reducible exact mul_iv_c _ _ _) | (go_at_call 32; (with_reducible apply quiet_call); with_reducible exact mul_iv_c _ ⟨_, _, _⟩ _) | (go_at_call 32; (with_reducible apply quiet_call); with_reducible exact mul_iv_c ⟨_, _, _⟩ _ _) | (go_at_call 32; (with_reducible apply quiet_call); with_reducible exact mul_iv_c ⟨_, _, _⟩ ⟨_, _, _⟩ _) | (go_at_call 33; (with_reducible apply quiet_call); with_reducible exact sub_c _ _ _) | (go_at_call 33; (with_reducible apply quiet_call); with_reducible exact sub_c _ ⟨_, _, _⟩ _) | (go_at_call 33; (with_reducible apply quiet_call); with_reducible exact sub_c ⟨_, _, _⟩ _ _) | (go_at_call 33; (with_reducible apply quiet_call); with_reducible exact sub_c ⟨_, _, _⟩ ⟨_, _, _⟩ _)))))); (with_reducible refine wpQuiet_nil ?_); intro r) | ((with_reducible show Code.wp _ (Code.region 9 _ true) _ _ _); (with_reducible refine wp_more_tailq_m (id := 9) 5 ?_ ?_ ?_); kernel_rfl; kernel_rfl; (try simp only [List.take_succ_cons, List.take_zero, List.drop_succ_cons, List.drop_zero]); (repeat (any_goals (first | go_big_quiet_step ((first | (go_at_call 12; (with_reducible apply quiet_call); with_reducible exact idiv_c _ _ _) | (go_at_call 12; (with_reducible apply quiet_call); with_reducible exact idiv_c _ ⟨_, _, _⟩ _) | (go_at_call 12; (with_reducible apply quiet_call); with_reducible exact idiv_c ⟨_, _, _⟩ _ _) | (go_at_call 12; (with_reducible apply quiet_call); with_reducible exact idiv_c ⟨_, _, _⟩ ⟨_, _, _⟩ _) | (go_at_call 29; (with_reducible apply quiet_call); with_reducible exact add_c _ _ _) | (go_at_call 29; (with_reducible apply quiet_call); with_reducible exact add_c _ ⟨_, _, _⟩ _) | (go_at_call 29; (with_reducible apply quiet_call); with_reducible exact add_c ⟨_, _, _⟩ _ _) | (go_at_call 29; (with_reducible apply quiet_call); with_reducible exact add_c ⟨_, _, _⟩ ⟨_, _, _⟩ _))) | quiet_step ((first | (go_at_call 12; (with_reducible apply quiet_call); with_reducible exact idiv_c _ _ _) | (go_at_call 12; (with_reducible apply quiet_call); with_reducible exact idiv_c _ ⟨_, _, _⟩ _) | (go_at_call 12; (with_reducible apply quiet_call); with_reducible exact idiv_c ⟨_, _, _⟩ _ _) | (go_at_call 12; (with_reducible apply quiet_call); with_reducible exact idiv_c ⟨_, _, _⟩ ⟨_, _, _⟩ _) | (go_at_call 29; (with_reducible apply quiet_call); with_reducible exact add_c _ _ _) | (go_at_call 29; (with_reducible apply quiet_call); with_reducible exact add_c _ ⟨_, _, _⟩ _) | (go_at_call 29; (with_reducible apply quiet_call); with_reducible exact add_c ⟨_, _, _⟩ _ _) | (go_at_call 29; (with_reducible apply quiet_call); with_reducible exact add_c ⟨_, _, _⟩ ⟨_, _, _⟩ _)))))); (with_reducible refine wpQuiet_nil ?_); intro r) | ((with_reducible show Code.wp _ (Code.region 9 _ true) _ _ _); (with_reducible refine wp_more_tailq (id := 9) 5 ?_ ?_ ?_); kernel_rfl; kernel_rfl; (try simp only [List.take_succ_cons, List.take_zero, List.drop_succ_cons, List.drop_zero]); (repeat (any_goals (first | go_big_quiet_step ((first | (go_at_call 12; (with_reducible apply quiet_call); with_reducible exact idiv_c _ _ _) | (go_at_call 12; (with_reducible apply quiet_call); with_reducible exact idiv_c _ ⟨_, _, _⟩ _) | (go_at_call 12; (with_reducible apply quiet_call); with_reducible exact idiv_c ⟨_, _, _⟩ _ _) | (go_at_call 12; (with_reducible apply quiet_call); with_reducible exact idiv_c ⟨_, _, _⟩ ⟨_, _, _⟩ _) | (go_at_call 29; (with_reducible apply quiet_call); with_reducible exact add_c _ _ _) | (go_at_call 29; (with_reducible apply quiet_call); with_reducible exact add_c _ ⟨_, _, _⟩ _) | (go_at_call 29; (with_reducible apply quiet_call); with_reducible exact add_c ⟨_, _, _⟩ _ _) | (go_at_call 29; (with_reducible apply quiet_call); with_reducible exact add_c ⟨_, _, _⟩ ⟨_, _, _⟩ _))) | quiet_step ((first | (go_at_call 12; (with_reducible apply quiet_call); with_reducible exact idiv_c _ _ _) | (go_at_call 12; (with_reducible apply quiet_call); with_reducible exact idiv_c _ ⟨_, _, _⟩ _) | (go_at_call 12; (with_reducible apply quiet_call); with_reducible exact idiv_c ⟨_, _, _⟩ _ _) | (go_at_call 12; (with_reducible apply quiet_call); with_reducible exact idiv_c ⟨_, _, _⟩ ⟨_, _, _⟩ _) | (go_at_call 29; (with_reducible apply quiet_call); with_reducible exact add_c _ _ _) | (go_at_call 29; (with_reducible apply quiet_call); with_reducible exact add_c _ ⟨_, _, _⟩ _) | (go_at_call 29; (with_reducible apply quiet_call); with_reducible exact add_c ⟨_, _, _⟩ _ _) | (go_at_call 29; (with_reducible apply quiet_call); with_reducible exact add_c ⟨_, _, _⟩ ⟨_, _, _⟩ _)))))); (with_reducible refine wpQuiet_nil ?_); intro r))
    go_returns
    exact ⟨rfl, (by repeat (first | exact More.refl _ | refine More.alloc ?_ _ | refine More.more ?_ _ | refine More.drew ?_ | refine More.drewN ?_ _))⟩
  · rw [if_neg ha]
    have hq : (g.name == [97, 105, 114]) = false := by simpa [airT] using ha
    go_enter Tryz.func11, Tryz.ntmps11
    go_wp2_with (first | (go_at_call 12; (with_reducible refine (idiv_c _ _ _).mono ?_); rintro e w' ⟨rfl, r, rfl⟩) | (go_at_call 12; (with_reducible refine (idiv_c _ ⟨_, _, _⟩ _).mono ?_); rintro e w' ⟨rfl, r, rfl⟩) | (go_at_call 12; (with_reducible refine (idiv_c ⟨_, _, _⟩ _ _).mono ?_); rintro e w' ⟨rfl, r, rfl⟩) | (go_at_call 12; (with_reducible refine (idiv_c ⟨_, _, _⟩ ⟨_, _, _⟩ _).mono ?_); rintro e w' ⟨rfl, r, rfl⟩) | (go_at_call 23; (with_reducible refine (point_c _ _).mono ?_); rintro e w' ⟨rfl, r, rfl⟩) | (go_at_call 26; (with_reducible refine (decIv_c _ _).mono ?_); rintro e w' ⟨rfl, r, rfl⟩) | (go_at_call 26; (with_reducible refine (decIv_c ⟨_, _⟩ _).mono ?_); rintro e w' ⟨rfl, r, rfl⟩) | (go_at_call 29; (with_reducible refine (add_c _ _ _).mono ?_); rintro e w' ⟨rfl, r, rfl⟩) | (go_at_call 29; (with_reducible refine (add_c _ ⟨_, _, _⟩ _).mono ?_); rintro e w' ⟨rfl, r, rfl⟩) | (go_at_call 29; (with_reducible refine (add_c ⟨_, _, _⟩ _ _).mono ?_); rintro e w' ⟨rfl, r, rfl⟩) | (go_at_call 29; (with_reducible refine (add_c ⟨_, _, _⟩ ⟨_, _, _⟩ _).mono ?_); rintro e w' ⟨rfl, r, rfl⟩) | (go_at_call 31; (with_reducible refine (sqr_c _ _).mono ?_); rintro e w' ⟨rfl, r, rfl⟩) | (go_at_call 31; (with_reducible refine (sqr_c ⟨_, _, _⟩ _).mono ?_); rintro e w' ⟨rfl, r, rfl⟩) | (go_at_call 32; (with_reducible refine (mul_iv_c _ _ _).mono ?_); rintro e w' ⟨rfl, r, rfl⟩) | (go_at_call 32; (with_reducible refine (mul_iv_c _ ⟨_, _, _⟩ _).mono ?_); rintro e w' ⟨rfl, r, rfl⟩) | (go_at_call 32; (with_reducible refine (mul_iv_c ⟨_, _, _⟩ _ _).mono ?_); rintro e w' ⟨rfl, r, rfl⟩) | (go_at_call 32; (with_reducible refine (mul_iv_c ⟨_, _, _⟩ ⟨_, _, _⟩ _).mono ?_); rintro e w' ⟨rfl, r, rfl⟩) | (go_at_call 33; (with_reducible refine (sub_c _ _ _).mono ?_); rintro e w' ⟨rfl, r, rfl⟩) | (go_at_call 33; (with_reducible refine (sub_c _ ⟨_, _, _⟩ _).mono ?_); rintro e w' ⟨rfl, r, rfl⟩) | (go_at_call 33; (with_reducible refine (sub_c ⟨_, _, _⟩ _ _).mono ?_); rintro e w' ⟨rfl, r, rfl⟩) | (go_at_call 33; (with_reducible refine (sub_c ⟨_, _, _⟩ ⟨_, _, _⟩ _).mono ?_); rintro e w' ⟨rfl, r, rfl⟩) | (go_at_call 34; (with_reducible refine (iroot_c _ _).mono ?_); rintro e w' ⟨rfl, r, rfl⟩) | (go_at_call 34; (with_reducible refine (iroot_c ⟨_, _, _⟩ _).mono ?_); rintro e w' ⟨rfl, r, rfl⟩) | ((with_reducible show Code.wp _ (Code.region 8 _ true) _ _ _); (with_reducible refine wp_more_tailq_m (id := 8) 16 ?_ ?_ ?_); kernel_rfl; kernel_rfl; (try simp only [List.take_succ_cons, List.take_zero, List.drop_succ_cons, List.drop_zero]); (repeat (any_goals (first | go_big_quiet_step ((first | (go_at_call 26; (with_reducible apply quiet_call); with_reducible exact decIv_c _ _) | (go_at_call 26; (with_reducible apply quiet_call); with_reducible exact decIv_c ⟨_, _⟩ _) | (go_at_call 32; (with_reducible apply quiet_call); with_reducible exact mul_iv_c _ _ _) | (go_at_call 32; (with_reducible apply quiet_call); with_reducible exact mul_iv_c _ ⟨_, _, _⟩ _) | (go_at_call 32; (with_reducible apply quiet_call); with_reducible exact mul_iv_c ⟨_, _, _⟩ _ _) | (go_at_call 32; (with_reducible apply quiet_call); with_reducible exact mul_iv_c ⟨_, _, _⟩ ⟨_, _, _⟩ _) | (go_at_call 33; (with_reducible apply quiet_call); with_reducible exact sub_c _ _ _) | (go_at_call 33; (with_reducible apply quiet_call); with_reducible exact sub_c _ ⟨_, _, _⟩ _) | (go_at_call 33; (with_reducible apply quiet_call); with_reducible exact sub_c ⟨_, _, _⟩ _ _) | (go_at_call 33; (with_reducible apply quiet_call); with_reducible exact sub_c ⟨_, _, _⟩ ⟨_, _, _⟩ _))) | quiet_step ((first | (go_at_call 26; (with_reducible apply quiet_call); with_reducible exact decIv_c _ _) | (go_at_call 26; (with_reducible apply quiet_call); with_reducible exact decIv_c ⟨_, _⟩ _) | (go_at_call 32; (with_reducible apply quiet_call); with_reducible exact mul_iv_c _ _ _) | (go_at_call 32; (with_reducible apply quiet_call); with_reducible exact mul_iv_c _ ⟨_, _, _⟩ _) | (go_at_call 32; (with_reducible apply quiet_call); with_reducible exact mul_iv_c ⟨_, _, _⟩ _ _) | (go_at_call 32; (with_reducible apply quiet_call); with_reducible exact mul_iv_c ⟨_, _, _⟩ ⟨_, _, _⟩ _) | (go_at_call 33; (with_reducible apply quiet_call); with_reducible exact sub_c _ _ _) | (go_at_call 33; (with_reducible apply quiet_call); with_reducible exact sub_c _ ⟨_, _, _⟩ _) | (go_at_call 33; (with_reducible apply quiet_call); with_reducible exact sub_c ⟨_, _, _⟩ _ _) | (go_at_call 33; (with_reducible apply quiet_call); with_reducible exact sub_c ⟨_, _, _⟩ ⟨_, _, _⟩ _)))))); (with_reducible refine wpQuiet_nil ?_); intro r) | ((with_reducible show Code.wp _ (Code.region 8 _ true) _ _ _); (with_reducible refine wp_more_tailq (id := 8) 16 ?_ ?_ ?_); kernel_rfl; kernel_rfl; (try simp only [List.take_succ_cons, List.take_zero, List.drop_succ_cons, List.drop_zero]); (repeat (any_goals (first | go_big_quiet_step ((first | (go_at_call 26; (with_reducible apply quiet_call); with_reducible exact decIv_c _ _) | (go_at_call 26; (with_reducible apply quiet_call); with_reducible exact decIv_c ⟨_, _⟩ _) | (go_at_call 32; (with_reducible apply quiet_call); with_reducible exact mul_iv_c _ _ _) | (go_at_call 32; (with_reducible apply quiet_call); with_reducible exact mul_iv_c _ ⟨_, _, _⟩ _) | (go_at_call 32; (with_reducible apply quiet_call); with_reducible exact mul_iv_c ⟨_, _, _⟩ _ _) | (go_at_call 32; (with_reducible apply quiet_call); with_reducible exact mul_iv_c ⟨_, _, _⟩ ⟨_, _, _⟩ _) | (go_at_call 33; (with_reducible apply quiet_call); with_reducible exact sub_c _ _ _) | (go_at_call 33; (with_reducible apply quiet_call); with_reducible exact sub_c _ ⟨_, _, _⟩ _) | (go_at_call 33; (with_reducible apply quiet_call); with_reducible exact sub_c ⟨_, _, _⟩ _ _) | (go_at_call 33; (with_reducible apply quiet_call); with_reducible exact sub_c ⟨_, _, _⟩ ⟨_, _, _⟩ _))) | quiet_step ((first | (go_at_call 26; (with_reducible apply quiet_call); with_reducible exact decIv_c _ _) | (go_at_call 26; (with_reducible apply quiet_call); with_reducible exact decIv_c ⟨_, _⟩ _) | (go_at_call 32; (with_reducible apply quiet_call); with_reducible exact mul_iv_c _ _ _) | (go_at_call 32; (with_reducible apply quiet_call); with_reducible exact mul_iv_c _ ⟨_, _, _⟩ _) | (go_at_call 32; (with_reducible apply quiet_call); with_reducible exact mul_iv_c ⟨_, _, _⟩ _ _) | (go_at_call 32; (with_reducible apply quiet_call); with_reducible exact mul_iv_c ⟨_, _, _⟩ ⟨_, _, _⟩ _) | (go_at_call 33; (with_reducible apply quiet_call); with_reducible exact sub_c _ _ _) | (go_at_call 33; (with_reducible apply quiet_call); with_reducible exact sub_c _ ⟨_, _, _⟩ _) | (go_at_call 33; (with_reducible apply quiet_call); with_reducible exact sub_c ⟨_, _, _⟩ _ _) | (go_at_call 33; (with_reducible apply quiet_call); with_reducible exact sub_c ⟨_, _, _⟩ ⟨_, _, _⟩ _)))))); (with_reducible refine wpQuiet_nil ?_); intro r) | ((with_reducible show Code.wp _ (Code.region 9 _ true) _ _ _); (with_reducible refine wp_more_tailq_m (id := 9) 5 ?_ ?_ ?_); kernel_rfl; kernel_rfl; (try simp only [List.take_succ_cons, List.take_zero, List.drop_succ_cons, List.drop_zero]); (repeat (any_goals (first | go_big_quiet_step ((first | (go_at_call 12; (with_reducible apply quiet_call); with_reducible exact idiv_c _ _ _) | (go_at_call 12; (with_reducible apply quiet_call); with_reducible exact idiv_c _ ⟨_, _, _⟩ _) | (go_at_call 12; (with_reducible apply quiet_call); with_reducible exact idiv_c ⟨_, _, _⟩ _ _) | (go_at_call 12; (with_reducible apply quiet_call); with_reducible exact idiv_c ⟨_, _, _⟩ ⟨_, _, _⟩ _) | (go_at_call 29; (with_reducible apply quiet_call); with_reducible exact add_c _ _ _) | (go_at_call 29; (with_reducible apply quiet_call); with_reducible exact add_c _ ⟨_, _, _⟩ _) | (go_at_call 29; (with_reducible apply quiet_call); with_reducible exact add_c ⟨_, _, _⟩ _ _) | (go_at_call 29; (with_reducible apply quiet_call); with_reducible exact add_c ⟨_, _, _⟩ ⟨_, _, _⟩ _))) | quiet_step ((first | (go_at_call 12; (with_reducible apply quiet_call); with_reducible exact idiv_c _ _ _) | (go_at_call 12; (with_reducible apply quiet_call); with_reducible exact idiv_c _ ⟨_, _, _⟩ _) | (go_at_call 12; (with_reducible apply quiet_call); with_reducible exact idiv_c ⟨_, _, _⟩ _ _) | (go_at_call 12; (with_reducible apply quiet_call); with_reducible exact idiv_c ⟨_, _, _⟩ ⟨_, _, _⟩ _) | (go_at_call 29; (with_reducible apply quiet_call); with_reducible exact add_c _ _ _) | (go_at_call 29; (with_reducible apply quiet_call); with_reducible exact add_c _ ⟨_, _, _⟩ _) | (go_at_call 29; (with_reducible apply quiet_call); with_reducible exact add_c ⟨_, _, _⟩ _ _) | (go_at_call 29; (with_reducible apply quiet_call); with_reducible exact add_c ⟨_, _, _⟩ ⟨_, _, _⟩ _)))))); (with_reducible refine wpQuiet_nil ?_); intro r) | ((with_reducible show Code.wp _ (Code.region 9 _ true) _ _ _); (with_reducible refine wp_more_tailq (id := 9) 5 ?_ ?_ ?_); kernel_rfl; kernel_rfl; (try simp only [List.take_succ_cons, List.take_zero, List.drop_succ_cons, List.drop_zero]); (repeat (any_goals (first | go_big_quiet_step ((first | (go_at_call 12; (with_reducible apply quiet_call); with_reducible exact idiv_c _ _ _) | (go_at_call 12; (with_reducible apply quiet_call); with_reducible exact idiv_c _ ⟨_, _, _⟩ _) | (go_at_call 12; (with_reducible apply quiet_call); with_reducible exact idiv_c ⟨_, _, _⟩ _ _) | (go_at_call 12; (with_reducible apply quiet_call); with_reducible exact idiv_c ⟨_, _, _⟩ ⟨_, _, _⟩ _) | (go_at_call 29; (with_reducible apply quiet_call); with_reducible exact add_c _ _ _) | (go_at_call 29; (with_reducible apply quiet_call); with_reducible exact add_c _ ⟨_, _, _⟩ _) | (go_at_call 29; (with_reducible apply quiet_call); with_reducible exact add_c ⟨_, _, _⟩ _ _) | (go_at_call 29; (with_reducible apply quiet_call); with_reducible exact add_c ⟨_, _, _⟩ ⟨_, _, _⟩ _))) | quiet_step ((first | (go_at_call 12; (with_reducible apply quiet_call); with_reducible exact idiv_c _ _ _) | (go_at_call 12; (with_reducible apply quiet_call); with_reducible exact idiv_c _ ⟨_, _, _⟩ _) | (go_at_call 12; (with_reducible apply quiet_call); with_reducible exact idiv_c ⟨_, _, _⟩ _ _) | (go_at_call 12; (with_reducible apply quiet_call); with_reducible exact idiv_c ⟨_, _, _⟩ ⟨_, _, _⟩ _) | (go_at_call 29; (with_reducible apply quiet_call); with_reducible exact add_c _ _ _) | (go_at_call 29; (with_reducible apply quiet_call); with_reducible exact add_c _ ⟨_, _, _⟩ _) | (go_at_call 29; (with_reducible apply quiet_call); with_reducible exact add_c ⟨_, _, _⟩ _ _) | (go_at_call 29; (with_reducible apply quiet_call); with_reducible exact add_c ⟨_, _, _⟩ ⟨_, _, _⟩ _)))))); (with_reducible refine wpQuiet_nil ?_); intro r))
    rename_i r1 _ _
    go_loopw [17] (fun x wr => ∃ k : Nat, k ≤ 3 ∧ x = .int .i64 k ∧ IxW W wr g (ivSqr w) (sumK (ivSqr w) g k) (W.heap.size + (3 + r1.len)) (W.heap.size + (3 + (r1.len + (1 + r.len))))) (fun x _ => 3 - (intOf x).toNat)
    case atStart => exact ⟨0, by omega, rfl, ix_start (S := ivPoint 65536) (l := ivSqr w) _ r1 r⟩
    case round =>
      obtain ⟨k, hk, rfl, hX⟩ := hrel
      have HX := Lib.hid hX
      obtain ⟨z1, z2, z3, z4⟩ := hX.lt
      have l0 := cell_of hX.lam 0 (u := .int .i64 (ivSqr w).lo) rfl
      have l1 := cell_of hX.lam 1 (u := .int .i64 (ivSqr w).hi) rfl
      have l2 := cell_of hX.lam 2 (u := .bool (ivSqr w).no) rfl
      have h3 : k = 0 ∨ k = 1 ∨ k = 2 ∨ k = 3 := by omega
      rcases h3 with rfl | rfl | rfl | rfl
      · have g0 := cell_of hX.gl 1 (u := .int .i64 g.b0.c) rfl
        have g1 := cell_of hX.gl 2 (u := .int .i64 g.b0.s) rfl
        have g2 := cell_of hX.gl 7 (u := .int .i64 g.c0.c) rfl
        have g3 := cell_of hX.gl 8 (u := .int .i64 g.c0.s) rfl
        clear hX
        go_wp2_with (first | ((with_reducible show Code.wp _ (Code.region 8 _ true) _ _ _); (with_reducible refine wp_more_tailq_m (id := 8) 16 ?_ ?_ ?_); kernel_rfl; kernel_rfl; (try simp only [List.take_succ_cons, List.take_zero, List.drop_succ_cons, List.drop_zero]); (repeat (any_goals (first | go_big_quiet_step (fail) | quiet_step (fail)))); (with_reducible refine wpQuiet_nil ?_); intro r) | ((with_reducible show Code.wp _ (Code.region 8 _ true) _ _ _); (with_reducible refine wp_more_tailq (id := 8) 16 ?_ ?_ ?_); kernel_rfl; kernel_rfl; (try simp only [List.take_succ_cons, List.take_zero, List.drop_succ_cons, List.drop_zero]); (repeat (any_goals (first | go_big_quiet_step (fail) | quiet_step (fail)))); (with_reducible refine wpQuiet_nil ?_); intro r) | ((with_reducible show Code.wp _ (Code.region 9 _ true) _ _ _); (with_reducible refine wp_more_tailq_m (id := 9) 5 ?_ ?_ ?_); kernel_rfl; kernel_rfl; (try simp only [List.take_succ_cons, List.take_zero, List.drop_succ_cons, List.drop_zero]); (repeat (any_goals (first | go_big_quiet_step (fail) | quiet_step (fail)))); (with_reducible refine wpQuiet_nil ?_); intro r) | ((with_reducible show Code.wp _ (Code.region 9 _ true) _ _ _); (with_reducible refine wp_more_tailq (id := 9) 5 ?_ ?_ ?_); kernel_rfl; kernel_rfl; (try simp only [List.take_succ_cons, List.take_zero, List.drop_succ_cons, List.drop_zero]); (repeat (any_goals (first | go_big_quiet_step (fail) | quiet_step (fail)))); (with_reducible refine wpQuiet_nil ?_); intro r))
        (first | (with_reducible refine wp_more_apart_m (id := 8) 16 42 [(36, #[.int .i64 0, .int .i64 0, .bool false])] ?_ ?_ ?_ ?_ ?_ ?_ ?_ ?_) | (refine wp_more_apart (id := 8) 16 42 [(36, #[.int .i64 0, .int .i64 0, .bool false])] ?_ ?_ ?_ ?_ ?_ ?_ ?_ ?_))
        · intro p hp; simp only [List.mem_cons, List.not_mem_nil, or_false] at hp; subst hp <;> first | exact new_iv
        · kernel_rfl
        · kernel_rfl
        · kernel_rfl
        · kernel_rfl
        · kernel_rfl
        · rfl
        simp only [List.take_succ_cons, List.take_zero, List.drop_succ_cons, List.drop_zero]
        (repeat (first | (refine loose_alloc 8 36 #[.int .i64 0, .int .i64 0, .bool false] new_iv rfl rfl rfl rfl (by simp) ?_) | (refine loose_alloc 9 36 #[.int .i64 0, .int .i64 0, .bool false] new_iv rfl rfl rfl rfl (by simp) ?_) | (refine loose_step rfl (fun K9 hK9 => ?_); go_simp; first | (refine hK9 _ ?_; clear hK9 K9) | (apply Exists.intro; refine ⟨fun _ => ?_, hK9 _ ?_⟩; ((first | (go_at_call 26; with_reducible exact decIv_c _ _) | (go_at_call 26; with_reducible exact decIv_c ⟨_, _⟩ _) | (go_at_call 32; with_reducible exact mul_iv_c _ _ _) | (go_at_call 32; with_reducible exact mul_iv_c _ ⟨_, _, _⟩ _) | (go_at_call 32; with_reducible exact mul_iv_c ⟨_, _, _⟩ _ _) | (go_at_call 32; with_reducible exact mul_iv_c ⟨_, _, _⟩ ⟨_, _, _⟩ _) | (go_at_call 33; with_reducible exact sub_c _ _ _) | (go_at_call 33; with_reducible exact sub_c _ ⟨_, _, _⟩ _) | (go_at_call 33; with_reducible exact sub_c ⟨_, _, _⟩ _ _) | (go_at_call 33; with_reducible exact sub_c ⟨_, _, _⟩ ⟨_, _, _⟩ _))); clear hK9 K9))))
        intro r
        simp only [allFits]
        rintro _ ⟨b2, rfl, hb2, hc2⟩ _ ⟨b1, rfl, hb1, hc1⟩ hfar
        have hne := hfar 14 15 _ _ _ _ 8 9 rfl rfl rfl rfl rfl rfl (by decide)
        simp [Act.put] at hne
        clear hfar
        refine wpList_store_new 36 (.tmp 8) (.tmp 26) 3 b1 _ (cellsI (ivMul (decIv g.b0) (ivSqr w))) rfl rfl rfl rfl rfl (size_ivT _) rfl (by decide) (one_iv _ _ _) hc1 rfl ?_
        refine wpList_store_new 36 (.tmp 9) (.tmp 33) 3 b2 _ (cellsI (ivSub (ivSqr w) (decIv g.c0))) rfl rfl rfl rfl rfl (size_ivT _) rfl (by decide) (one_iv _ _ _) ((setRow_other _ _ _ _ (fun e => hne e.symm)).trans hc2) rfl ?_
        refine wpList_nil ?_
        have hm : More wr (((more wr r).setRow b1 (cellsI (ivMul (decIv g.b0) (ivSqr w))).toArray).setRow b2 (cellsI (ivSub (ivSqr w) (decIv g.c0))).toArray) := more_setRow (more_setRow ((More.refl wr).more r) hb1) hb2
        have h1 : (((more wr r).setRow b1 (cellsI (ivMul (decIv g.b0) (ivSqr w))).toArray).setRow b2 (cellsI (ivSub (ivSqr w) (decIv g.c0))).toArray).heap[b1]? = some (.cells (cellsI (ivMul (decIv g.b0) (ivSqr w))).toArray 36 (0, 0)) := (setRow_other _ _ _ _ hne).trans (heap_setRow hc1)
        have h2 : (((more wr r).setRow b1 (cellsI (ivMul (decIv g.b0) (ivSqr w))).toArray).setRow b2 (cellsI (ivSub (ivSqr w) (decIv g.c0))).toArray).heap[b2]? = some (.cells (cellsI (ivSub (ivSqr w) (decIv g.c0))).toArray 36 (0, 0)) := heap_setRow ((setRow_other _ _ _ _ (fun e => hne e.symm)).trans hc2)
        clear g0 g1 g2 g3 l0 l1 l2 hc1 hc2
        have hX2 := HX.out.up hm
        generalize (((more wr r).setRow b1 (cellsI (ivMul (decIv g.b0) (ivSqr w))).toArray).setRow b2 (cellsI (ivSub (ivSqr w) (decIv g.c0))).toArray) = wx at hm h1 h2 hX2 ⊢
        have a0 := cell_of h1 0 (u := .int .i64 (ivMul (decIv g.b0) (ivSqr w)).lo) rfl
        have a1 := cell_of h1 1 (u := .int .i64 (ivMul (decIv g.b0) (ivSqr w)).hi) rfl
        have a2 := cell_of h1 2 (u := .bool (ivMul (decIv g.b0) (ivSqr w)).no) rfl
        have d0 := cell_of h2 0 (u := .int .i64 (ivSub (ivSqr w) (decIv g.c0)).lo) rfl
        have d1 := cell_of h2 1 (u := .int .i64 (ivSub (ivSqr w) (decIv g.c0)).hi) rfl
        have d2 := cell_of h2 2 (u := .bool (ivSub (ivSqr w) (decIv g.c0)).no) rfl
        have s0 := cell_of hX2.sum 0 (u := .int .i64 (sumK (ivSqr w) g 0).lo) rfl
        have s1 := cell_of hX2.sum 1 (u := .int .i64 (sumK (ivSqr w) g 0).hi) rfl
        have s2 := cell_of hX2.sum 2 (u := .bool (sumK (ivSqr w) g 0).no) rfl
        have y1 := (Array.getElem?_eq_some_iff.1 h1).1
        have y2 := (Array.getElem?_eq_some_iff.1 h2).1
        obtain ⟨z1, z2, z3, z4⟩ := hX2.lt
        have HX2 := Lib.hid hX2
        clear h1 h2 hX2 hm
        go_wp2_with (first | ((with_reducible show Code.wp _ (Code.region 8 _ true) _ _ _); (with_reducible refine wp_more_tailq_m (id := 8) 16 ?_ ?_ ?_); kernel_rfl; kernel_rfl; (try simp only [List.take_succ_cons, List.take_zero, List.drop_succ_cons, List.drop_zero]); (repeat (any_goals (first | go_big_quiet_step (fail) | quiet_step (fail)))); (with_reducible refine wpQuiet_nil ?_); intro r) | ((with_reducible show Code.wp _ (Code.region 8 _ true) _ _ _); (with_reducible refine wp_more_tailq (id := 8) 16 ?_ ?_ ?_); kernel_rfl; kernel_rfl; (try simp only [List.take_succ_cons, List.take_zero, List.drop_succ_cons, List.drop_zero]); (repeat (any_goals (first | go_big_quiet_step (fail) | quiet_step (fail)))); (with_reducible refine wpQuiet_nil ?_); intro r) | ((with_reducible show Code.wp _ (Code.region 9 _ true) _ _ _); (with_reducible refine wp_more_tailq_m (id := 9) 5 ?_ ?_ ?_); kernel_rfl; kernel_rfl; (try simp only [List.take_succ_cons, List.take_zero, List.drop_succ_cons, List.drop_zero]); (repeat (any_goals (first | go_big_quiet_step (fail) | quiet_step (fail)))); (with_reducible refine wpQuiet_nil ?_); intro r) | ((with_reducible show Code.wp _ (Code.region 9 _ true) _ _ _); (with_reducible refine wp_more_tailq (id := 9) 5 ?_ ?_ ?_); kernel_rfl; kernel_rfl; (try simp only [List.take_succ_cons, List.take_zero, List.drop_succ_cons, List.drop_zero]); (repeat (any_goals (first | go_big_quiet_step (fail) | quiet_step (fail)))); (with_reducible refine wpQuiet_nil ?_); intro r))
        go_simp
        (first | (with_reducible refine wp_more_loose_tail_m (id := 9) 5 ?_ ?_ ?_ ?_ ?_) | (refine wp_more_loose_tail (id := 9) 5 ?_ ?_ ?_ ?_ ?_))
        · kernel_rfl
        · kernel_rfl
        · kernel_rfl
        · kernel_rfl
        simp only [List.take_succ_cons, List.take_zero, List.drop_succ_cons, List.drop_zero]
        (repeat (first | (refine loose_step rfl (fun K9 hK9 => ?_); go_simp; first | (refine hK9 _ ?_; clear hK9 K9) | (apply Exists.intro; refine ⟨fun _ => ?_, hK9 _ ?_⟩; ((first | (go_at_call 12; with_reducible exact idiv_c _ _ _) | (go_at_call 12; with_reducible exact idiv_c _ ⟨_, _, _⟩ _) | (go_at_call 12; with_reducible exact idiv_c ⟨_, _, _⟩ _ _) | (go_at_call 12; with_reducible exact idiv_c ⟨_, _, _⟩ ⟨_, _, _⟩ _) | (go_at_call 29; with_reducible exact add_c _ _ _) | (go_at_call 29; with_reducible exact add_c _ ⟨_, _, _⟩ _) | (go_at_call 29; with_reducible exact add_c ⟨_, _, _⟩ _ _) | (go_at_call 29; with_reducible exact add_c ⟨_, _, _⟩ ⟨_, _, _⟩ _))); clear hK9 K9))))
        intro r3
        simp only [allFits]
        refine wpList_store_new 36 (.tmp 5) (.tmp 38) 3 (W.heap.size + (3 + r1.len)) _ (cellsI (sumK (ivSqr w) g (0 + 1))) rfl rfl rfl rfl rfl (size_ivT _) rfl (by decide) (one_iv _ _ _) (HX2.out.up ((More.refl _).more r3)).sum rfl ?_
        refine wpList_nil ?_
        have hX3 := (HX2.out.up ((More.refl _).more r3)).next (sumK (ivSqr w) g (0 + 1))
        clear a0 a1 a2 d0 d1 d2 s0 s1 s2 y1 y2 z1 z2 z3 z4
        generalize ((more wx r3).setRow (W.heap.size + (3 + r1.len)) (cellsI (sumK (ivSqr w) g (0 + 1))).toArray) = wy at hX3 ⊢
        have HX3 := Lib.hid hX3
        clear hX3
        go_wp2_with (first | ((with_reducible show Code.wp _ (Code.region 8 _ true) _ _ _); (with_reducible refine wp_more_tailq_m (id := 8) 16 ?_ ?_ ?_); kernel_rfl; kernel_rfl; (try simp only [List.take_succ_cons, List.take_zero, List.drop_succ_cons, List.drop_zero]); (repeat (any_goals (first | go_big_quiet_step (fail) | quiet_step (fail)))); (with_reducible refine wpQuiet_nil ?_); intro r) | ((with_reducible show Code.wp _ (Code.region 8 _ true) _ _ _); (with_reducible refine wp_more_tailq (id := 8) 16 ?_ ?_ ?_); kernel_rfl; kernel_rfl; (try simp only [List.take_succ_cons, List.take_zero, List.drop_succ_cons, List.drop_zero]); (repeat (any_goals (first | go_big_quiet_step (fail) | quiet_step (fail)))); (with_reducible refine wpQuiet_nil ?_); intro r) | ((with_reducible show Code.wp _ (Code.region 9 _ true) _ _ _); (with_reducible refine wp_more_tailq_m (id := 9) 5 ?_ ?_ ?_); kernel_rfl; kernel_rfl; (try simp only [List.take_succ_cons, List.take_zero, List.drop_succ_cons, List.drop_zero]); (repeat (any_goals (first | go_big_quiet_step (fail) | quiet_step (fail)))); (with_reducible refine wpQuiet_nil ?_); intro r) | ((with_reducible show Code.wp _ (Code.region 9 _ true) _ _ _); (with_reducible refine wp_more_tailq (id := 9) 5 ?_ ?_ ?_); kernel_rfl; kernel_rfl; (try simp only [List.take_succ_cons, List.take_zero, List.drop_succ_cons, List.drop_zero]); (repeat (any_goals (first | go_big_quiet_step (fail) | quiet_step (fail)))); (with_reducible refine wpQuiet_nil ?_); intro r))
        go_roundw
        case rel => exact ⟨0 + 1, by omega, rfl, HX3.out⟩
        case measure => simp [intOf]
      · have g0 := cell_of hX.gl 3 (u := .int .i64 g.b1.c) rfl
        have g1 := cell_of hX.gl 4 (u := .int .i64 g.b1.s) rfl
        have g2 := cell_of hX.gl 9 (u := .int .i64 g.c1.c) rfl
        have g3 := cell_of hX.gl 10 (u := .int .i64 g.c1.s) rfl
        clear hX
        go_wp2_with (first | ((with_reducible show Code.wp _ (Code.region 8 _ true) _ _ _); (with_reducible refine wp_more_tailq_m (id := 8) 16 ?_ ?_ ?_); kernel_rfl; kernel_rfl; (try simp only [List.take_succ_cons, List.take_zero, List.drop_succ_cons, List.drop_zero]); (repeat (any_goals (first | go_big_quiet_step (fail) | quiet_step (fail)))); (with_reducible refine wpQuiet_nil ?_); intro r) | ((with_reducible show Code.wp _ (Code.region 8 _ true) _ _ _); (with_reducible refine wp_more_tailq (id := 8) 16 ?_ ?_ ?_); kernel_rfl; kernel_rfl; (try simp only [List.take_succ_cons, List.take_zero, List.drop_succ_cons, List.drop_zero]); (repeat (any_goals (first | go_big_quiet_step (fail) | quiet_step (fail)))); (with_reducible refine wpQuiet_nil ?_); intro r) | ((with_reducible show Code.wp _ (Code.region 9 _ true) _ _ _); (with_reducible refine wp_more_tailq_m (id := 9) 5 ?_ ?_ ?_); kernel_rfl; kernel_rfl; (try simp only [List.take_succ_cons, List.take_zero, List.drop_succ_cons, List.drop_zero]); (repeat (any_goals (first | go_big_quiet_step (fail) | quiet_step (fail)))); (with_reducible refine wpQuiet_nil ?_); intro r) | ((with_reducible show Code.wp _ (Code.region 9 _ true) _ _ _); (with_reducible refine wp_more_tailq (id := 9) 5 ?_ ?_ ?_); kernel_rfl; kernel_rfl; (try simp only [List.take_succ_cons, List.take_zero, List.drop_succ_cons, List.drop_zero]); (repeat (any_goals (first | go_big_quiet_step (fail) | quiet_step (fail)))); (with_reducible refine wpQuiet_nil ?_); intro r))
        (first | (with_reducible refine wp_more_apart_m (id := 8) 16 42 [(36, #[.int .i64 0, .int .i64 0, .bool false])] ?_ ?_ ?_ ?_ ?_ ?_ ?_ ?_) | (refine wp_more_apart (id := 8) 16 42 [(36, #[.int .i64 0, .int .i64 0, .bool false])] ?_ ?_ ?_ ?_ ?_ ?_ ?_ ?_))
        · intro p hp; simp only [List.mem_cons, List.not_mem_nil, or_false] at hp; subst hp <;> first | exact new_iv
        · kernel_rfl
        · kernel_rfl
        · kernel_rfl
        · kernel_rfl
        · kernel_rfl
        · rfl
        simp only [List.take_succ_cons, List.take_zero, List.drop_succ_cons, List.drop_zero]
        (repeat (first | (refine loose_alloc 8 36 #[.int .i64 0, .int .i64 0, .bool false] new_iv rfl rfl rfl rfl (by simp) ?_) | (refine loose_alloc 9 36 #[.int .i64 0, .int .i64 0, .bool false] new_iv rfl rfl rfl rfl (by simp) ?_) | (refine loose_step rfl (fun K9 hK9 => ?_); go_simp; first | (refine hK9 _ ?_; clear hK9 K9) | (apply Exists.intro; refine ⟨fun _ => ?_, hK9 _ ?_⟩; ((first | (go_at_call 26; with_reducible exact decIv_c _ _) | (go_at_call 26; with_reducible exact decIv_c ⟨_, _⟩ _) | (go_at_call 32; with_reducible exact mul_iv_c _ _ _) | (go_at_call 32; with_reducible exact mul_iv_c _ ⟨_, _, _⟩ _) | (go_at_call 32; with_reducible exact mul_iv_c ⟨_, _, _⟩ _ _) | (go_at_call 32; with_reducible exact mul_iv_c ⟨_, _, _⟩ ⟨_, _, _⟩ _) | (go_at_call 33; with_reducible exact sub_c _ _ _) | (go_at_call 33; with_reducible exact sub_c _ ⟨_, _, _⟩ _) | (go_at_call 33; with_reducible exact sub_c ⟨_, _, _⟩ _ _) | (go_at_call 33; with_reducible exact sub_c ⟨_, _, _⟩ ⟨_, _, _⟩ _))); clear hK9 K9))))
        intro r
        simp only [allFits]
        rintro _ ⟨b2, rfl, hb2, hc2⟩ _ ⟨b1, rfl, hb1, hc1⟩ hfar
        have hne := hfar 14 15 _ _ _ _ 8 9 rfl rfl rfl rfl rfl rfl (by decide)
        simp [Act.put] at hne
        clear hfar
        refine wpList_store_new 36 (.tmp 8) (.tmp 26) 3 b1 _ (cellsI (ivMul (decIv g.b1) (ivSqr w))) rfl rfl rfl rfl rfl (size_ivT _) rfl (by decide) (one_iv _ _ _) hc1 rfl ?_
        refine wpList_store_new 36 (.tmp 9) (.tmp 33) 3 b2 _ (cellsI (ivSub (ivSqr w) (decIv g.c1))) rfl rfl rfl rfl rfl (size_ivT _) rfl (by decide) (one_iv _ _ _) ((setRow_other _ _ _ _ (fun e => hne e.symm)).trans hc2) rfl ?_
        refine wpList_nil ?_
        have hm : More wr (((more wr r).setRow b1 (cellsI (ivMul (decIv g.b1) (ivSqr w))).toArray).setRow b2 (cellsI (ivSub (ivSqr w) (decIv g.c1))).toArray) := more_setRow (more_setRow ((More.refl wr).more r) hb1) hb2
        have h1 : (((more wr r).setRow b1 (cellsI (ivMul (decIv g.b1) (ivSqr w))).toArray).setRow b2 (cellsI (ivSub (ivSqr w) (decIv g.c1))).toArray).heap[b1]? = some (.cells (cellsI (ivMul (decIv g.b1) (ivSqr w))).toArray 36 (0, 0)) := (setRow_other _ _ _ _ hne).trans (heap_setRow hc1)
        have h2 : (((more wr r).setRow b1 (cellsI (ivMul (decIv g.b1) (ivSqr w))).toArray).setRow b2 (cellsI (ivSub (ivSqr w) (decIv g.c1))).toArray).heap[b2]? = some (.cells (cellsI (ivSub (ivSqr w) (decIv g.c1))).toArray 36 (0, 0)) := heap_setRow ((setRow_other _ _ _ _ (fun e => hne e.symm)).trans hc2)
        clear g0 g1 g2 g3 l0 l1 l2 hc1 hc2
        have hX2 := HX.out.up hm
        generalize (((more wr r).setRow b1 (cellsI (ivMul (decIv g.b1) (ivSqr w))).toArray).setRow b2 (cellsI (ivSub (ivSqr w) (decIv g.c1))).toArray) = wx at hm h1 h2 hX2 ⊢
        have a0 := cell_of h1 0 (u := .int .i64 (ivMul (decIv g.b1) (ivSqr w)).lo) rfl
        have a1 := cell_of h1 1 (u := .int .i64 (ivMul (decIv g.b1) (ivSqr w)).hi) rfl
        have a2 := cell_of h1 2 (u := .bool (ivMul (decIv g.b1) (ivSqr w)).no) rfl
        have d0 := cell_of h2 0 (u := .int .i64 (ivSub (ivSqr w) (decIv g.c1)).lo) rfl
        have d1 := cell_of h2 1 (u := .int .i64 (ivSub (ivSqr w) (decIv g.c1)).hi) rfl
        have d2 := cell_of h2 2 (u := .bool (ivSub (ivSqr w) (decIv g.c1)).no) rfl
        have s0 := cell_of hX2.sum 0 (u := .int .i64 (sumK (ivSqr w) g 1).lo) rfl
        have s1 := cell_of hX2.sum 1 (u := .int .i64 (sumK (ivSqr w) g 1).hi) rfl
        have s2 := cell_of hX2.sum 2 (u := .bool (sumK (ivSqr w) g 1).no) rfl
        have y1 := (Array.getElem?_eq_some_iff.1 h1).1
        have y2 := (Array.getElem?_eq_some_iff.1 h2).1
        obtain ⟨z1, z2, z3, z4⟩ := hX2.lt
        have HX2 := Lib.hid hX2
        clear h1 h2 hX2 hm
        go_wp2_with (first | ((with_reducible show Code.wp _ (Code.region 8 _ true) _ _ _); (with_reducible refine wp_more_tailq_m (id := 8) 16 ?_ ?_ ?_); kernel_rfl; kernel_rfl; (try simp only [List.take_succ_cons, List.take_zero, List.drop_succ_cons, List.drop_zero]); (repeat (any_goals (first | go_big_quiet_step (fail) | quiet_step (fail)))); (with_reducible refine wpQuiet_nil ?_); intro r) | ((with_reducible show Code.wp _ (Code.region 8 _ true) _ _ _); (with_reducible refine wp_more_tailq (id := 8) 16 ?_ ?_ ?_); kernel_rfl; kernel_rfl; (try simp only [List.take_succ_cons, List.take_zero, List.drop_succ_cons, List.drop_zero]); (repeat (any_goals (first | go_big_quiet_step (fail) | quiet_step (fail)))); (with_reducible refine wpQuiet_nil ?_); intro r) | ((with_reducible show Code.wp _ (Code.region 9 _ true) _ _ _); (with_reducible refine wp_more_tailq_m (id := 9) 5 ?_ ?_ ?_); kernel_rfl; kernel_rfl; (try simp only [List.take_succ_cons, List.take_zero, List.drop_succ_cons, List.drop_zero]); (repeat (any_goals (first | go_big_quiet_step (fail) | quiet_step (fail)))); (with_reducible refine wpQuiet_nil ?_); intro r) | ((with_reducible show Code.wp _ (Code.region 9 _ true) _ _ _); (with_reducible refine wp_more_tailq (id := 9) 5 ?_ ?_ ?_); kernel_rfl; kernel_rfl; (try simp only [List.take_succ_cons, List.take_zero, List.drop_succ_cons, List.drop_zero]); (repeat (any_goals (first | go_big_quiet_step (fail) | quiet_step (fail)))); (with_reducible refine wpQuiet_nil ?_); intro r))
        go_simp
        (first | (with_reducible refine wp_more_loose_tail_m (id := 9) 5 ?_ ?_ ?_ ?_ ?_) | (refine wp_more_loose_tail (id := 9) 5 ?_ ?_ ?_ ?_ ?_))
        · kernel_rfl
        · kernel_rfl
        · kernel_rfl
        · kernel_rfl
        simp only [List.take_succ_cons, List.take_zero, List.drop_succ_cons, List.drop_zero]
        (repeat (first | (refine loose_step rfl (fun K9 hK9 => ?_); go_simp; first | (refine hK9 _ ?_; clear hK9 K9) | (apply Exists.intro; refine ⟨fun _ => ?_, hK9 _ ?_⟩; ((first | (go_at_call 12; with_reducible exact idiv_c _ _ _) | (go_at_call 12; with_reducible exact idiv_c _ ⟨_, _, _⟩ _) | (go_at_call 12; with_reducible exact idiv_c ⟨_, _, _⟩ _ _) | (go_at_call 12; with_reducible exact idiv_c ⟨_, _, _⟩ ⟨_, _, _⟩ _) | (go_at_call 29; with_reducible exact add_c _ _ _) | (go_at_call 29; with_reducible exact add_c _ ⟨_, _, _⟩ _) | (go_at_call 29; with_reducible exact add_c ⟨_, _, _⟩ _ _) | (go_at_call 29; with_reducible exact add_c ⟨_, _, _⟩ ⟨_, _, _⟩ _))); clear hK9 K9))))
        intro r3
        simp only [allFits]
        refine wpList_store_new 36 (.tmp 5) (.tmp 38) 3 (W.heap.size + (3 + r1.len)) _ (cellsI (sumK (ivSqr w) g (1 + 1))) rfl rfl rfl rfl rfl (size_ivT _) rfl (by decide) (one_iv _ _ _) (HX2.out.up ((More.refl _).more r3)).sum rfl ?_
        refine wpList_nil ?_
        have hX3 := (HX2.out.up ((More.refl _).more r3)).next (sumK (ivSqr w) g (1 + 1))
        clear a0 a1 a2 d0 d1 d2 s0 s1 s2 y1 y2 z1 z2 z3 z4
        generalize ((more wx r3).setRow (W.heap.size + (3 + r1.len)) (cellsI (sumK (ivSqr w) g (1 + 1))).toArray) = wy at hX3 ⊢
        have HX3 := Lib.hid hX3
        clear hX3
        go_wp2_with (first | ((with_reducible show Code.wp _ (Code.region 8 _ true) _ _ _); (with_reducible refine wp_more_tailq_m (id := 8) 16 ?_ ?_ ?_); kernel_rfl; kernel_rfl; (try simp only [List.take_succ_cons, List.take_zero, List.drop_succ_cons, List.drop_zero]); (repeat (any_goals (first | go_big_quiet_step (fail) | quiet_step (fail)))); (with_reducible refine wpQuiet_nil ?_); intro r) | ((with_reducible show Code.wp _ (Code.region 8 _ true) _ _ _); (with_reducible refine wp_more_tailq (id := 8) 16 ?_ ?_ ?_); kernel_rfl; kernel_rfl; (try simp only [List.take_succ_cons, List.take_zero, List.drop_succ_cons, List.drop_zero]); (repeat (any_goals (first | go_big_quiet_step (fail) | quiet_step (fail)))); (with_reducible refine wpQuiet_nil ?_); intro r) | ((with_reducible show Code.wp _ (Code.region 9 _ true) _ _ _); (with_reducible refine wp_more_tailq_m (id := 9) 5 ?_ ?_ ?_); kernel_rfl; kernel_rfl; (try simp only [List.take_succ_cons, List.take_zero, List.drop_succ_cons, List.drop_zero]); (repeat (any_goals (first | go_big_quiet_step (fail) | quiet_step (fail)))); (with_reducible refine wpQuiet_nil ?_); intro r) | ((with_reducible show Code.wp _ (Code.region 9 _ true) _ _ _); (with_reducible refine wp_more_tailq (id := 9) 5 ?_ ?_ ?_); kernel_rfl; kernel_rfl; (try simp only [List.take_succ_cons, List.take_zero, List.drop_succ_cons, List.drop_zero]); (repeat (any_goals (first | go_big_quiet_step (fail) | quiet_step (fail)))); (with_reducible refine wpQuiet_nil ?_); intro r))
        go_roundw
        case rel => exact ⟨1 + 1, by omega, rfl, HX3.out⟩
        case measure => simp [intOf]
      · have g0 := cell_of hX.gl 5 (u := .int .i64 g.b2.c) rfl
        have g1 := cell_of hX.gl 6 (u := .int .i64 g.b2.s) rfl
        have g2 := cell_of hX.gl 11 (u := .int .i64 g.c2.c) rfl
        have g3 := cell_of hX.gl 12 (u := .int .i64 g.c2.s) rfl
        clear hX
        go_wp2_with (first | ((with_reducible show Code.wp _ (Code.region 8 _ true) _ _ _); (with_reducible refine wp_more_tailq_m (id := 8) 16 ?_ ?_ ?_); kernel_rfl; kernel_rfl; (try simp only [List.take_succ_cons, List.take_zero, List.drop_succ_cons, List.drop_zero]); (repeat (any_goals (first | go_big_quiet_step (fail) | quiet_step (fail)))); (with_reducible refine wpQuiet_nil ?_); intro r) | ((with_reducible show Code.wp _ (Code.region 8 _ true) _ _ _); (with_reducible refine wp_more_tailq (id := 8) 16 ?_ ?_ ?_); kernel_rfl; kernel_rfl; (try simp only [List.take_succ_cons, List.take_zero, List.drop_succ_cons, List.drop_zero]); (repeat (any_goals (first | go_big_quiet_step (fail) | quiet_step (fail)))); (with_reducible refine wpQuiet_nil ?_); intro r) | ((with_reducible show Code.wp _ (Code.region 9 _ true) _ _ _); (with_reducible refine wp_more_tailq_m (id := 9) 5 ?_ ?_ ?_); kernel_rfl; kernel_rfl; (try simp only [List.take_succ_cons, List.take_zero, List.drop_succ_cons, List.drop_zero]); (repeat (any_goals (first | go_big_quiet_step (fail) | quiet_step (fail)))); (with_reducible refine wpQuiet_nil ?_); intro r) | ((with_reducible show Code.wp _ (Code.region 9 _ true) _ _ _); (with_reducible refine wp_more_tailq (id := 9) 5 ?_ ?_ ?_); kernel_rfl; kernel_rfl; (try simp only [List.take_succ_cons, List.take_zero, List.drop_succ_cons, List.drop_zero]); (repeat (any_goals (first | go_big_quiet_step (fail) | quiet_step (fail)))); (with_reducible refine wpQuiet_nil ?_); intro r))
        (first | (with_reducible refine wp_more_apart_m (id := 8) 16 42 [(36, #[.int .i64 0, .int .i64 0, .bool false])] ?_ ?_ ?_ ?_ ?_ ?_ ?_ ?_) | (refine wp_more_apart (id := 8) 16 42 [(36, #[.int .i64 0, .int .i64 0, .bool false])] ?_ ?_ ?_ ?_ ?_ ?_ ?_ ?_))
        · intro p hp; simp only [List.mem_cons, List.not_mem_nil, or_false] at hp; subst hp <;> first | exact new_iv
        · kernel_rfl
        · kernel_rfl
        · kernel_rfl
        · kernel_rfl
        · kernel_rfl
        · rfl
        simp only [List.take_succ_cons, List.take_zero, List.drop_succ_cons, List.drop_zero]
        (repeat (first | (refine loose_alloc 8 36 #[.int .i64 0, .int .i64 0, .bool false] new_iv rfl rfl rfl rfl (by simp) ?_) | (refine loose_alloc 9 36 #[.int .i64 0, .int .i64 0, .bool false] new_iv rfl rfl rfl rfl (by simp) ?_) | (refine loose_step rfl (fun K9 hK9 => ?_); go_simp; first | (refine hK9 _ ?_; clear hK9 K9) | (apply Exists.intro; refine ⟨fun _ => ?_, hK9 _ ?_⟩; ((first | (go_at_call 26; with_reducible exact decIv_c _ _) | (go_at_call 26; with_reducible exact decIv_c ⟨_, _⟩ _) | (go_at_call 32; with_reducible exact mul_iv_c _ _ _) | (go_at_call 32; with_reducible exact mul_iv_c _ ⟨_, _, _⟩ _) | (go_at_call 32; with_reducible exact mul_iv_c ⟨_, _, _⟩ _ _) | (go_at_call 32; with_reducible exact mul_iv_c ⟨_, _, _⟩ ⟨_, _, _⟩ _) | (go_at_call 33; with_reducible exact sub_c _ _ _) | (go_at_call 33; with_reducible exact sub_c _ ⟨_, _, _⟩ _) | (go_at_call 33; with_reducible exact sub_c ⟨_, _, _⟩ _ _) | (go_at_call 33; with_reducible exact sub_c ⟨_, _, _⟩ ⟨_, _, _⟩ _))); clear hK9 K9))))
        intro r
        simp only [allFits]
        rintro _ ⟨b2, rfl, hb2, hc2⟩ _ ⟨b1, rfl, hb1, hc1⟩ hfar
        have hne := hfar 14 15 _ _ _ _ 8 9 rfl rfl rfl rfl rfl rfl (by decide)
        simp [Act.put] at hne
        clear hfar
        refine wpList_store_new 36 (.tmp 8) (.tmp 26) 3 b1 _ (cellsI (ivMul (decIv g.b2) (ivSqr w))) rfl rfl rfl rfl rfl (size_ivT _) rfl (by decide) (one_iv _ _ _) hc1 rfl ?_
        refine wpList_store_new 36 (.tmp 9) (.tmp 33) 3 b2 _ (cellsI (ivSub (ivSqr w) (decIv g.c2))) rfl rfl rfl rfl rfl (size_ivT _) rfl (by decide) (one_iv _ _ _) ((setRow_other _ _ _ _ (fun e => hne e.symm)).trans hc2) rfl ?_
        refine wpList_nil ?_
        have hm : More wr (((more wr r).setRow b1 (cellsI (ivMul (decIv g.b2) (ivSqr w))).toArray).setRow b2 (cellsI (ivSub (ivSqr w) (decIv g.c2))).toArray) := more_setRow (more_setRow ((More.refl wr).more r) hb1) hb2
        have h1 : (((more wr r).setRow b1 (cellsI (ivMul (decIv g.b2) (ivSqr w))).toArray).setRow b2 (cellsI (ivSub (ivSqr w) (decIv g.c2))).toArray).heap[b1]? = some (.cells (cellsI (ivMul (decIv g.b2) (ivSqr w))).toArray 36 (0, 0)) := (setRow_other _ _ _ _ hne).trans (heap_setRow hc1)
        have h2 : (((more wr r).setRow b1 (cellsI (ivMul (decIv g.b2) (ivSqr w))).toArray).setRow b2 (cellsI (ivSub (ivSqr w) (decIv g.c2))).toArray).heap[b2]? = some (.cells (cellsI (ivSub (ivSqr w) (decIv g.c2))).toArray 36 (0, 0)) := heap_setRow ((setRow_other _ _ _ _ (fun e => hne e.symm)).trans hc2)
        clear g0 g1 g2 g3 l0 l1 l2 hc1 hc2
        have hX2 := HX.out.up hm
        generalize (((more wr r).setRow b1 (cellsI (ivMul (decIv g.b2) (ivSqr w))).toArray).setRow b2 (cellsI (ivSub (ivSqr w) (decIv g.c2))).toArray) = wx at hm h1 h2 hX2 ⊢
        have a0 := cell_of h1 0 (u := .int .i64 (ivMul (decIv g.b2) (ivSqr w)).lo) rfl
        have a1 := cell_of h1 1 (u := .int .i64 (ivMul (decIv g.b2) (ivSqr w)).hi) rfl
        have a2 := cell_of h1 2 (u := .bool (ivMul (decIv g.b2) (ivSqr w)).no) rfl
        have d0 := cell_of h2 0 (u := .int .i64 (ivSub (ivSqr w) (decIv g.c2)).lo) rfl
        have d1 := cell_of h2 1 (u := .int .i64 (ivSub (ivSqr w) (decIv g.c2)).hi) rfl
        have d2 := cell_of h2 2 (u := .bool (ivSub (ivSqr w) (decIv g.c2)).no) rfl
        have s0 := cell_of hX2.sum 0 (u := .int .i64 (sumK (ivSqr w) g 2).lo) rfl
        have s1 := cell_of hX2.sum 1 (u := .int .i64 (sumK (ivSqr w) g 2).hi) rfl
        have s2 := cell_of hX2.sum 2 (u := .bool (sumK (ivSqr w) g 2).no) rfl
        have y1 := (Array.getElem?_eq_some_iff.1 h1).1
        have y2 := (Array.getElem?_eq_some_iff.1 h2).1
        obtain ⟨z1, z2, z3, z4⟩ := hX2.lt
        have HX2 := Lib.hid hX2
        clear h1 h2 hX2 hm
        go_wp2_with (first | ((with_reducible show Code.wp _ (Code.region 8 _ true) _ _ _); (with_reducible refine wp_more_tailq_m (id := 8) 16 ?_ ?_ ?_); kernel_rfl; kernel_rfl; (try simp only [List.take_succ_cons, List.take_zero, List.drop_succ_cons, List.drop_zero]); (repeat (any_goals (first | go_big_quiet_step (fail) | quiet_step (fail)))); (with_reducible refine wpQuiet_nil ?_); intro r) | ((with_reducible show Code.wp _ (Code.region 8 _ true) _ _ _); (with_reducible refine wp_more_tailq (id := 8) 16 ?_ ?_ ?_); kernel_rfl; kernel_rfl; (try simp only [List.take_succ_cons, List.take_zero, List.drop_succ_cons, List.drop_zero]); (repeat (any_goals (first | go_big_quiet_step (fail) | quiet_step (fail)))); (with_reducible refine wpQuiet_nil ?_); intro r) | ((with_reducible show Code.wp _ (Code.region 9 _ true) _ _ _); (with_reducible refine wp_more_tailq_m (id := 9) 5 ?_ ?_ ?_); kernel_rfl; kernel_rfl; (try simp only [List.take_succ_cons, List.take_zero, List.drop_succ_cons, List.drop_zero]); (repeat (any_goals (first | go_big_quiet_step (fail) | quiet_step (fail)))); (with_reducible refine wpQuiet_nil ?_); intro r) | ((with_reducible show Code.wp _ (Code.region 9 _ true) _ _ _); (with_reducible refine wp_more_tailq (id := 9) 5 ?_ ?_ ?_); kernel_rfl; kernel_rfl; (try simp only [List.take_succ_cons, List.take_zero, List.drop_succ_cons, List.drop_zero]); (repeat (any_goals (first | go_big_quiet_step (fail) | quiet_step (fail)))); (with_reducible refine wpQuiet_nil ?_); intro r))
        go_simp
        (first | (with_reducible refine wp_more_loose_tail_m (id := 9) 5 ?_ ?_ ?_ ?_ ?_) | (refine wp_more_loose_tail (id := 9) 5 ?_ ?_ ?_ ?_ ?_))
        · kernel_rfl
        · kernel_rfl
        · kernel_rfl
        · kernel_rfl
        simp only [List.take_succ_cons, List.take_zero, List.drop_succ_cons, List.drop_zero]
        (repeat (first | (refine loose_step rfl (fun K9 hK9 => ?_); go_simp; first | (refine hK9 _ ?_; clear hK9 K9) | (apply Exists.intro; refine ⟨fun _ => ?_, hK9 _ ?_⟩; ((first | (go_at_call 12; with_reducible exact idiv_c _ _ _) | (go_at_call 12; with_reducible exact idiv_c _ ⟨_, _, _⟩ _) | (go_at_call 12; with_reducible exact idiv_c ⟨_, _, _⟩ _ _) | (go_at_call 12; with_reducible exact idiv_c ⟨_, _, _⟩ ⟨_, _, _⟩ _) | (go_at_call 29; with_reducible exact add_c _ _ _) | (go_at_call 29; with_reducible exact add_c _ ⟨_, _, _⟩ _) | (go_at_call 29; with_reducible exact add_c ⟨_, _, _⟩ _ _) | (go_at_call 29; with_reducible exact add_c ⟨_, _, _⟩ ⟨_, _, _⟩ _))); clear hK9 K9))))
        intro r3
        simp only [allFits]
        refine wpList_store_new 36 (.tmp 5) (.tmp 38) 3 (W.heap.size + (3 + r1.len)) _ (cellsI (sumK (ivSqr w) g (2 + 1))) rfl rfl rfl rfl rfl (size_ivT _) rfl (by decide) (one_iv _ _ _) (HX2.out.up ((More.refl _).more r3)).sum rfl ?_
        refine wpList_nil ?_
        have hX3 := (HX2.out.up ((More.refl _).more r3)).next (sumK (ivSqr w) g (2 + 1))
        clear a0 a1 a2 d0 d1 d2 s0 s1 s2 y1 y2 z1 z2 z3 z4
        generalize ((more wx r3).setRow (W.heap.size + (3 + r1.len)) (cellsI (sumK (ivSqr w) g (2 + 1))).toArray) = wy at hX3 ⊢
        have HX3 := Lib.hid hX3
        clear hX3
        go_wp2_with (first | ((with_reducible show Code.wp _ (Code.region 8 _ true) _ _ _); (with_reducible refine wp_more_tailq_m (id := 8) 16 ?_ ?_ ?_); kernel_rfl; kernel_rfl; (try simp only [List.take_succ_cons, List.take_zero, List.drop_succ_cons, List.drop_zero]); (repeat (any_goals (first | go_big_quiet_step (fail) | quiet_step (fail)))); (with_reducible refine wpQuiet_nil ?_); intro r) | ((with_reducible show Code.wp _ (Code.region 8 _ true) _ _ _); (with_reducible refine wp_more_tailq (id := 8) 16 ?_ ?_ ?_); kernel_rfl; kernel_rfl; (try simp only [List.take_succ_cons, List.take_zero, List.drop_succ_cons, List.drop_zero]); (repeat (any_goals (first | go_big_quiet_step (fail) | quiet_step (fail)))); (with_reducible refine wpQuiet_nil ?_); intro r) | ((with_reducible show Code.wp _ (Code.region 9 _ true) _ _ _); (with_reducible refine wp_more_tailq_m (id := 9) 5 ?_ ?_ ?_); kernel_rfl; kernel_rfl; (try simp only [List.take_succ_cons, List.take_zero, List.drop_succ_cons, List.drop_zero]); (repeat (any_goals (first | go_big_quiet_step (fail) | quiet_step (fail)))); (with_reducible refine wpQuiet_nil ?_); intro r) | ((with_reducible show Code.wp _ (Code.region 9 _ true) _ _ _); (with_reducible refine wp_more_tailq (id := 9) 5 ?_ ?_ ?_); kernel_rfl; kernel_rfl; (try simp only [List.take_succ_cons, List.take_zero, List.drop_succ_cons, List.drop_zero]); (repeat (any_goals (first | go_big_quiet_step (fail) | quiet_step (fail)))); (with_reducible refine wpQuiet_nil ?_); intro r))
        go_roundw
        case rel => exact ⟨2 + 1, by omega, rfl, HX3.out⟩
        case measure => simp [intOf]
      · have s0 := cell_of hX.sum 0 (u := .int .i64 (sumK (ivSqr w) g 3).lo) rfl
        have s1 := cell_of hX.sum 1 (u := .int .i64 (sumK (ivSqr w) g 3).hi) rfl
        have s2 := cell_of hX.sum 2 (u := .bool (sumK (ivSqr w) g 3).no) rfl
        have e0 := cell_of hX.res 0 (u := .int .i64 0) rfl
        have e1 := cell_of hX.res 1 (u := .int .i64 0) rfl
        have e2 := cell_of hX.res 2 (u := .bool false) rfl
        have f0 := frozen_of hX.res 0
        have f1 := frozen_of hX.res 1
        have f2 := frozen_of hX.res 2
        have hmw := hX.more
        have HMW := Lib.hid hmw
        clear hX hmw
        go_wp2_with (first | (go_at_call 12; (with_reducible refine (idiv_c _ _ _).mono ?_); rintro e w' ⟨rfl, r, rfl⟩) | (go_at_call 12; (with_reducible refine (idiv_c _ ⟨_, _, _⟩ _).mono ?_); rintro e w' ⟨rfl, r, rfl⟩) | (go_at_call 12; (with_reducible refine (idiv_c ⟨_, _, _⟩ _ _).mono ?_); rintro e w' ⟨rfl, r, rfl⟩) | (go_at_call 12; (with_reducible refine (idiv_c ⟨_, _, _⟩ ⟨_, _, _⟩ _).mono ?_); rintro e w' ⟨rfl, r, rfl⟩) | (go_at_call 23; (with_reducible refine (point_c _ _).mono ?_); rintro e w' ⟨rfl, r, rfl⟩) | (go_at_call 26; (with_reducible refine (decIv_c _ _).mono ?_); rintro e w' ⟨rfl, r, rfl⟩) | (go_at_call 26; (with_reducible refine (decIv_c ⟨_, _⟩ _).mono ?_); rintro e w' ⟨rfl, r, rfl⟩) | (go_at_call 29; (with_reducible refine (add_c _ _ _).mono ?_); rintro e w' ⟨rfl, r, rfl⟩) | (go_at_call 29; (with_reducible refine (add_c _ ⟨_, _, _⟩ _).mono ?_); rintro e w' ⟨rfl, r, rfl⟩) | (go_at_call 29; (with_reducible refine (add_c ⟨_, _, _⟩ _ _).mono ?_); rintro e w' ⟨rfl, r, rfl⟩) | (go_at_call 29; (with_reducible refine (add_c ⟨_, _, _⟩ ⟨_, _, _⟩ _).mono ?_); rintro e w' ⟨rfl, r, rfl⟩) | (go_at_call 31; (with_reducible refine (sqr_c _ _).mono ?_); rintro e w' ⟨rfl, r, rfl⟩) | (go_at_call 31; (with_reducible refine (sqr_c ⟨_, _, _⟩ _).mono ?_); rintro e w' ⟨rfl, r, rfl⟩) | (go_at_call 32; (with_reducible refine (mul_iv_c _ _ _).mono ?_); rintro e w' ⟨rfl, r, rfl⟩) | (go_at_call 32; (with_reducible refine (mul_iv_c _ ⟨_, _, _⟩ _).mono ?_); rintro e w' ⟨rfl, r, rfl⟩) | (go_at_call 32; (with_reducible refine (mul_iv_c ⟨_, _, _⟩ _ _).mono ?_); rintro e w' ⟨rfl, r, rfl⟩) | (go_at_call 32; (with_reducible refine (mul_iv_c ⟨_, _, _⟩ ⟨_, _, _⟩ _).mono ?_); rintro e w' ⟨rfl, r, rfl⟩) | (go_at_call 33; (with_reducible refine (sub_c _ _ _).mono ?_); rintro e w' ⟨rfl, r, rfl⟩) | (go_at_call 33; (with_reducible refine (sub_c _ ⟨_, _, _⟩ _).mono ?_); rintro e w' ⟨rfl, r, rfl⟩) | (go_at_call 33; (with_reducible refine (sub_c ⟨_, _, _⟩ _ _).mono ?_); rintro e w' ⟨rfl, r, rfl⟩) | (go_at_call 33; (with_reducible refine (sub_c ⟨_, _, _⟩ ⟨_, _, _⟩ _).mono ?_); rintro e w' ⟨rfl, r, rfl⟩) | (go_at_call 34; (with_reducible refine (iroot_c _ _).mono ?_); rintro e w' ⟨rfl, r, rfl⟩) | (go_at_call 34; (with_reducible refine (iroot_c ⟨_, _, _⟩ _).mono ?_); rintro e w' ⟨rfl, r, rfl⟩) | ((with_reducible show Code.wp _ (Code.region 8 _ true) _ _ _); (with_reducible refine wp_more_tailq_m (id := 8) 16 ?_ ?_ ?_); kernel_rfl; kernel_rfl; (try simp only [List.take_succ_cons, List.take_zero, List.drop_succ_cons, List.drop_zero]); (repeat (any_goals (first | go_big_quiet_step ((first | (go_at_call 26; (with_reducible apply quiet_call); with_reducible exact decIv_c _ _) | (go_at_call 26; (with_reducible apply quiet_call); with_reducible exact decIv_c ⟨_, _⟩ _) | (go_at_call 32; (with_reducible apply quiet_call); with_reducible exact mul_iv_c _ _ _) | (go_at_call 32; (with_reducible apply quiet_call); with_reducible exact mul_iv_c _ ⟨_, _, _⟩ _) | (go_at_call 32; (with_reducible apply quiet_call); with_reducible exact mul_iv_c ⟨_, _, _⟩ _ _) | (go_at_call 32; (with_reducible apply quiet_call); with_reducible exact mul_iv_c ⟨_, _, _⟩ ⟨_, _, _⟩ _) | (go_at_call 33; (with_reducible apply quiet_call); with_reducible exact sub_c _ _ _) | (go_at_call 33; (with_reducible apply quiet_call); with_reducible exact sub_c _ ⟨_, _, _⟩ _) | (go_at_call 33; (with_reducible apply quiet_call); with_reducible exact sub_c ⟨_, _, _⟩ _ _) | (go_at_call 33; (with_reducible apply quiet_call); with_reducible exact sub_c ⟨_, _, _⟩ ⟨_, _, _⟩ _))) | quiet_step ((first | (go_at_call 26; (with_reducible apply quiet_call); with_reducible exact decIv_c _ _) | (go_at_call 26; (with_reducible apply quiet_call); with_reducible exact decIv_c ⟨_, _⟩ _) | (go_at_call 32; (with_reducible apply quiet_call); with_reducible exact mul_iv_c _ _ _) | (go_at_call 32; (with_reducible apply quiet_call); with_reducible exact mul_iv_c _ ⟨_, _, _⟩ _) | (go_at_call 32; (with_reducible apply quiet_call); with_reducible exact mul_iv_c ⟨_, _, _⟩ _ _) | (go_at_call 32; (with_reducible apply quiet_call); with_reducible exact mul_iv_c ⟨_, _, _⟩ ⟨_, _, _⟩ _) | (go_at_call 33; (with_reducible apply quiet_call); with_reducible exact sub_c _ _ _) | (go_at_call 33; (with_reducible apply quiet_call); with_reducible exact sub_c _ ⟨_, _, _⟩ _) | (go_at_call 33; (with_reducible apply quiet_call); with_reducible exact sub_c ⟨_, _, _⟩ _ _) | (go_at_call 33; (with_reducible apply quiet_call); with_reducible exact sub_c ⟨_, _, _⟩ ⟨_, _, _⟩ _)))))); (with_reducible refine wpQuiet_nil ?_); intro r) | ((with_reducible show Code.wp _ (Code.region 8 _ true) _ _ _); (with_reducible refine wp_more_tailq (id := 8) 16 ?_ ?_ ?_); kernel_rfl; kernel_rfl; (try simp only [List.take_succ_cons, List.take_zero, List.drop_succ_cons, List.drop_zero]); (repeat (any_goals (first | go_big_quiet_step ((first | (go_at_call 26; (with_reducible apply quiet_call); with_reducible exact decIv_c _ _) | (go_at_call 26; (with_reducible apply quiet_call); with_reducible exact decIv_c ⟨_, _⟩ _) | (go_at_call 32; (with_reducible apply quiet_call); with_reducible exact mul_iv_c _ _ _) | (go_at_call 32; (with_reducible apply quiet_call); with_reducible exact mul_iv_c _ ⟨_, _, _⟩ _) | (go_at_call 32; (with_reducible apply quiet_call); with_reducible exact mul_iv_c ⟨_, _, _⟩ _ _) | (go_at_call 32; (with_reducible apply quiet_call); with_reducible exact mul_iv_c ⟨_, _, _⟩ ⟨_, _, _⟩ _) | (go_at_call 33; (with_reducible apply quiet_call); with_reducible exact sub_c _ _ _) | (go_at_call 33; (with_reducible apply quiet_call); with_reducible exact sub_c _ ⟨_, _, _⟩ _) | (go_at_call 33; (with_reducible apply quiet_call); with_reducible exact sub_c ⟨_, _, _⟩ _ _) | (go_at_call 33; (with_reducible apply quiet_call); with_reducible exact sub_c ⟨_, _, _⟩ ⟨_, _, _⟩ _))) | quiet_step ((first | (go_at_call 26; (with_reducible apply quiet_call); with_reducible exact decIv_c _ _) | (go_at_call 26; (with_reducible apply quiet_call); with_reducible exact decIv_c ⟨_, _⟩ _) | (go_at_call 32; (with_reducible apply quiet_call); with_reducible exact mul_iv_c _ _ _) | (go_at_call 32; (with_reducible apply quiet_call); with_reducible exact mul_iv_c _ ⟨_, _, _⟩ _) | (go_at_call 32; (with_reducible apply quiet_call); with_reducible exact mul_iv_c ⟨_, _, _⟩ _ _) | (go_at_call 32; (with_reducible apply quiet_call); with_reducible exact mul_iv_c ⟨_, _, _⟩ ⟨_, _, _⟩ _) | (go_at_call 33; (with_reducible apply quiet_call); with_reducible exact sub_c _ _ _) | (go_at_call 33; (with_reducible apply quiet_call); with_reducible exact sub_c _ ⟨_, _, _⟩ _) | (go_at_call 33; (with_reducible apply quiet_call); with_reducible exact sub_c ⟨_, _, _⟩ _ _) | (go_at_call 33; (with_reducible apply quiet_call); with_reducible exact sub_c ⟨_, _, _⟩ ⟨_, _, _⟩ _)))))); (with_reducible refine wpQuiet_nil ?_); intro r) | ((with_reducible show Code.wp _ (Code.region 9 _ true) _ _ _); (with_reducible refine wp_more_tailq_m (id := 9) 5 ?_ ?_ ?_); kernel_rfl; kernel_rfl; (try simp only [List.take_succ_cons, List.take_zero, List.drop_succ_cons, List.drop_zero]); (repeat (any_goals (first | go_big_quiet_step ((first | (go_at_call 12; (with_reducible apply quiet_call); with_reducible exact idiv_c _ _ _) | (go_at_call 12; (with_reducible apply quiet_call); with_reducible exact idiv_c _ ⟨_, _, _⟩ _) | (go_at_call 12; (with_reducible apply quiet_call); with_reducible exact idiv_c ⟨_, _, _⟩ _ _) | (go_at_call 12; (with_reducible apply quiet_call); with_reducible exact idiv_c ⟨_, _, _⟩ ⟨_, _, _⟩ _) | (go_at_call 29; (with_reducible apply quiet_call); with_reducible exact add_c _ _ _) | (go_at_call 29; (with_reducible apply quiet_call); with_reducible exact add_c _ ⟨_, _, _⟩ _) | (go_at_call 29; (with_reducible apply quiet_call); with_reducible exact add_c ⟨_, _, _⟩ _ _) | (go_at_call 29; (with_reducible apply quiet_call); with_reducible exact add_c ⟨_, _, _⟩ ⟨_, _, _⟩ _))) | quiet_step ((first | (go_at_call 12; (with_reducible apply quiet_call); with_reducible exact idiv_c _ _ _) | (go_at_call 12; (with_reducible apply quiet_call); with_reducible exact idiv_c _ ⟨_, _, _⟩ _) | (go_at_call 12; (with_reducible apply quiet_call); with_reducible exact idiv_c ⟨_, _, _⟩ _ _) | (go_at_call 12; (with_reducible apply quiet_call); with_reducible exact idiv_c ⟨_, _, _⟩ ⟨_, _, _⟩ _) | (go_at_call 29; (with_reducible apply quiet_call); with_reducible exact add_c _ _ _) | (go_at_call 29; (with_reducible apply quiet_call); with_reducible exact add_c _ ⟨_, _, _⟩ _) | (go_at_call 29; (with_reducible apply quiet_call); with_reducible exact add_c ⟨_, _, _⟩ _ _) | (go_at_call 29; (with_reducible apply quiet_call); with_reducible exact add_c ⟨_, _, _⟩ ⟨_, _, _⟩ _)))))); (with_reducible refine wpQuiet_nil ?_); intro r) | ((with_reducible show Code.wp _ (Code.region 9 _ true) _ _ _); (with_reducible refine wp_more_tailq (id := 9) 5 ?_ ?_ ?_); kernel_rfl; kernel_rfl; (try simp only [List.take_succ_cons, List.take_zero, List.drop_succ_cons, List.drop_zero]); (repeat (any_goals (first | go_big_quiet_step ((first | (go_at_call 12; (with_reducible apply quiet_call); with_reducible exact idiv_c _ _ _) | (go_at_call 12; (with_reducible apply quiet_call); with_reducible exact idiv_c _ ⟨_, _, _⟩ _) | (go_at_call 12; (with_reducible apply quiet_call); with_reducible exact idiv_c ⟨_, _, _⟩ _ _) | (go_at_call 12; (with_reducible apply quiet_call); with_reducible exact idiv_c ⟨_, _, _⟩ ⟨_, _, _⟩ _) | (go_at_call 29; (with_reducible apply quiet_call); with_reducible exact add_c _ _ _) | (go_at_call 29; (with_reducible apply quiet_call); with_reducible exact add_c _ ⟨_, _, _⟩ _) | (go_at_call 29; (with_reducible apply quiet_call); with_reducible exact add_c ⟨_, _, _⟩ _ _) | (go_at_call 29; (with_reducible apply quiet_call); with_reducible exact add_c ⟨_, _, _⟩ ⟨_, _, _⟩ _))) | quiet_step ((first | (go_at_call 12; (with_reducible apply quiet_call); with_reducible exact idiv_c _ _ _) | (go_at_call 12; (with_reducible apply quiet_call); with_reducible exact idiv_c _ ⟨_, _, _⟩ _) | (go_at_call 12; (with_reducible apply quiet_call); with_reducible exact idiv_c ⟨_, _, _⟩ _ _) | (go_at_call 12; (with_reducible apply quiet_call); with_reducible exact idiv_c ⟨_, _, _⟩ ⟨_, _, _⟩ _) | (go_at_call 29; (with_reducible apply quiet_call); with_reducible exact add_c _ _ _) | (go_at_call 29; (with_reducible apply quiet_call); with_reducible exact add_c _ ⟨_, _, _⟩ _) | (go_at_call 29; (with_reducible apply quiet_call); with_reducible exact add_c ⟨_, _, _⟩ _ _) | (go_at_call 29; (with_reducible apply quiet_call); with_reducible exact add_c ⟨_, _, _⟩ ⟨_, _, _⟩ _)))))); (with_reducible refine wpQuiet_nil ?_); intro r))
        obtain ⟨k0, k1, k2⟩ := three_cells (x0 := .int .i64 (ivRoot (sumK (ivSqr w) g 3)).lo) (x1 := .int .i64 (ivRoot (sumK (ivSqr w) g 3)).hi) (x2 := .bool (ivRoot (sumK (ivSqr w) g 3)).no) z2 e0 e1 e2 r
        have hm : More W (more (((wr.setCell ⟨W.heap.size + 2, 0, none⟩ (.int .i64 (ivRoot (sumK (ivSqr w) g 3)).lo)).setCell ⟨W.heap.size + 2, 1, none⟩ (.int .i64 (ivRoot (sumK (ivSqr w) g 3)).hi)).setCell ⟨W.heap.size + 2, 2, none⟩ (.bool (ivRoot (sumK (ivSqr w) g 3)).no)) r) := (more_of_below (((HMW.out.below.setCell (by simp only []; omega) _).setCell (by simp only []; omega) _).setCell (by simp only []; omega) _)).more _
        generalize (more (((wr.setCell ⟨W.heap.size + 2, 0, none⟩ (.int .i64 (ivRoot (sumK (ivSqr w) g 3)).lo)).setCell ⟨W.heap.size + 2, 1, none⟩ (.int .i64 (ivRoot (sumK (ivSqr w) g 3)).hi)).setCell ⟨W.heap.size + 2, 2, none⟩ (.bool (ivRoot (sumK (ivSqr w) g 3)).no)) r) = wf at k0 k1 k2 hm ⊢
        try simp only [Exit.inBlock, Exit.then]
        refine bodyPost_ret (by simp [results, Tryz.results11, go_sem, k0, k1, k2]; try rfl) rfl ?_
        exact ⟨rfl, hm⟩

end Go.Proofs.YtekhhekkepijoaaGreatDoor

namespace Go.Proofs.YtekhhekkepijoaaGreatDoor
set_option linter.unusedVariables false
open Go.ChangeShapes Go.WideShapes Go.ChangeAt Go.RowKit

def bq (V : Bool) (x : Ln) (G : List Gl) (w : Iv) : Sy × Int := if V = true then (if rowsRight (allSy x G w).rows (allSy x G w).wide = true then (allSy x G w, 0) else (noSy, 6)) else (noSy, 1)
@[reducible] def syV (s : Iv) (v : Value) : Value := .agg #[v, .int .i64 s.lo, .int .i64 s.hi, .bool s.no]
/-- A slice whose block is younger than a world. -/
def NewV (W : World) (v : Value) : Prop := ∀ g o n c, v = .slice (some ⟨g, o, none⟩) n c → W.heap.size ≤ g
theorem newV_none (W : World) : NewV W (.slice none 0 0) := fun g o n c h => by cases h
theorem ownSS_new {base n m : Nat} {s : Rest} {e : TypeId} {v : Value} {xs : List Value} (h : OwnS base s e m v n xs) (w W : World) (hw : w.heap.size = base) (hW : W.heap.size ≤ base) : NewV W v := by
  have h1 := h w hw
  intro g o n c hv
  have h2 := h1.lt
  obtain ⟨-, h⟩ := h1
  rcases h with ⟨rfl, rfl⟩ | ⟨g', cap, cur, rfl, -⟩
  · cases hv
  · have h3 := (h2 g' rfl).1
    injection hv with e1 e2 e3
    injection e1 with e1
    injection e1 with e1
    omega
theorem ownSS_form {base n m : Nat} {s : Rest} {e : TypeId} {v : Value} {xs : List Value} (h : OwnS base s e m v n xs) (w : World) (hw : w.heap.size = base) : ∃ ao c, v = .slice ao n c := by
  obtain ⟨-, h⟩ := h w hw
  rcases h with ⟨rfl, rfl⟩ | ⟨g, cap, cur, rfl, -⟩
  · exact ⟨_, _, rfl⟩
  · exact ⟨_, _, rfl⟩

theorem more_swap {A B : World} {s : Rest} {k : Nat} (h : A.heap.size = B.heap.size) (hk : A.heap.size ≤ k) : (more A s).heap[k]? = (more B s).heap[k]? := by
  unfold more
  rw [Array.getElem?_append_right hk, Array.getElem?_append_right (h ▸ hk), h]
theorem obj_under {w0 w1 : World} {O : Obj} (h : More (w0.alloc O) w1) : w1.heap[w0.heap.size]? = some O := by
  obtain ⟨r, rfl⟩ := h
  rw [heap_more _ _ _ (by simp), heap_alloc_new]
theorem cell_swap {A B : World} {s : Rest} {k j : Nat} {cs : Array Value} {e : TypeId} {u : Value} (h : A.heap.size = B.heap.size) (hk : A.heap.size ≤ k) (he : (more A s).heap[k]? = some (.cells cs e (0, 0))) (hu : cs[j]? = some u) :
    (∀ n, (more B (s.draw n)).cell? ⟨k, j, none⟩ = some u) ∧ ∀ n r, (more B ((s.draw n).plus r)).cell? ⟨k, j, none⟩ = some u := by
  rw [more_swap h hk] at he
  have h1 : (more B s).cell? ⟨k, j, none⟩ = some u := by simp [World.cell?, he, hu]
  refine ⟨fun n => h1, fun n r => ?_⟩
  have h2 : (more B (s.draw n)).cell? ⟨k, j, none⟩ = some u := h1
  rw [← more_more, cell_more _ _ _ _ (World.block_lt_of_cell? _ _ h2)]
  exact h2
theorem sfs_swap {A B : World} {r : Rest} {v : Value} {l : List Sf} (h : A.heap.size = B.heap.size) (hs : Sfs (more A r) v l) (hn : NewV A v) : Sfs (more B r) v l := by
  rcases hs with h1 | ⟨g, o, c, hv, hcap, hc⟩
  · exact .inl h1
  · refine .inr ⟨g, o, c, hv, hcap, fun k a hk j u hu => ?_⟩
    have h1 := hc k a hk j u hu
    have hg := hn g o _ c hv
    have h2 : (more B r).cell? ⟨g, o + (k * 23 + j), none⟩ = (more A r).cell? ⟨g, o + (k * 23 + j), none⟩ := by
      unfold World.cell?
      rw [more_swap h hg]
    rw [h2]
    exact h1
theorem NewV.less {A B : World} {v : Value} (h : NewV B v) (hle : A.heap.size ≤ B.heap.size) : NewV A v := fun g o n c hv => Nat.le_trans hle (h g o n c hv)
/-- Behind an append a block that is younger than the row is as it was. -/
theorem wpList_append_keep {P : Program} {W2 w1 : World} {ops : Array Oper} {rest : List Oper} {o : Oper} {a : Act} {Q : Exit → Act → World → Prop}
    (w0 : World) (m : Nat) (ob : Obj)
    (hg : o.guard = none) (sl x : Operand) (t : TypeId) (hop : o.op = Op.call { callee := Callee.builtin Builtin.append, args := #[sl, x], argTypes := #[t, t] })
    (e : TypeId) (i : TypeInfo) (z : Value) (size bytes : Nat) (h1 : P.underlying t = some (.slice e)) (h2 : P.info? e = some i) (h3 : i.zero = some z) (h4 : i.size = size) (h5 : i.bytes = bytes) (h6 : z.cells.size = size) (h7 : 0 < size)
    (v : Value) (n : Nat) (xs : List Value) (base : Nat) (hb : base = W2.heap.size) (hs : a.eval sl = v) (hown : OwnW W2 w0 base e size v n xs) (hle : More w0 w1) (hm0 : w0.heap.size ≤ m) (hm : w1.heap[m]? = some ob)
    (news : List Value) (c b : Nat) (hx : a.eval x = .slice (some ⟨b, 0, none⟩) 1 c) (hbx : b = w1.heap.size) (hn : news.length = size) (h1c : ∀ u ∈ news, u.oneCell' = true)
    (b1 : n + 1 ≤ maxLen) (b2 : (n + 1) * bytes ≤ 140737488355328)
    (hK : ∀ v' w', OwnW W2 w' base e size v' (n + 1) (xs ++ news) → w'.heap[m]? = some ob → wpList P ops Q rest (a.put o.dst v') w') :
    wpList P ops Q (o :: rest) a (w1.alloc (.cells news.toArray e)) := by
  obtain ⟨s0, rfl, h0⟩ := hown
  obtain ⟨r, rfl⟩ := hle
  rw [more_more] at hm hbx ⊢
  have h0' := h0
  have h := h0.plus (r := r)
  subst hb hbx
  have hw0 := h0' W2 rfl
  have hw := h W2 rfl
  have hlt := (Array.getElem?_eq_some_iff.1 hm).1
  refine wpList_append_row _ hg sl x t hop W2.heap.size e i z size bytes h1 h2 h3 h4 h5 h6 h7 v n xs hs (owns_alloc hw) ⟨_, 0, none⟩ 1 c news hx (by rw [hn, Nat.one_mul]) (new_row news (by simp)) h1c (by decide) b1 b2 (by simp; omega) ?_
  intro v' w' ho hgr _
  have hbl : Below W2.heap.size W2 w' := by
    have h9 : Below W2.heap.size W2 (more W2 (s0.plus r)) := (More.more (More.refl W2) (s0.plus r)).below
    exact (h9.alloc (by simp) _).grown hgr (by simp; omega) (fun g hg => (hw.lt g hg).1)
  have hkeep : w'.heap[m]? = some ob := by
    rw [hgr.block m (by simp at hlt ⊢; omega) (fun he => by have := (hw0.lt m he.symm).2; omega), Below.heap_alloc _ _ _ hlt]
    exact hm
  obtain ⟨s', rfl⟩ := more_of_below hbl
  exact hK v' _ ⟨s', rfl, OwnS.of rfl ho⟩ hkeep
theorem heap_at {w1 : World} {m : Nat} {O : Obj} (w0 : World) (h : More (w0.alloc O) w1) (hm : m = w0.heap.size) : w1.heap[m]? = some O := hm ▸ obj_under h
end Go.Proofs.YtekhhekkepijoaaGreatDoor
