/-
  A block holds a face; a ray; a place: its cells, its loads.
  Where a ray meets a face: package hit's own calls, but for what it solves.
  Where a ray meets a bent face: what is solved.
  Where a ray meets a bent face: hit.bent.
  Two blocks of two types that a statement lays and fills.
-/
import Derived.Test.YtggohceeeggnmaaGx5
import Derived.Test.YtggohceeeggnmaaGq5
import Derived.Test.YtggohceeeggnmaaGr5
import Derived.Test.YtggohceeeggnmaaReg8
import Derived.Deep.RegionLaw
import Derived.Deep.Cut
import Derived.Test.YtggohceeeggnmaaQuad
import Derived.Test.YtggohceeeggnmaaHitMath
import Derived.Test.YtggohceeeggnmaaNewton

namespace Go.Proofs.Ytggohceeeggnmaa
set_option linter.unusedVariables false
open Go.ChangeShapes Go.WideShapes Go.ChangeAt Go.RowKit

def cellsP (p : Pl) : List Value := [.int .i64 p.x.lo, .int .i64 p.x.hi, .bool p.x.no, .int .i64 p.y.lo, .int .i64 p.y.hi, .bool p.y.no, .int .i64 p.z.lo, .int .i64 p.z.hi, .bool p.z.no]
def cellsR (r : Wy) : List Value := [.int .i64 r.o.x.lo, .int .i64 r.o.x.hi, .bool r.o.x.no, .int .i64 r.o.y.lo, .int .i64 r.o.y.hi, .bool r.o.y.no, .int .i64 r.o.z.lo, .int .i64 r.o.z.hi, .bool r.o.z.no, .int .i64 r.d.x.lo, .int .i64 r.d.x.hi, .bool r.d.x.no, .int .i64 r.d.y.lo, .int .i64 r.d.y.hi, .bool r.d.y.no, .int .i64 r.d.z.lo, .int .i64 r.d.z.hi, .bool r.d.z.no]
/-- A block holds a face; a ray; a place. -/
def OkSfAt (w : World) (b : Nat) (s : Sf) : Prop := w.heap[b]? = some (.cells (cellsS s).toArray 25 (0, 0))
def OkWyAt (w : World) (b : Nat) (r : Wy) : Prop := w.heap[b]? = some (.cells (cellsR r).toArray 56 (0, 0))
def OkPlAt (w : World) (b : Nat) (p : Pl) : Prop := w.heap[b]? = some (.cells (cellsP p).toArray 30 (0, 0))
theorem OkSfAt.up {w w' : World} {b : Nat} {s : Sf} (h : OkSfAt w b s) (hM : More w w') : OkSfAt w' b s := heap_up hM h
theorem OkWyAt.up {w w' : World} {b : Nat} {s : Wy} (h : OkWyAt w b s) (hM : More w w') : OkWyAt w' b s := heap_up hM h
theorem OkPlAt.up {w w' : World} {b : Nat} {s : Pl} (h : OkPlAt w b s) (hM : More w w') : OkPlAt w' b s := heap_up hM h
theorem heap_cell {w : World} {b j : Nat} {cs : Array Value} {T : TypeId} {v : Value} (h : w.heap[b]? = some (.cells cs T (0, 0))) (hj : cs[j]? = some v) : w.cell? ⟨b, j, none⟩ = some v := by simp [World.cell?, h, hj]
theorem new_pl : NewRun Try.prog 30 #[.int .i64 0, .int .i64 0, .bool false, .int .i64 0, .int .i64 0, .bool false, .int .i64 0, .int .i64 0, .bool false] := fun w => by go_simp
theorem one_pl (p : Pl) : ∀ v ∈ cellsP p, v.oneCell' = true := by simp [cellsP, Value.oneCell']

theorem sfat_cells {w : World} {b : Nat} {s : Sf} (h : OkSfAt w b s) : b < w.heap.size ∧ w.cell? ⟨b, 1, none⟩ = some (.bool s.bent) ∧
    (w.cell? ⟨b, 2, none⟩ = some (.int .i64 s.curve.lo) ∧ w.cell? ⟨b, 3, none⟩ = some (.int .i64 s.curve.hi) ∧ w.cell? ⟨b, 4, none⟩ = some (.bool s.curve.no)) ∧
    (w.cell? ⟨b, 5, none⟩ = some (.int .i64 s.conic.lo) ∧ w.cell? ⟨b, 6, none⟩ = some (.int .i64 s.conic.hi) ∧ w.cell? ⟨b, 7, none⟩ = some (.bool s.conic.no)) ∧
    (w.cell? ⟨b, 14, none⟩ = some (.int .i64 s.place.lo) ∧ w.cell? ⟨b, 15, none⟩ = some (.int .i64 s.place.hi) ∧ w.cell? ⟨b, 16, none⟩ = some (.bool s.place.no)) :=
  ⟨(Array.getElem?_eq_some_iff.1 h).1, heap_cell h rfl, ⟨heap_cell h rfl, heap_cell h rfl, heap_cell h rfl⟩, ⟨heap_cell h rfl, heap_cell h rfl, heap_cell h rfl⟩, heap_cell h rfl, heap_cell h rfl, heap_cell h rfl⟩
theorem plat_cells {w : World} {b : Nat} {p : Pl} (h : OkPlAt w b p) : b < w.heap.size ∧
    (w.cell? ⟨b, 0, none⟩ = some (.int .i64 p.x.lo) ∧ w.cell? ⟨b, 1, none⟩ = some (.int .i64 p.x.hi) ∧ w.cell? ⟨b, 2, none⟩ = some (.bool p.x.no)) ∧
    (w.cell? ⟨b, 3, none⟩ = some (.int .i64 p.y.lo) ∧ w.cell? ⟨b, 4, none⟩ = some (.int .i64 p.y.hi) ∧ w.cell? ⟨b, 5, none⟩ = some (.bool p.y.no)) ∧
    (w.cell? ⟨b, 6, none⟩ = some (.int .i64 p.z.lo) ∧ w.cell? ⟨b, 7, none⟩ = some (.int .i64 p.z.hi) ∧ w.cell? ⟨b, 8, none⟩ = some (.bool p.z.no)) :=
  ⟨(Array.getElem?_eq_some_iff.1 h).1, ⟨heap_cell h rfl, heap_cell h rfl, heap_cell h rfl⟩, ⟨heap_cell h rfl, heap_cell h rfl, heap_cell h rfl⟩, heap_cell h rfl, heap_cell h rfl, heap_cell h rfl⟩
theorem wyat_cells {w : World} {b : Nat} {r : Wy} (h : OkWyAt w b r) : b < w.heap.size ∧
    ((w.cell? ⟨b, 0, none⟩ = some (.int .i64 r.o.x.lo) ∧ w.cell? ⟨b, 1, none⟩ = some (.int .i64 r.o.x.hi) ∧ w.cell? ⟨b, 2, none⟩ = some (.bool r.o.x.no)) ∧
    (w.cell? ⟨b, 3, none⟩ = some (.int .i64 r.o.y.lo) ∧ w.cell? ⟨b, 4, none⟩ = some (.int .i64 r.o.y.hi) ∧ w.cell? ⟨b, 5, none⟩ = some (.bool r.o.y.no)) ∧
    (w.cell? ⟨b, 6, none⟩ = some (.int .i64 r.o.z.lo) ∧ w.cell? ⟨b, 7, none⟩ = some (.int .i64 r.o.z.hi) ∧ w.cell? ⟨b, 8, none⟩ = some (.bool r.o.z.no))) ∧
    (w.cell? ⟨b, 9, none⟩ = some (.int .i64 r.d.x.lo) ∧ w.cell? ⟨b, 10, none⟩ = some (.int .i64 r.d.x.hi) ∧ w.cell? ⟨b, 11, none⟩ = some (.bool r.d.x.no)) ∧
    (w.cell? ⟨b, 12, none⟩ = some (.int .i64 r.d.y.lo) ∧ w.cell? ⟨b, 13, none⟩ = some (.int .i64 r.d.y.hi) ∧ w.cell? ⟨b, 14, none⟩ = some (.bool r.d.y.no)) ∧
    (w.cell? ⟨b, 15, none⟩ = some (.int .i64 r.d.z.lo) ∧ w.cell? ⟨b, 16, none⟩ = some (.int .i64 r.d.z.hi) ∧ w.cell? ⟨b, 17, none⟩ = some (.bool r.d.z.no)) :=
  ⟨(Array.getElem?_eq_some_iff.1 h).1, ⟨⟨heap_cell h rfl, heap_cell h rfl, heap_cell h rfl⟩, ⟨heap_cell h rfl, heap_cell h rfl, heap_cell h rfl⟩, heap_cell h rfl, heap_cell h rfl, heap_cell h rfl⟩, ⟨heap_cell h rfl, heap_cell h rfl, heap_cell h rfl⟩, ⟨heap_cell h rfl, heap_cell h rfl, heap_cell h rfl⟩, heap_cell h rfl, heap_cell h rfl, heap_cell h rfl⟩
theorem agg_ivT (w : World) : (isAgg 23).run Try.prog w = .ok true w := by kernel_rfl
theorem load_iv_obj {w : World} {b : Nat} {x1 x2 : Int} {x3 : Bool} (h : w.heap[b]? = some (.cells #[.int .i64 x1, .int .i64 x2, .bool x3] 23 (0, 0))) : (loadVar 23 ⟨b, 0, none⟩).run Try.prog w = .ok (ivV ⟨x1, x2, x3⟩) w := by
  have hc : World.cellsIn w b = 3 := by unfold World.cellsIn; rw [h]; rfl
  show (loadWhole 23 ⟨b, 0, none⟩).run Try.prog w = _
  rw [run_loadWhole (agg_ivT w) (size_ivT w) (by decide) hc]
  unfold World.cellsOf
  rw [h]
theorem results_two {P : Program} {fn : Func} {tmps : Array Value} {w : World} {k j : Nat} {T U : TypeId} {b c : Addr} {v u : Value} (h1 : fn.results = #[.cell k T, .cell j U]) (h2 : tmps.getD k undef = .pointer (some b)) (h3 : (loadVar T b).run P w = .ok v w)
    (h4 : tmps.getD j undef = .pointer (some c)) (h5 : (loadVar U c).run P w = .ok u w) : (results fn tmps).run P w = .ok (.tuple #[v, u]) w := by
  unfold results
  rw [h1]
  have h6 : tmps[k]?.getD undef = .pointer (some b) := by simpa using h2
  have h7 : tmps[j]?.getD undef = .pointer (some c) := by simpa using h4
  simp [h6, h7, h3, h5, asAddr]
theorem lc_upV {w W : World} (h : More w W) {b o : Nat} {v : Value} (hc : w.cell? ⟨b, o, none⟩ = some v) : W.cell? ⟨b, o, none⟩ = some v := by
  obtain ⟨r, rfl⟩ := h
  rw [cell_more _ _ _ _ (World.block_lt_of_cell? w _ hc)]
  exact hc
theorem one_end {P : Program} {ops : Array Oper} {Q : Exit → Act → World → Prop} {a : Act} {W w : World} {o1 : Oper} {rest : List Oper} (T : TypeId) (n : Nat) (p1 x1 : Operand) (b1 : Nat) (z1 : Array Value) (v1 : List Value)
    (h1 : o1.op = .store T p1 x1) (g1 : o1.guard = none) (d1 : o1.dst = none) (e1 : a.eval p1 = .pointer (some ⟨b1, 0, none⟩)) (y1 : a.eval x1 = .agg v1.toArray)
    (hs : ∀ w, (sizeOf T).run P w = .ok n w) (hn1 : v1.length = n) (h0 : n ≠ 0) (u1 : ∀ v ∈ v1, v.oneCell' = true)
    (hM : More W w) (hb1 : W.heap.size ≤ b1) (hc1 : w.heap[b1]? = some (.cells z1 T (0, 0))) (hz1 : z1.size = n)
    (hK : ∀ wx, More W wx → wx.heap[b1]? = some (.cells v1.toArray T (0, 0)) → wpList P ops Q rest a wx) : wpList P ops Q (o1 :: rest) a w := by
  refine wpList_store_new T p1 x1 n b1 z1 v1 h1 g1 d1 e1 y1 (hs _) hn1 h0 u1 hc1 hz1 ?_
  exact hK _ (more_setRow hM hb1) (heap_setRow hc1)
end Go.Proofs.Ytggohceeeggnmaa

namespace Go.Proofs.Ytggohceeeggnmaa
set_option linter.unusedVariables false
open Go.ChangeShapes Go.WideShapes Go.ChangeAt Go.RowKit

set_option maxHeartbeats 4000000 in
theorem curved_c (W : World) {s : Sf} (x : Iv) (y : Iv) (z : Iv) (bp : Blk) (h : OkSfAt W bp s) :
    Calls Try.prog 102 #[ivV x, ivV y, ivV z, .pointer (some ⟨bp, 0, none⟩)] W fun e w' => e = .returned (ivV (hitV s x y z)) ∧ More W w' := by
  obtain ⟨sa, sb, ⟨c1, c2, c3⟩, ⟨k1, k2, k3⟩, s1, s2, s3, s4, s5⟩ := s
  obtain ⟨h0, -, ⟨e2, e3, e4⟩, ⟨e5, e6, e7⟩, -⟩ := sfat_cells h
  dsimp only at e2 e3 e4 e5 e6 e7
  clear h
  unfold hitV
  go_enter Try.func102, Try.ntmps102
  go_wp2_with (first | (go_at_call 73; (with_reducible refine (add_c _ _ _).mono ?_); rintro e w' ⟨rfl, r, rfl⟩) | (go_at_call 73; (with_reducible refine (add_c _ ⟨_, _, _⟩ _).mono ?_); rintro e w' ⟨rfl, r, rfl⟩) | (go_at_call 73; (with_reducible refine (add_c ⟨_, _, _⟩ _ _).mono ?_); rintro e w' ⟨rfl, r, rfl⟩) | (go_at_call 73; (with_reducible refine (add_c ⟨_, _, _⟩ ⟨_, _, _⟩ _).mono ?_); rintro e w' ⟨rfl, r, rfl⟩) | (go_at_call 79; (with_reducible refine (mul_iv_c _ _ _).mono ?_); rintro e w' ⟨rfl, r, rfl⟩) | (go_at_call 79; (with_reducible refine (mul_iv_c _ ⟨_, _, _⟩ _).mono ?_); rintro e w' ⟨rfl, r, rfl⟩) | (go_at_call 79; (with_reducible refine (mul_iv_c ⟨_, _, _⟩ _ _).mono ?_); rintro e w' ⟨rfl, r, rfl⟩) | (go_at_call 79; (with_reducible refine (mul_iv_c ⟨_, _, _⟩ ⟨_, _, _⟩ _).mono ?_); rintro e w' ⟨rfl, r, rfl⟩) | ((with_reducible show Code.wp _ (Code.region 1 _ true) _ _ _); (with_reducible refine wp_more_tailq_m (id := 1) 11 ?_ ?_ ?_); kernel_rfl; kernel_rfl; (try simp only [List.take_succ_cons, List.take_zero, List.drop_succ_cons, List.drop_zero]); (repeat (any_goals (first | go_big_quiet_step ((first | (go_at_call 73; (with_reducible apply quiet_call); with_reducible exact add_c _ _ _) | (go_at_call 73; (with_reducible apply quiet_call); with_reducible exact add_c _ ⟨_, _, _⟩ _) | (go_at_call 73; (with_reducible apply quiet_call); with_reducible exact add_c ⟨_, _, _⟩ _ _) | (go_at_call 73; (with_reducible apply quiet_call); with_reducible exact add_c ⟨_, _, _⟩ ⟨_, _, _⟩ _) | (go_at_call 79; (with_reducible apply quiet_call); with_reducible exact mul_iv_c _ _ _) | (go_at_call 79; (with_reducible apply quiet_call); with_reducible exact mul_iv_c _ ⟨_, _, _⟩ _) | (go_at_call 79; (with_reducible apply quiet_call); with_reducible exact mul_iv_c ⟨_, _, _⟩ _ _) | (go_at_call 79; (with_reducible apply quiet_call); with_reducible exact mul_iv_c ⟨_, _, _⟩ ⟨_, _, _⟩ _))) | quiet_step ((first | (go_at_call 73; (with_reducible apply quiet_call); with_reducible exact add_c _ _ _) | (go_at_call 73; (with_reducible apply quiet_call); with_reducible exact add_c _ ⟨_, _, _⟩ _) | (go_at_call 73; (with_reducible apply quiet_call); with_reducible exact add_c ⟨_, _, _⟩ _ _) | (go_at_call 73; (with_reducible apply quiet_call); with_reducible exact add_c ⟨_, _, _⟩ ⟨_, _, _⟩ _) | (go_at_call 79; (with_reducible apply quiet_call); with_reducible exact mul_iv_c _ _ _) | (go_at_call 79; (with_reducible apply quiet_call); with_reducible exact mul_iv_c _ ⟨_, _, _⟩ _) | (go_at_call 79; (with_reducible apply quiet_call); with_reducible exact mul_iv_c ⟨_, _, _⟩ _ _) | (go_at_call 79; (with_reducible apply quiet_call); with_reducible exact mul_iv_c ⟨_, _, _⟩ ⟨_, _, _⟩ _)))))); (with_reducible refine wpQuiet_nil ?_); intro r) | ((with_reducible show Code.wp _ (Code.region 1 _ true) _ _ _); (with_reducible refine wp_more_tailq (id := 1) 11 ?_ ?_ ?_); kernel_rfl; kernel_rfl; (try simp only [List.take_succ_cons, List.take_zero, List.drop_succ_cons, List.drop_zero]); (repeat (any_goals (first | go_big_quiet_step ((first | (go_at_call 73; (with_reducible apply quiet_call); with_reducible exact add_c _ _ _) | (go_at_call 73; (with_reducible apply quiet_call); with_reducible exact add_c _ ⟨_, _, _⟩ _) | (go_at_call 73; (with_reducible apply quiet_call); with_reducible exact add_c ⟨_, _, _⟩ _ _) | (go_at_call 73; (with_reducible apply quiet_call); with_reducible exact add_c ⟨_, _, _⟩ ⟨_, _, _⟩ _) | (go_at_call 79; (with_reducible apply quiet_call); with_reducible exact mul_iv_c _ _ _) | (go_at_call 79; (with_reducible apply quiet_call); with_reducible exact mul_iv_c _ ⟨_, _, _⟩ _) | (go_at_call 79; (with_reducible apply quiet_call); with_reducible exact mul_iv_c ⟨_, _, _⟩ _ _) | (go_at_call 79; (with_reducible apply quiet_call); with_reducible exact mul_iv_c ⟨_, _, _⟩ ⟨_, _, _⟩ _))) | quiet_step ((first | (go_at_call 73; (with_reducible apply quiet_call); with_reducible exact add_c _ _ _) | (go_at_call 73; (with_reducible apply quiet_call); with_reducible exact add_c _ ⟨_, _, _⟩ _) | (go_at_call 73; (with_reducible apply quiet_call); with_reducible exact add_c ⟨_, _, _⟩ _ _) | (go_at_call 73; (with_reducible apply quiet_call); with_reducible exact add_c ⟨_, _, _⟩ ⟨_, _, _⟩ _) | (go_at_call 79; (with_reducible apply quiet_call); with_reducible exact mul_iv_c _ _ _) | (go_at_call 79; (with_reducible apply quiet_call); with_reducible exact mul_iv_c _ ⟨_, _, _⟩ _) | (go_at_call 79; (with_reducible apply quiet_call); with_reducible exact mul_iv_c ⟨_, _, _⟩ _ _) | (go_at_call 79; (with_reducible apply quiet_call); with_reducible exact mul_iv_c ⟨_, _, _⟩ ⟨_, _, _⟩ _)))))); (with_reducible refine wpQuiet_nil ?_); intro r))
  go_returns
  exact ⟨rfl, (by repeat (first | exact More.refl _ | refine More.alloc ?_ _ | refine More.more ?_ _ | refine More.drew ?_ | refine More.drewN ?_ _))⟩

set_option maxHeartbeats 16000000 in
set_option maxRecDepth 100000 in
theorem cone15_c (s : Sf) (r : Wy) (W : World) :
    Calls Try.prog 65 #[sfV s, wyV r] W fun e w' => e = .returned (.tuple #[ivV (hitT0 s r), .int .i64 (hitI0 s r)]) ∧ More W w' := by
  unfold hitT0 hitI0
  obtain ⟨⟨A1, A2, A3⟩, hA⟩ : ∃ d, hitA s r = d := ⟨_, rfl⟩
  obtain ⟨⟨B1, B2, B3⟩, hB⟩ : ∃ d, hitB s r = d := ⟨_, rfl⟩
  obtain ⟨⟨C1, C2, C3⟩, hC⟩ : ∃ d, hitC s r = d := ⟨_, rfl⟩
  rw [hA, hB, hC]
  unfold hitA at hA
  unfold hitB at hB
  unfold hitC at hC
  obtain ⟨⟨⟨x1, x2, x3⟩, ⟨y1, y2, y3⟩, ⟨z1, z2, z3⟩⟩, ⟨⟨v1, v2, v3⟩, ⟨w1, w2, w3⟩, ⟨n1, n2, n3⟩⟩⟩ := r
  dsimp only at hA hB hC
  have EN : ∀ args w, (callFunc 102 args).run Try.prog w = .ok (.enter 102 args) w := enters_of Try.func102 (by kernel_rfl) rfl
  go_enter Try.func65, Try.ntmps65
  go_upto_region 1 with fail
  go_region
  all_goals
    have hs : ∀ W1, More (W.alloc (.cells #[.bool s.stop, .bool s.bent, .int .i64 s.curve.lo, .int .i64 s.curve.hi, .bool s.curve.no, .int .i64 s.conic.lo, .int .i64 s.conic.hi, .bool s.conic.no, .int .i64 s.a4.lo, .int .i64 s.a4.hi, .bool s.a4.no, .int .i64 s.a6.lo, .int .i64 s.a6.hi, .bool s.a6.no, .int .i64 s.place.lo, .int .i64 s.place.hi, .bool s.place.no, .int .i64 s.open2.lo, .int .i64 s.open2.hi, .bool s.open2.no, .int .i64 s.ratio.lo, .int .i64 s.ratio.hi, .bool s.ratio.no] 25)) W1 → OkSfAt W1 W.heap.size s := fun W1 hM => obj_under hM
    have HS := Lib.hid hs
    clear hs
    go_wp2_with (first | (first | (go_at_call 62; (with_reducible refine (sqr_c _ _).mono ?_); rintro e w' ⟨rfl, r, rfl⟩) | (go_at_call 62; (with_reducible refine (sqr_c ⟨_, _, _⟩ _).mono ?_); rintro e w' ⟨rfl, r, rfl⟩) | (go_at_call 64; (with_reducible refine (sub_c _ _ _).mono ?_); rintro e w' ⟨rfl, r, rfl⟩) | (go_at_call 64; (with_reducible refine (sub_c _ ⟨_, _, _⟩ _).mono ?_); rintro e w' ⟨rfl, r, rfl⟩) | (go_at_call 64; (with_reducible refine (sub_c ⟨_, _, _⟩ _ _).mono ?_); rintro e w' ⟨rfl, r, rfl⟩) | (go_at_call 64; (with_reducible refine (sub_c ⟨_, _, _⟩ ⟨_, _, _⟩ _).mono ?_); rintro e w' ⟨rfl, r, rfl⟩) | (go_at_call 78; (with_reducible refine (times_c _ _ _).mono ?_); rintro e w' ⟨rfl, r, rfl⟩) | (go_at_call 78; (with_reducible refine (times_c ⟨_, _, _⟩ _ _).mono ?_); rintro e w' ⟨rfl, r, rfl⟩) | (go_at_call 79; (with_reducible refine (mul_iv_c _ _ _).mono ?_); rintro e w' ⟨rfl, r, rfl⟩) | (go_at_call 79; (with_reducible refine (mul_iv_c _ ⟨_, _, _⟩ _).mono ?_); rintro e w' ⟨rfl, r, rfl⟩) | (go_at_call 79; (with_reducible refine (mul_iv_c ⟨_, _, _⟩ _ _).mono ?_); rintro e w' ⟨rfl, r, rfl⟩) | (go_at_call 79; (with_reducible refine (mul_iv_c ⟨_, _, _⟩ ⟨_, _, _⟩ _).mono ?_); rintro e w' ⟨rfl, r, rfl⟩) | (go_at_call 103; (with_reducible refine (near_c _ _ _ _).mono ?_); rintro e w' ⟨rfl, r, rfl⟩) | (go_at_call 103; (with_reducible refine (near_c ⟨_, _, _⟩ ⟨_, _, _⟩ ⟨_, _, _⟩ _).mono ?_); rintro e w' ⟨rfl, r, rfl⟩) | ((with_reducible show Code.wp _ (Code.region 3 _ true) _ _ _); (with_reducible apply wp_more_heap_m (id := 3) 12 11 9); kernel_rfl; kernel_rfl; rfl; decide; rfl; (intro _ _; go_simp; rfl); intro x; (try simp only [List.append_eq, List.cons_append, List.nil_append]); (simp only [List.take_succ_cons, List.take_zero, List.drop_succ_cons, List.drop_zero, skipAt, Nat.reduceAdd, Nat.reduceEqDiff, reduceIte, Nat.zero_add]); (repeat (any_goals (first | go_big_quiet_step ((first | (go_at_fn 102; (with_reducible apply quiet_up); (first | with_reducible exact curved_c _ _ _ _ _ (HS.out _ (by repeat (first | exact More.refl _ | refine More.alloc ?_ _ | refine More.more ?_ _ | refine More.drew ?_ | refine More.drewN ?_ _))) | with_reducible exact curved_c _ ⟨_, _, _⟩ ⟨_, _, _⟩ ⟨_, _, _⟩ _ (HS.out _ (by repeat (first | exact More.refl _ | refine More.alloc ?_ _ | refine More.more ?_ _ | refine More.drew ?_ | refine More.drewN ?_ _))))) | (go_at_call 62; (with_reducible apply quiet_up); with_reducible exact sqr_c _ _) | (go_at_call 62; (with_reducible apply quiet_up); with_reducible exact sqr_c ⟨_, _, _⟩ _))) | quiet_step ((first | (go_at_fn 102; (with_reducible apply quiet_up); (first | with_reducible exact curved_c _ _ _ _ _ (HS.out _ (by repeat (first | exact More.refl _ | refine More.alloc ?_ _ | refine More.more ?_ _ | refine More.drew ?_ | refine More.drewN ?_ _))) | with_reducible exact curved_c _ ⟨_, _, _⟩ ⟨_, _, _⟩ ⟨_, _, _⟩ _ (HS.out _ (by repeat (first | exact More.refl _ | refine More.alloc ?_ _ | refine More.more ?_ _ | refine More.drew ?_ | refine More.drewN ?_ _))))) | (go_at_call 62; (with_reducible apply quiet_up); with_reducible exact sqr_c _ _) | (go_at_call 62; (with_reducible apply quiet_up); with_reducible exact sqr_c ⟨_, _, _⟩ _)))))); (with_reducible refine wpQuiet_nil ?_); intro r1 r2) | ((with_reducible show Code.wp _ (Code.region 3 _ true) _ _ _); (with_reducible apply wp_more_heap (id := 3) 12 11 9); kernel_rfl; kernel_rfl; rfl; decide; rfl; (intro _ _; go_simp; rfl); intro x; (try simp only [List.append_eq, List.cons_append, List.nil_append]); (simp only [List.take_succ_cons, List.take_zero, List.drop_succ_cons, List.drop_zero, skipAt, Nat.reduceAdd, Nat.reduceEqDiff, reduceIte, Nat.zero_add]); (repeat (any_goals (first | go_big_quiet_step ((first | (go_at_fn 102; (with_reducible apply quiet_up); (first | with_reducible exact curved_c _ _ _ _ _ (HS.out _ (by repeat (first | exact More.refl _ | refine More.alloc ?_ _ | refine More.more ?_ _ | refine More.drew ?_ | refine More.drewN ?_ _))) | with_reducible exact curved_c _ ⟨_, _, _⟩ ⟨_, _, _⟩ ⟨_, _, _⟩ _ (HS.out _ (by repeat (first | exact More.refl _ | refine More.alloc ?_ _ | refine More.more ?_ _ | refine More.drew ?_ | refine More.drewN ?_ _))))) | (go_at_call 62; (with_reducible apply quiet_up); with_reducible exact sqr_c _ _) | (go_at_call 62; (with_reducible apply quiet_up); with_reducible exact sqr_c ⟨_, _, _⟩ _))) | quiet_step ((first | (go_at_fn 102; (with_reducible apply quiet_up); (first | with_reducible exact curved_c _ _ _ _ _ (HS.out _ (by repeat (first | exact More.refl _ | refine More.alloc ?_ _ | refine More.more ?_ _ | refine More.drew ?_ | refine More.drewN ?_ _))) | with_reducible exact curved_c _ ⟨_, _, _⟩ ⟨_, _, _⟩ ⟨_, _, _⟩ _ (HS.out _ (by repeat (first | exact More.refl _ | refine More.alloc ?_ _ | refine More.more ?_ _ | refine More.drew ?_ | refine More.drewN ?_ _))))) | (go_at_call 62; (with_reducible apply quiet_up); with_reducible exact sqr_c _ _) | (go_at_call 62; (with_reducible apply quiet_up); with_reducible exact sqr_c ⟨_, _, _⟩ _)))))); (with_reducible refine wpQuiet_nil ?_); intro r1 r2) | ((with_reducible show Code.wp _ (Code.region 4 _ true) _ _ _); (with_reducible apply wp_more_heap_m (id := 4) 21 20 10); kernel_rfl; kernel_rfl; rfl; decide; rfl; (intro _ _; go_simp; rfl); intro x; (try simp only [List.append_eq, List.cons_append, List.nil_append]); (simp only [List.take_succ_cons, List.take_zero, List.drop_succ_cons, List.drop_zero, skipAt, Nat.reduceAdd, Nat.reduceEqDiff, reduceIte, Nat.zero_add]); (repeat (any_goals (first | go_big_quiet_step ((first | (go_at_fn 102; (with_reducible apply quiet_up); (first | with_reducible exact curved_c _ _ _ _ _ (HS.out _ (by repeat (first | exact More.refl _ | refine More.alloc ?_ _ | refine More.more ?_ _ | refine More.drew ?_ | refine More.drewN ?_ _))) | with_reducible exact curved_c _ ⟨_, _, _⟩ ⟨_, _, _⟩ ⟨_, _, _⟩ _ (HS.out _ (by repeat (first | exact More.refl _ | refine More.alloc ?_ _ | refine More.more ?_ _ | refine More.drew ?_ | refine More.drewN ?_ _))))) | (go_at_call 64; (with_reducible apply quiet_up); with_reducible exact sub_c _ _ _) | (go_at_call 64; (with_reducible apply quiet_up); with_reducible exact sub_c _ ⟨_, _, _⟩ _) | (go_at_call 64; (with_reducible apply quiet_up); with_reducible exact sub_c ⟨_, _, _⟩ _ _) | (go_at_call 64; (with_reducible apply quiet_up); with_reducible exact sub_c ⟨_, _, _⟩ ⟨_, _, _⟩ _) | (go_at_call 79; (with_reducible apply quiet_up); with_reducible exact mul_iv_c _ _ _) | (go_at_call 79; (with_reducible apply quiet_up); with_reducible exact mul_iv_c _ ⟨_, _, _⟩ _) | (go_at_call 79; (with_reducible apply quiet_up); with_reducible exact mul_iv_c ⟨_, _, _⟩ _ _) | (go_at_call 79; (with_reducible apply quiet_up); with_reducible exact mul_iv_c ⟨_, _, _⟩ ⟨_, _, _⟩ _))) | quiet_step ((first | (go_at_fn 102; (with_reducible apply quiet_up); (first | with_reducible exact curved_c _ _ _ _ _ (HS.out _ (by repeat (first | exact More.refl _ | refine More.alloc ?_ _ | refine More.more ?_ _ | refine More.drew ?_ | refine More.drewN ?_ _))) | with_reducible exact curved_c _ ⟨_, _, _⟩ ⟨_, _, _⟩ ⟨_, _, _⟩ _ (HS.out _ (by repeat (first | exact More.refl _ | refine More.alloc ?_ _ | refine More.more ?_ _ | refine More.drew ?_ | refine More.drewN ?_ _))))) | (go_at_call 64; (with_reducible apply quiet_up); with_reducible exact sub_c _ _ _) | (go_at_call 64; (with_reducible apply quiet_up); with_reducible exact sub_c _ ⟨_, _, _⟩ _) | (go_at_call 64; (with_reducible apply quiet_up); with_reducible exact sub_c ⟨_, _, _⟩ _ _) | (go_at_call 64; (with_reducible apply quiet_up); with_reducible exact sub_c ⟨_, _, _⟩ ⟨_, _, _⟩ _) | (go_at_call 79; (with_reducible apply quiet_up); with_reducible exact mul_iv_c _ _ _) | (go_at_call 79; (with_reducible apply quiet_up); with_reducible exact mul_iv_c _ ⟨_, _, _⟩ _) | (go_at_call 79; (with_reducible apply quiet_up); with_reducible exact mul_iv_c ⟨_, _, _⟩ _ _) | (go_at_call 79; (with_reducible apply quiet_up); with_reducible exact mul_iv_c ⟨_, _, _⟩ ⟨_, _, _⟩ _)))))); (with_reducible refine wpQuiet_nil ?_); intro r1 r2) | ((with_reducible show Code.wp _ (Code.region 4 _ true) _ _ _); (with_reducible apply wp_more_heap (id := 4) 21 20 10); kernel_rfl; kernel_rfl; rfl; decide; rfl; (intro _ _; go_simp; rfl); intro x; (try simp only [List.append_eq, List.cons_append, List.nil_append]); (simp only [List.take_succ_cons, List.take_zero, List.drop_succ_cons, List.drop_zero, skipAt, Nat.reduceAdd, Nat.reduceEqDiff, reduceIte, Nat.zero_add]); (repeat (any_goals (first | go_big_quiet_step ((first | (go_at_fn 102; (with_reducible apply quiet_up); (first | with_reducible exact curved_c _ _ _ _ _ (HS.out _ (by repeat (first | exact More.refl _ | refine More.alloc ?_ _ | refine More.more ?_ _ | refine More.drew ?_ | refine More.drewN ?_ _))) | with_reducible exact curved_c _ ⟨_, _, _⟩ ⟨_, _, _⟩ ⟨_, _, _⟩ _ (HS.out _ (by repeat (first | exact More.refl _ | refine More.alloc ?_ _ | refine More.more ?_ _ | refine More.drew ?_ | refine More.drewN ?_ _))))) | (go_at_call 64; (with_reducible apply quiet_up); with_reducible exact sub_c _ _ _) | (go_at_call 64; (with_reducible apply quiet_up); with_reducible exact sub_c _ ⟨_, _, _⟩ _) | (go_at_call 64; (with_reducible apply quiet_up); with_reducible exact sub_c ⟨_, _, _⟩ _ _) | (go_at_call 64; (with_reducible apply quiet_up); with_reducible exact sub_c ⟨_, _, _⟩ ⟨_, _, _⟩ _) | (go_at_call 79; (with_reducible apply quiet_up); with_reducible exact mul_iv_c _ _ _) | (go_at_call 79; (with_reducible apply quiet_up); with_reducible exact mul_iv_c _ ⟨_, _, _⟩ _) | (go_at_call 79; (with_reducible apply quiet_up); with_reducible exact mul_iv_c ⟨_, _, _⟩ _ _) | (go_at_call 79; (with_reducible apply quiet_up); with_reducible exact mul_iv_c ⟨_, _, _⟩ ⟨_, _, _⟩ _))) | quiet_step ((first | (go_at_fn 102; (with_reducible apply quiet_up); (first | with_reducible exact curved_c _ _ _ _ _ (HS.out _ (by repeat (first | exact More.refl _ | refine More.alloc ?_ _ | refine More.more ?_ _ | refine More.drew ?_ | refine More.drewN ?_ _))) | with_reducible exact curved_c _ ⟨_, _, _⟩ ⟨_, _, _⟩ ⟨_, _, _⟩ _ (HS.out _ (by repeat (first | exact More.refl _ | refine More.alloc ?_ _ | refine More.more ?_ _ | refine More.drew ?_ | refine More.drewN ?_ _))))) | (go_at_call 64; (with_reducible apply quiet_up); with_reducible exact sub_c _ _ _) | (go_at_call 64; (with_reducible apply quiet_up); with_reducible exact sub_c _ ⟨_, _, _⟩ _) | (go_at_call 64; (with_reducible apply quiet_up); with_reducible exact sub_c ⟨_, _, _⟩ _ _) | (go_at_call 64; (with_reducible apply quiet_up); with_reducible exact sub_c ⟨_, _, _⟩ ⟨_, _, _⟩ _) | (go_at_call 79; (with_reducible apply quiet_up); with_reducible exact mul_iv_c _ _ _) | (go_at_call 79; (with_reducible apply quiet_up); with_reducible exact mul_iv_c _ ⟨_, _, _⟩ _) | (go_at_call 79; (with_reducible apply quiet_up); with_reducible exact mul_iv_c ⟨_, _, _⟩ _ _) | (go_at_call 79; (with_reducible apply quiet_up); with_reducible exact mul_iv_c ⟨_, _, _⟩ ⟨_, _, _⟩ _)))))); (with_reducible refine wpQuiet_nil ?_); intro r1 r2) | ((with_reducible show Code.wp _ (Code.region 5 _ true) _ _ _); (with_reducible apply wp_more_heap_m (id := 5) 16 15 11); kernel_rfl; kernel_rfl; rfl; decide; rfl; (intro _ _; go_simp; rfl); intro x; (try simp only [List.append_eq, List.cons_append, List.nil_append]); (simp only [List.take_succ_cons, List.take_zero, List.drop_succ_cons, List.drop_zero, skipAt, Nat.reduceAdd, Nat.reduceEqDiff, reduceIte, Nat.zero_add]); (repeat (any_goals (first | go_big_quiet_step ((first | (go_at_fn 102; (with_reducible apply quiet_up); (first | with_reducible exact curved_c _ _ _ _ _ (HS.out _ (by repeat (first | exact More.refl _ | refine More.alloc ?_ _ | refine More.more ?_ _ | refine More.drew ?_ | refine More.drewN ?_ _))) | with_reducible exact curved_c _ ⟨_, _, _⟩ ⟨_, _, _⟩ ⟨_, _, _⟩ _ (HS.out _ (by repeat (first | exact More.refl _ | refine More.alloc ?_ _ | refine More.more ?_ _ | refine More.drew ?_ | refine More.drewN ?_ _))))) | (go_at_call 62; (with_reducible apply quiet_up); with_reducible exact sqr_c _ _) | (go_at_call 62; (with_reducible apply quiet_up); with_reducible exact sqr_c ⟨_, _, _⟩ _) | (go_at_call 64; (with_reducible apply quiet_up); with_reducible exact sub_c _ _ _) | (go_at_call 64; (with_reducible apply quiet_up); with_reducible exact sub_c _ ⟨_, _, _⟩ _) | (go_at_call 64; (with_reducible apply quiet_up); with_reducible exact sub_c ⟨_, _, _⟩ _ _) | (go_at_call 64; (with_reducible apply quiet_up); with_reducible exact sub_c ⟨_, _, _⟩ ⟨_, _, _⟩ _) | (go_at_call 78; (with_reducible apply quiet_up); with_reducible exact times_c _ _ _) | (go_at_call 78; (with_reducible apply quiet_up); with_reducible exact times_c ⟨_, _, _⟩ _ _))) | quiet_step ((first | (go_at_fn 102; (with_reducible apply quiet_up); (first | with_reducible exact curved_c _ _ _ _ _ (HS.out _ (by repeat (first | exact More.refl _ | refine More.alloc ?_ _ | refine More.more ?_ _ | refine More.drew ?_ | refine More.drewN ?_ _))) | with_reducible exact curved_c _ ⟨_, _, _⟩ ⟨_, _, _⟩ ⟨_, _, _⟩ _ (HS.out _ (by repeat (first | exact More.refl _ | refine More.alloc ?_ _ | refine More.more ?_ _ | refine More.drew ?_ | refine More.drewN ?_ _))))) | (go_at_call 62; (with_reducible apply quiet_up); with_reducible exact sqr_c _ _) | (go_at_call 62; (with_reducible apply quiet_up); with_reducible exact sqr_c ⟨_, _, _⟩ _) | (go_at_call 64; (with_reducible apply quiet_up); with_reducible exact sub_c _ _ _) | (go_at_call 64; (with_reducible apply quiet_up); with_reducible exact sub_c _ ⟨_, _, _⟩ _) | (go_at_call 64; (with_reducible apply quiet_up); with_reducible exact sub_c ⟨_, _, _⟩ _ _) | (go_at_call 64; (with_reducible apply quiet_up); with_reducible exact sub_c ⟨_, _, _⟩ ⟨_, _, _⟩ _) | (go_at_call 78; (with_reducible apply quiet_up); with_reducible exact times_c _ _ _) | (go_at_call 78; (with_reducible apply quiet_up); with_reducible exact times_c ⟨_, _, _⟩ _ _)))))); (with_reducible refine wpQuiet_nil ?_); intro r1 r2) | ((with_reducible show Code.wp _ (Code.region 5 _ true) _ _ _); (with_reducible apply wp_more_heap (id := 5) 16 15 11); kernel_rfl; kernel_rfl; rfl; decide; rfl; (intro _ _; go_simp; rfl); intro x; (try simp only [List.append_eq, List.cons_append, List.nil_append]); (simp only [List.take_succ_cons, List.take_zero, List.drop_succ_cons, List.drop_zero, skipAt, Nat.reduceAdd, Nat.reduceEqDiff, reduceIte, Nat.zero_add]); (repeat (any_goals (first | go_big_quiet_step ((first | (go_at_fn 102; (with_reducible apply quiet_up); (first | with_reducible exact curved_c _ _ _ _ _ (HS.out _ (by repeat (first | exact More.refl _ | refine More.alloc ?_ _ | refine More.more ?_ _ | refine More.drew ?_ | refine More.drewN ?_ _))) | with_reducible exact curved_c _ ⟨_, _, _⟩ ⟨_, _, _⟩ ⟨_, _, _⟩ _ (HS.out _ (by repeat (first | exact More.refl _ | refine More.alloc ?_ _ | refine More.more ?_ _ | refine More.drew ?_ | refine More.drewN ?_ _))))) | (go_at_call 62; (with_reducible apply quiet_up); with_reducible exact sqr_c _ _) | (go_at_call 62; (with_reducible apply quiet_up); with_reducible exact sqr_c ⟨_, _, _⟩ _) | (go_at_call 64; (with_reducible apply quiet_up); with_reducible exact sub_c _ _ _) | (go_at_call 64; (with_reducible apply quiet_up); with_reducible exact sub_c _ ⟨_, _, _⟩ _) | (go_at_call 64; (with_reducible apply quiet_up); with_reducible exact sub_c ⟨_, _, _⟩ _ _) | (go_at_call 64; (with_reducible apply quiet_up); with_reducible exact sub_c ⟨_, _, _⟩ ⟨_, _, _⟩ _) | (go_at_call 78; (with_reducible apply quiet_up); with_reducible exact times_c _ _ _) | (go_at_call 78; (with_reducible apply quiet_up); with_reducible exact times_c ⟨_, _, _⟩ _ _))) | quiet_step ((first | (go_at_fn 102; (with_reducible apply quiet_up); (first | with_reducible exact curved_c _ _ _ _ _ (HS.out _ (by repeat (first | exact More.refl _ | refine More.alloc ?_ _ | refine More.more ?_ _ | refine More.drew ?_ | refine More.drewN ?_ _))) | with_reducible exact curved_c _ ⟨_, _, _⟩ ⟨_, _, _⟩ ⟨_, _, _⟩ _ (HS.out _ (by repeat (first | exact More.refl _ | refine More.alloc ?_ _ | refine More.more ?_ _ | refine More.drew ?_ | refine More.drewN ?_ _))))) | (go_at_call 62; (with_reducible apply quiet_up); with_reducible exact sqr_c _ _) | (go_at_call 62; (with_reducible apply quiet_up); with_reducible exact sqr_c ⟨_, _, _⟩ _) | (go_at_call 64; (with_reducible apply quiet_up); with_reducible exact sub_c _ _ _) | (go_at_call 64; (with_reducible apply quiet_up); with_reducible exact sub_c _ ⟨_, _, _⟩ _) | (go_at_call 64; (with_reducible apply quiet_up); with_reducible exact sub_c ⟨_, _, _⟩ _ _) | (go_at_call 64; (with_reducible apply quiet_up); with_reducible exact sub_c ⟨_, _, _⟩ ⟨_, _, _⟩ _) | (go_at_call 78; (with_reducible apply quiet_up); with_reducible exact times_c _ _ _) | (go_at_call 78; (with_reducible apply quiet_up); with_reducible exact times_c ⟨_, _, _⟩ _ _)))))); (with_reducible refine wpQuiet_nil ?_); intro r1 r2)))
    go_returns
    exact ⟨rfl, (by repeat (first | exact More.refl _ | refine More.alloc ?_ _ | refine More.more ?_ _ | refine More.drew ?_ | refine More.drewN ?_ _))⟩

end Go.Proofs.Ytggohceeeggnmaa

namespace Go.Proofs.Ytggohceeeggnmaa
set_option linter.unusedVariables false
open Go.ChangeShapes Go.WideShapes Go.ChangeAt Go.RowKit

set_option maxHeartbeats 16000000 in
set_option maxRecDepth 100000 in
theorem beyondf_c (W : World) {s : Sf} {ray : Wy} (t : Iv) (br : Blk) (bs : Blk) (hr : OkWyAt W br ray) (hs : OkSfAt W bs s) :
    Calls Try.prog 127 #[ivV t, .pointer (some ⟨br, 0, none⟩), .pointer (some ⟨bs, 0, none⟩)] W fun e w' => e = .returned (.tuple #[ivV (hitF s ray t).1, ivV (hitF s ray t).2]) ∧ More W w' := by
  unfold hitF
  obtain ⟨P, hP⟩ : ∃ P, plAlong ray t = P := ⟨_, rfl⟩
  rw [hP]
  obtain ⟨⟨q1, q2, q3⟩, hq⟩ : ∃ d, hitR2 P = d := ⟨_, rfl⟩
  rw [hq]
  obtain ⟨⟨z1, z2, z3⟩, hz⟩ : ∃ d, sagZ s ⟨q1, q2, q3⟩ = d := ⟨_, rfl⟩
  obtain ⟨⟨m1, m2, m3⟩, hm⟩ : ∃ d, sagM s ⟨q1, q2, q3⟩ = d := ⟨_, rfl⟩
  rw [hz, hm]
  obtain ⟨⟨a1, a2, a3⟩, ha⟩ : ∃ d, ivTimes (hitAc ray P) 2 = d := ⟨_, rfl⟩
  rw [ha]
  unfold hitR2 at hq
  unfold hitAc at ha
  obtain ⟨k0, -, ⟨k9, k10, k11⟩, ⟨k12, k13, k14⟩, k15, k16, k17⟩ := wyat_cells hr
  have j0 := (sfat_cells hs).1
  have c18 : World.cellsIn W br = 18 := by unfold World.cellsIn; rw [hr]; rfl
  have d18 : World.cellsOf W br = #[.int .i64 ray.o.x.lo, .int .i64 ray.o.x.hi, .bool ray.o.x.no, .int .i64 ray.o.y.lo, .int .i64 ray.o.y.hi, .bool ray.o.y.no, .int .i64 ray.o.z.lo, .int .i64 ray.o.z.hi, .bool ray.o.z.no, .int .i64 ray.d.x.lo, .int .i64 ray.d.x.hi, .bool ray.d.x.no, .int .i64 ray.d.y.lo, .int .i64 ray.d.y.hi, .bool ray.d.y.no, .int .i64 ray.d.z.lo, .int .i64 ray.d.z.hi, .bool ray.d.z.no] := by unfold World.cellsOf; rw [hr]; rfl
  have c23 : World.cellsIn W bs = 23 := by unfold World.cellsIn; rw [hs]; rfl
  have d23 : World.cellsOf W bs = #[.bool s.stop, .bool s.bent, .int .i64 s.curve.lo, .int .i64 s.curve.hi, .bool s.curve.no, .int .i64 s.conic.lo, .int .i64 s.conic.hi, .bool s.conic.no, .int .i64 s.a4.lo, .int .i64 s.a4.hi, .bool s.a4.no, .int .i64 s.a6.lo, .int .i64 s.a6.hi, .bool s.a6.no, .int .i64 s.place.lo, .int .i64 s.place.hi, .bool s.place.no, .int .i64 s.open2.lo, .int .i64 s.open2.hi, .bool s.open2.no, .int .i64 s.ratio.lo, .int .i64 s.ratio.hi, .bool s.ratio.no] := by unfold World.cellsOf; rw [hs]; rfl
  clear hr hs
  go_enter Try.func127, Try.ntmps127
  go_upto_region 2 with (first | (first | (go_at_call 67; (with_reducible refine (valong_c _ _ _).mono ?_); rintro e w' ⟨rfl, r, rfl⟩) | (go_at_call 67; (with_reducible refine (valong_c _ ⟨_, _, _⟩ _).mono ?_); rintro e w' ⟨rfl, r, rfl⟩) | (go_at_call 67; (with_reducible refine (valong_c ⟨_, _⟩ _ _).mono ?_); rintro e w' ⟨rfl, r, rfl⟩) | (go_at_call 67; (with_reducible refine (valong_c ⟨_, _⟩ ⟨_, _, _⟩ _).mono ?_); rintro e w' ⟨rfl, r, rfl⟩) | (go_at_call 67; (with_reducible refine (valong_c ⟨⟨_, _, _⟩, ⟨_, _, _⟩⟩ ⟨_, _, _⟩ _).mono ?_); rintro e w' ⟨rfl, r, rfl⟩)))
  rename Rest => ra
  (first | (with_reducible refine wp_more_apartl_m (id := 2) 14 50 [11] [(23, #[.int .i64 0, .int .i64 0, .bool false])] ?_ ?_ ?_ ?_ ?_ ?_ ?_ ?_ ?_ ?_) | (refine wp_more_apartl (id := 2) 14 50 [11] [(23, #[.int .i64 0, .int .i64 0, .bool false])] ?_ ?_ ?_ ?_ ?_ ?_ ?_ ?_ ?_ ?_))
  · intro p hp; simp only [List.mem_cons, List.not_mem_nil, or_false] at hp; subst hp <;> first | exact new_iv
  · kernel_rfl
  · kernel_rfl
  · kernel_rfl
  · kernel_rfl
  · kernel_rfl
  · kernel_rfl
  · rfl
  · (intro _ _ _ _ _ h; exact h)
  simp only [List.take_succ_cons, List.take_zero, List.drop_succ_cons, List.drop_zero]
  (repeat (first | (refine loose_alloc 7 23 #[.int .i64 0, .int .i64 0, .bool false] new_iv rfl rfl rfl rfl (by simp) ?_) | (refine loose_alloc 8 23 #[.int .i64 0, .int .i64 0, .bool false] new_iv rfl rfl rfl rfl (by simp) ?_) | (refine loose_step rfl (fun K9 hK9 => ?_); go_simp; first | (refine hK9 _ ?_; clear hK9 K9) | (apply Exists.intro; refine ⟨fun _ => ?_, hK9 _ ?_⟩; ((first | (go_at_call 35; with_reducible exact sag_c _ _ _) | (go_at_call 35; with_reducible exact sag_c _ ⟨_, _, _⟩ _) | (go_at_call 35; with_reducible exact sag_c ⟨_, _, ⟨_, _, _⟩, ⟨_, _, _⟩, ⟨_, _, _⟩, ⟨_, _, _⟩, ⟨_, _, _⟩, ⟨_, _, _⟩, ⟨_, _, _⟩⟩ ⟨_, _, _⟩ _) | (go_at_call 62; with_reducible exact sqr_c _ _) | (go_at_call 62; with_reducible exact sqr_c ⟨_, _, _⟩ _) | (go_at_call 73; with_reducible exact add_c _ _ _) | (go_at_call 73; with_reducible exact add_c _ ⟨_, _, _⟩ _) | (go_at_call 73; with_reducible exact add_c ⟨_, _, _⟩ _ _) | (go_at_call 73; with_reducible exact add_c ⟨_, _, _⟩ ⟨_, _, _⟩ _))); clear hK9 K9))))
  intro r
  simp only [allFits]
  rintro _ ⟨b2', rfl, hb2', hc2'⟩ _ ⟨b1', rfl, hb1', hc1'⟩ hfar
  have n12 := hfar 12 13 _ _ _ _ 7 8 rfl rfl rfl rfl rfl rfl (by decide)
  simp [Act.put] at n12
  refine two_end 23 3 (.tmp 7) (.tmp 23) (.tmp 8) (.tmp 24) b1' b2' _ _ (cellsI (⟨z1, z2, z3⟩)) (cellsI (⟨m1, m2, m3⟩)) rfl rfl rfl rfl rfl rfl rfl rfl rfl rfl size_ivT rfl rfl (by decide) (one_iv _ _ _) (one_iv _ _ _) ((More.refl _).more r) hb1' hb2' hc1' rfl hc2' rfl n12 ?_
  clear hfar n12 hb1' hb2' hc1' hc2'
  intro V hMV h1V h2V
  refine wpList_nil ?_
  have hPb : OkPlAt V (W.heap.size + (3 + ra.len)) P := heap_at _ hMV (by simp [Nat.add_assoc])
  obtain ⟨g0, ⟨g1, g2, g3⟩, ⟨g4, g5, g6⟩, g7, g8, g9⟩ := plat_cells hPb
  obtain ⟨s1, s2, s3, s4⟩ := iv_cells h1V
  obtain ⟨l1, l2, l3, l4⟩ := iv_cells h2V
  have hWV : More W V := More.trans (by repeat (first | exact More.refl _ | refine More.alloc ?_ _ | refine More.more ?_ _ | refine More.drew ?_ | refine More.drewN ?_ _)) hMV
  have ht4 : V.heap[W.heap.size + 1]? = some (.cells #[.int .i64 0, .int .i64 0, .bool false] 23 (0, 0)) := heap_at (W.alloc (.cells #[.int .i64 t.lo, .int .i64 t.hi, .bool t.no] 23)) (More.trans (by repeat (first | exact More.refl _ | refine More.alloc ?_ _ | refine More.more ?_ _ | refine More.drew ?_ | refine More.drewN ?_ _)) hMV) (by simp)
  have ht5 : V.heap[W.heap.size + 2]? = some (.cells #[.int .i64 0, .int .i64 0, .bool false] 23 (0, 0)) := heap_at ((W.alloc (.cells #[.int .i64 t.lo, .int .i64 t.hi, .bool t.no] 23)).alloc (.cells #[.int .i64 0, .int .i64 0, .bool false] 23)) (More.trans (by repeat (first | exact More.refl _ | refine More.alloc ?_ _ | refine More.more ?_ _ | refine More.drew ?_ | refine More.drewN ?_ _)) hMV) (by simp)
  have b9 := lc_upV hWV k9
  have b10 := lc_upV hWV k10
  have b11 := lc_upV hWV k11
  have b12 := lc_upV hWV k12
  have b13 := lc_upV hWV k13
  have b14 := lc_upV hWV k14
  have b15 := lc_upV hWV k15
  have b16 := lc_upV hWV k16
  have b17 := lc_upV hWV k17
  have b0 : br < V.heap.size := World.block_lt_of_cell? V _ b9
  clear hPb h1V h2V hMV k9 k10 k11 k12 k13 k14 k15 k16 k17 k0 j0 c18 d18 c23 d23
  dsimp only [cellsI] at *
  have HWV := Lib.hid hWV
  have HT4 := Lib.hid ht4
  have HT5 := Lib.hid ht5
  clear hWV ht4 ht5
  go_upto_region 4 with (first | (first | (go_at_call 73; (with_reducible refine (add_c _ _ _).mono ?_); rintro e w' ⟨rfl, r, rfl⟩) | (go_at_call 73; (with_reducible refine (add_c _ ⟨_, _, _⟩ _).mono ?_); rintro e w' ⟨rfl, r, rfl⟩) | (go_at_call 73; (with_reducible refine (add_c ⟨_, _, _⟩ _ _).mono ?_); rintro e w' ⟨rfl, r, rfl⟩) | (go_at_call 73; (with_reducible refine (add_c ⟨_, _, _⟩ ⟨_, _, _⟩ _).mono ?_); rintro e w' ⟨rfl, r, rfl⟩) | (go_at_call 78; (with_reducible refine (times_c _ _ _).mono ?_); rintro e w' ⟨rfl, r, rfl⟩) | (go_at_call 78; (with_reducible refine (times_c ⟨_, _, _⟩ _ _).mono ?_); rintro e w' ⟨rfl, r, rfl⟩) | (go_at_call 79; (with_reducible refine (mul_iv_c _ _ _).mono ?_); rintro e w' ⟨rfl, r, rfl⟩) | (go_at_call 79; (with_reducible refine (mul_iv_c _ ⟨_, _, _⟩ _).mono ?_); rintro e w' ⟨rfl, r, rfl⟩) | (go_at_call 79; (with_reducible refine (mul_iv_c ⟨_, _, _⟩ _ _).mono ?_); rintro e w' ⟨rfl, r, rfl⟩) | (go_at_call 79; (with_reducible refine (mul_iv_c ⟨_, _, _⟩ ⟨_, _, _⟩ _).mono ?_); rintro e w' ⟨rfl, r, rfl⟩) | ((with_reducible show Code.wp _ (Code.region 3 _ true) _ _ _); (with_reducible apply wp_more_heap_m (id := 3) 15 14 9); kernel_rfl; kernel_rfl; rfl; decide; rfl; (intro _ _; go_simp; rfl); intro x; (try simp only [List.append_eq, List.cons_append, List.nil_append]); (simp only [List.take_succ_cons, List.take_zero, List.drop_succ_cons, List.drop_zero, skipAt, Nat.reduceAdd, Nat.reduceEqDiff, reduceIte, Nat.zero_add]); (repeat (any_goals (first | go_big_quiet_step ((first | (go_at_call 73; (with_reducible apply quiet_up); with_reducible exact add_c _ _ _) | (go_at_call 73; (with_reducible apply quiet_up); with_reducible exact add_c _ ⟨_, _, _⟩ _) | (go_at_call 73; (with_reducible apply quiet_up); with_reducible exact add_c ⟨_, _, _⟩ _ _) | (go_at_call 73; (with_reducible apply quiet_up); with_reducible exact add_c ⟨_, _, _⟩ ⟨_, _, _⟩ _) | (go_at_call 78; (with_reducible apply quiet_up); with_reducible exact times_c _ _ _) | (go_at_call 78; (with_reducible apply quiet_up); with_reducible exact times_c ⟨_, _, _⟩ _ _) | (go_at_call 79; (with_reducible apply quiet_up); with_reducible exact mul_iv_c _ _ _) | (go_at_call 79; (with_reducible apply quiet_up); with_reducible exact mul_iv_c _ ⟨_, _, _⟩ _) | (go_at_call 79; (with_reducible apply quiet_up); with_reducible exact mul_iv_c ⟨_, _, _⟩ _ _) | (go_at_call 79; (with_reducible apply quiet_up); with_reducible exact mul_iv_c ⟨_, _, _⟩ ⟨_, _, _⟩ _))) | quiet_step ((first | (go_at_call 73; (with_reducible apply quiet_up); with_reducible exact add_c _ _ _) | (go_at_call 73; (with_reducible apply quiet_up); with_reducible exact add_c _ ⟨_, _, _⟩ _) | (go_at_call 73; (with_reducible apply quiet_up); with_reducible exact add_c ⟨_, _, _⟩ _ _) | (go_at_call 73; (with_reducible apply quiet_up); with_reducible exact add_c ⟨_, _, _⟩ ⟨_, _, _⟩ _) | (go_at_call 78; (with_reducible apply quiet_up); with_reducible exact times_c _ _ _) | (go_at_call 78; (with_reducible apply quiet_up); with_reducible exact times_c ⟨_, _, _⟩ _ _) | (go_at_call 79; (with_reducible apply quiet_up); with_reducible exact mul_iv_c _ _ _) | (go_at_call 79; (with_reducible apply quiet_up); with_reducible exact mul_iv_c _ ⟨_, _, _⟩ _) | (go_at_call 79; (with_reducible apply quiet_up); with_reducible exact mul_iv_c ⟨_, _, _⟩ _ _) | (go_at_call 79; (with_reducible apply quiet_up); with_reducible exact mul_iv_c ⟨_, _, _⟩ ⟨_, _, _⟩ _)))))); (with_reducible refine wpQuiet_nil ?_); intro r1 r2) | ((with_reducible show Code.wp _ (Code.region 3 _ true) _ _ _); (with_reducible apply wp_more_heap (id := 3) 15 14 9); kernel_rfl; kernel_rfl; rfl; decide; rfl; (intro _ _; go_simp; rfl); intro x; (try simp only [List.append_eq, List.cons_append, List.nil_append]); (simp only [List.take_succ_cons, List.take_zero, List.drop_succ_cons, List.drop_zero, skipAt, Nat.reduceAdd, Nat.reduceEqDiff, reduceIte, Nat.zero_add]); (repeat (any_goals (first | go_big_quiet_step ((first | (go_at_call 73; (with_reducible apply quiet_up); with_reducible exact add_c _ _ _) | (go_at_call 73; (with_reducible apply quiet_up); with_reducible exact add_c _ ⟨_, _, _⟩ _) | (go_at_call 73; (with_reducible apply quiet_up); with_reducible exact add_c ⟨_, _, _⟩ _ _) | (go_at_call 73; (with_reducible apply quiet_up); with_reducible exact add_c ⟨_, _, _⟩ ⟨_, _, _⟩ _) | (go_at_call 78; (with_reducible apply quiet_up); with_reducible exact times_c _ _ _) | (go_at_call 78; (with_reducible apply quiet_up); with_reducible exact times_c ⟨_, _, _⟩ _ _) | (go_at_call 79; (with_reducible apply quiet_up); with_reducible exact mul_iv_c _ _ _) | (go_at_call 79; (with_reducible apply quiet_up); with_reducible exact mul_iv_c _ ⟨_, _, _⟩ _) | (go_at_call 79; (with_reducible apply quiet_up); with_reducible exact mul_iv_c ⟨_, _, _⟩ _ _) | (go_at_call 79; (with_reducible apply quiet_up); with_reducible exact mul_iv_c ⟨_, _, _⟩ ⟨_, _, _⟩ _))) | quiet_step ((first | (go_at_call 73; (with_reducible apply quiet_up); with_reducible exact add_c _ _ _) | (go_at_call 73; (with_reducible apply quiet_up); with_reducible exact add_c _ ⟨_, _, _⟩ _) | (go_at_call 73; (with_reducible apply quiet_up); with_reducible exact add_c ⟨_, _, _⟩ _ _) | (go_at_call 73; (with_reducible apply quiet_up); with_reducible exact add_c ⟨_, _, _⟩ ⟨_, _, _⟩ _) | (go_at_call 78; (with_reducible apply quiet_up); with_reducible exact times_c _ _ _) | (go_at_call 78; (with_reducible apply quiet_up); with_reducible exact times_c ⟨_, _, _⟩ _ _) | (go_at_call 79; (with_reducible apply quiet_up); with_reducible exact mul_iv_c _ _ _) | (go_at_call 79; (with_reducible apply quiet_up); with_reducible exact mul_iv_c _ ⟨_, _, _⟩ _) | (go_at_call 79; (with_reducible apply quiet_up); with_reducible exact mul_iv_c ⟨_, _, _⟩ _ _) | (go_at_call 79; (with_reducible apply quiet_up); with_reducible exact mul_iv_c ⟨_, _, _⟩ ⟨_, _, _⟩ _)))))); (with_reducible refine wpQuiet_nil ?_); intro r1 r2)))
  trace_state
  (first | (with_reducible refine wp_more_tailq_m (id := 4) 11 ?_ ?_ ?_) | (with_reducible refine wp_more_tailq (id := 4) 11 ?_ ?_ ?_))
  · kernel_rfl
  · kernel_rfl
  (try simp only [List.take_succ_cons, List.take_zero, List.drop_succ_cons, List.drop_zero])
  (try simp only [List.append_eq, List.cons_append, List.nil_append])
  (repeat (any_goals (first | go_big_quiet_step ((first | (go_at_call 64; (with_reducible apply quiet_call); with_reducible exact sub_c _ _ _) | (go_at_call 64; (with_reducible apply quiet_call); with_reducible exact sub_c _ ⟨_, _, _⟩ _) | (go_at_call 64; (with_reducible apply quiet_call); with_reducible exact sub_c ⟨_, _, _⟩ _ _) | (go_at_call 64; (with_reducible apply quiet_call); with_reducible exact sub_c ⟨_, _, _⟩ ⟨_, _, _⟩ _) | (go_at_call 79; (with_reducible apply quiet_call); with_reducible exact mul_iv_c _ _ _) | (go_at_call 79; (with_reducible apply quiet_call); with_reducible exact mul_iv_c _ ⟨_, _, _⟩ _) | (go_at_call 79; (with_reducible apply quiet_call); with_reducible exact mul_iv_c ⟨_, _, _⟩ _ _) | (go_at_call 79; (with_reducible apply quiet_call); with_reducible exact mul_iv_c ⟨_, _, _⟩ ⟨_, _, _⟩ _))) | quiet_step ((first | (go_at_call 64; (with_reducible apply quiet_call); with_reducible exact sub_c _ _ _) | (go_at_call 64; (with_reducible apply quiet_call); with_reducible exact sub_c _ ⟨_, _, _⟩ _) | (go_at_call 64; (with_reducible apply quiet_call); with_reducible exact sub_c ⟨_, _, _⟩ _ _) | (go_at_call 64; (with_reducible apply quiet_call); with_reducible exact sub_c ⟨_, _, _⟩ ⟨_, _, _⟩ _) | (go_at_call 79; (with_reducible apply quiet_call); with_reducible exact mul_iv_c _ _ _) | (go_at_call 79; (with_reducible apply quiet_call); with_reducible exact mul_iv_c _ ⟨_, _, _⟩ _) | (go_at_call 79; (with_reducible apply quiet_call); with_reducible exact mul_iv_c ⟨_, _, _⟩ _ _) | (go_at_call 79; (with_reducible apply quiet_call); with_reducible exact mul_iv_c ⟨_, _, _⟩ ⟨_, _, _⟩ _))))))
  (with_reducible refine wpQuiet_nil ?_)
  intro r
  refine two_end 23 3 (.tmp 4) (.tmp 42) (.tmp 5) (.tmp 49) (W.heap.size + 1) (W.heap.size + 2) _ _ (cellsI (ivSub P.z ⟨z1, z2, z3⟩)) (cellsI (ivSub ray.d.z (ivMul ⟨m1, m2, m3⟩ ⟨a1, a2, a3⟩))) rfl rfl rfl rfl rfl rfl rfl rfl rfl rfl size_ivT rfl rfl (by decide) (one_iv _ _ _) (one_iv _ _ _) (More.trans HWV.out (by repeat (first | exact More.refl _ | refine More.alloc ?_ _ | refine More.more ?_ _ | refine More.drew ?_ | refine More.drewN ?_ _))) (by omega) (by omega) (heap_up (by repeat (first | exact More.refl _ | refine More.alloc ?_ _ | refine More.more ?_ _ | refine More.drew ?_ | refine More.drewN ?_ _)) HT4.out) rfl (heap_up (by repeat (first | exact More.refl _ | refine More.alloc ?_ _ | refine More.more ?_ _ | refine More.drew ?_ | refine More.drewN ?_ _)) HT5.out) rfl (by omega) ?_
  intro wx hM h1 h2
  refine wpList_nil ?_
  go_wp2_with fail
  exact bodyPost_ret (results_two Try.results127 rfl (load_iv_obj h1) rfl (load_iv_obj h2)) rfl ⟨rfl, hM⟩

/-- A function value that tells how far beyond a face a ray is. -/
def IsBeyond (s : Sf) (ray : Wy) (u : Value) (w : World) : Prop := ∃ br bs : Nat, u = .func (.func 127) #[] #[.pointer (some ⟨br, 0, none⟩), .pointer (some ⟨bs, 0, none⟩)] ∧ OkWyAt w br ray ∧ OkSfAt w bs s
theorem IsBeyond.up {s : Sf} {ray : Wy} {u : Value} {w w' : World} (hM : More w w') : IsBeyond s ray u w → IsBeyond s ray u w'
  | ⟨br, bs, e, h1, h2⟩ => ⟨br, bs, e, h1.up hM, h2.up hM⟩

set_option maxHeartbeats 4000000 in
theorem beyond_c (s : Sf) (ray : Wy) (W : World) : Calls Try.prog 105 #[sfV s, wyV ray] W fun e w' => ∃ v', e = .returned v' ∧ More W w' ∧ IsBeyond s ray v' w' := by
  go_enter Try.func105, Try.ntmps105
  go_wp2_with fail
  go_returns
  exact ⟨_, rfl, (by repeat (first | exact More.refl _ | refine More.alloc ?_ _ | refine More.more ?_ _ | refine More.drew ?_ | refine More.drewN ?_ _)), W.heap.size + 1, W.heap.size, rfl, heap_at (W.alloc (.cells #[.bool s.stop, .bool s.bent, .int .i64 s.curve.lo, .int .i64 s.curve.hi, .bool s.curve.no, .int .i64 s.conic.lo, .int .i64 s.conic.hi, .bool s.conic.no, .int .i64 s.a4.lo, .int .i64 s.a4.hi, .bool s.a4.no, .int .i64 s.a6.lo, .int .i64 s.a6.hi, .bool s.a6.no, .int .i64 s.place.lo, .int .i64 s.place.hi, .bool s.place.no, .int .i64 s.open2.lo, .int .i64 s.open2.hi, .bool s.open2.no, .int .i64 s.ratio.lo, .int .i64 s.ratio.hi, .bool s.ratio.no] 25)) (by repeat (first | exact More.refl _ | refine More.alloc ?_ _ | refine More.more ?_ _ | refine More.drew ?_ | refine More.drewN ?_ _)) (by simp), heap_at W (by repeat (first | exact More.refl _ | refine More.alloc ?_ _ | refine More.more ?_ _ | refine More.drew ?_ | refine More.drewN ?_ _)) rfl⟩

theorem pureAsker15 (w : World) (F : Enc) (g : Nat) (cap : Array Value) (eg : ∀ args w, (callFunc g args).run Try.prog w = .ok (.enter g args) w)
    (hf : ∀ W x, More w W → Calls Try.prog g (#[ivV x] ++ cap) W fun e w' => e = .returned (.tuple #[ivV (F x).1, ivV (F x).2]) ∧ More W w') (t : Iv) (most : Int) :
    Calls Try.prog 104 #[.func (.func g) #[] cap, ivV t, .int .i64 most] w fun e w' => e = .returned (.tuple #[ivV (nSolve F t most).1, .int .i64 (nSolve F t most).2]) ∧ More w w' :=
  solve_c { σ := Unit, base := fun _ => w, N := w.heap.size, size := fun _ => rfl, step := fun _ _ => (), F := F, g := g, cap := cap, enters := eg, ok := fun _ x R => hf _ x ⟨R, rfl⟩ } (s := ()) (W := w) (W' := w) (R := ⟨#[], w.drawn⟩) t most ⟨(more_self w).symm, (more_self w).symm⟩

set_option maxRecDepth 100000 in
set_option maxHeartbeats 4000000 in
theorem solveb_c {s : Sf} {ray : Wy} {u : Value} {w : World} (h : IsBeyond s ray u w) (t : Iv) :
    Calls Try.prog 104 #[u, ivV t, .int .i64 20] w fun e w' => e = .returned (.tuple #[ivV (nSolve (hitF s ray) t 20).1, .int .i64 (nSolve (hitF s ray) t 20).2]) ∧ More w w' := by
  obtain ⟨br, bs, rfl, h1, h2⟩ := h
  refine pureAsker15 w (hitF s ray) 127 #[.pointer (some ⟨br, 0, none⟩), .pointer (some ⟨bs, 0, none⟩)] (enters_of Try.func127 (by kernel_rfl) rfl) ?_ t 20
  intro W x hM
  have h := beyondf_c W x br bs (h1.up hM) (h2.up hM)
  have e : (#[ivV x] ++ #[.pointer (some ⟨br, 0, none⟩), .pointer (some ⟨bs, 0, none⟩)] : Array Value) = #[ivV x, .pointer (some ⟨br, 0, none⟩), .pointer (some ⟨bs, 0, none⟩)] := rfl
  rw [e]
  exact h

end Go.Proofs.Ytggohceeeggnmaa

namespace Go.Proofs.Ytggohceeeggnmaa
set_option linter.unusedVariables false
open Go.ChangeShapes Go.WideShapes Go.ChangeAt Go.RowKit

set_option maxHeartbeats 16000000 in
set_option maxRecDepth 100000 in
theorem bent_c (s : Sf) (ray : Wy) (f : Iv) (h1 : -1073741824 ≤ f.lo) (h2 : f.hi ≤ 1073741824) (h3 : f.lo ≤ f.hi) (W : World) :
    Calls Try.prog 66 #[sfV s, wyV ray, ivV f] W fun e w' => e = .returned (.tuple #[ivV (hitN (hitF s ray) f).1, .int .i64 (hitN (hitF s ray) f).2]) ∧ More W w' := by
  obtain ⟨f1, f2, f3⟩ := f
  dsimp only at h1 h2 h3
  unfold hitN
  have ht : hitW ⟨f1, f2, f3⟩ = ivOf (f1 - 65536) (f2 + 65536) := rfl
  rw [ht]
  have e1 : IntKind.i64.wrap (f1 - 65536) = f1 - 65536 := IntWalk.i64_in _ ⟨by omega, by omega⟩
  have e2 : IntKind.i64.wrap (f2 + 65536) = f2 + 65536 := IntWalk.i64_in _ ⟨by omega, by omega⟩
  go_enter Try.func66, Try.ntmps66
  go_upto_region 1 with fail
  (first | (with_reducible refine wp_more_apartl_m (id := 1) 15 28 [13] [(23, #[.int .i64 0, .int .i64 0, .bool false])] ?_ ?_ ?_ ?_ ?_ ?_ ?_ ?_ ?_ ?_) | (refine wp_more_apartl (id := 1) 15 28 [13] [(23, #[.int .i64 0, .int .i64 0, .bool false])] ?_ ?_ ?_ ?_ ?_ ?_ ?_ ?_ ?_ ?_))
  · intro p hp; simp only [List.mem_cons, List.not_mem_nil, or_false] at hp; subst hp <;> first | exact new_iv
  · kernel_rfl
  · kernel_rfl
  · kernel_rfl
  · kernel_rfl
  · kernel_rfl
  · kernel_rfl
  · rfl
  · (intro _ _ _ _ _ h; exact h)
  simp only [List.take_succ_cons, List.take_zero, List.drop_succ_cons, List.drop_zero]
  (repeat (first | (refine loose_alloc 8 23 #[.int .i64 0, .int .i64 0, .bool false] new_iv rfl rfl rfl rfl (by simp) ?_) | (refine loose_make 13 (IsBeyond s ray) rfl rfl (by simp) rfl (fun _ _ _ hM h => h.up hM) (fun r => ?_) ?_; (go_simp; exact beyond_c s ray _)) | (refine loose_use 13 rfl (fun _ => rfl) ?_; apply Exists.intro; refine ⟨fun r u hu => ?_, ?_⟩; (go_simp; go_at_call 104; exact (solveb_c hu (ivOf (f1 - 65536) (f2 + 65536))))) | (refine loose_step rfl (fun K9 hK9 => ?_); go_simp; first | (refine hK9 _ ?_; clear hK9 K9) | (apply Exists.intro; refine ⟨fun _ => ?_, hK9 _ ?_⟩; ((first | (go_at_call 41; with_reducible exact of_c _ _ _) | (go_at_call 41; with_reducible exact of_c _ _ _) | (go_at_call 104; with_reducible exact solve_nil () _ _ _) | (go_at_call 104; with_reducible exact solve_nil () ⟨_, _, _⟩ _ _))); clear hK9 K9))))
  intro r
  simp only [allFits]
  rintro _ ⟨b1', rfl, hb1', hc1'⟩ u13 hu13 hfar
  clear hfar
  refine one_end 23 3 (.tmp 8) (.tmp 22) b1' _ (cellsI (nSolve (hitF s ray) (ivOf (f1 - 65536) (f2 + 65536)) 20).1) rfl rfl rfl rfl rfl size_ivT rfl (by decide) (one_iv _ _ _) ((More.refl _).more r) hb1' hc1' rfl ?_
  intro V hMV h1V
  have HN := solve_cases (hitF s ray) (ivOf (f1 - 65536) (f2 + 65536)) 20
  obtain ⟨⟨⟨n1, n2, n3⟩, i⟩, hn⟩ : ∃ d, nSolve (hitF s ray) (ivOf (f1 - 65536) (f2 + 65536)) 20 = d := ⟨_, rfl⟩
  rw [hn] at h1V HN ⊢
  dsimp only at h1V HN ⊢
  obtain ⟨s1, s2, s3, s4⟩ := iv_cells h1V
  obtain ⟨r5, rfl⟩ := hMV
  clear hu13 hb1' hc1' h1V
  have hi : i = 1 ∨ i = 2 ∨ i = 0 := by omega
  clear HN
  rcases hi with rfl | rfl | rfl
  all_goals
    go_wp2_with fail
    go_returns
    exact ⟨rfl, (by repeat (first | exact More.refl _ | refine More.alloc ?_ _ | refine More.more ?_ _ | refine More.drew ?_ | refine More.drewN ?_ _))⟩
end Go.Proofs.Ytggohceeeggnmaa

namespace Go.Proofs.Ytggohceeeggnmaa
set_option linter.unusedVariables false
open Go.ChangeShapes Go.WideShapes Go.ChangeAt Go.RowKit

theorem two_end2 {P : Program} {ops : Array Oper} {Q : Exit → Act → World → Prop} {a : Act} {W w : World} {o1 o2 : Oper} {rest : List Oper} (T U : TypeId) (n m : Nat) (p1 x1 p2 x2 : Operand) (b1 b2 : Nat) (z1 z2 : Array Value) (v1 v2 : List Value)
    (h1 : o1.op = .store T p1 x1) (g1 : o1.guard = none) (d1 : o1.dst = none) (h2 : o2.op = .store U p2 x2) (g2 : o2.guard = none) (d2 : o2.dst = none)
    (e1 : a.eval p1 = .pointer (some ⟨b1, 0, none⟩)) (y1 : a.eval x1 = .agg v1.toArray) (e2 : a.eval p2 = .pointer (some ⟨b2, 0, none⟩)) (y2 : a.eval x2 = .agg v2.toArray)
    (hs1 : ∀ w, (sizeOf T).run P w = .ok n w) (hs2 : ∀ w, (sizeOf U).run P w = .ok m w) (hn1 : v1.length = n) (hn2 : v2.length = m) (h01 : n ≠ 0) (h02 : m ≠ 0) (u1 : ∀ v ∈ v1, v.oneCell' = true) (u2 : ∀ v ∈ v2, v.oneCell' = true)
    (hM : More W w) (hb1 : W.heap.size ≤ b1) (hb2 : W.heap.size ≤ b2) (hc1 : w.heap[b1]? = some (.cells z1 T (0, 0))) (hz1 : z1.size = n) (hc2 : w.heap[b2]? = some (.cells z2 U (0, 0))) (hz2 : z2.size = m) (hne : ¬ b1 = b2)
    (hK : ∀ wx, More W wx → wx.heap[b1]? = some (.cells v1.toArray T (0, 0)) → wx.heap[b2]? = some (.cells v2.toArray U (0, 0)) → wpList P ops Q rest a wx) : wpList P ops Q (o1 :: o2 :: rest) a w := by
  have ne2 : b2 ≠ b1 := fun e => hne e.symm
  have c2 : (w.setRow b1 v1.toArray).heap[b2]? = some (.cells z2 U (0, 0)) := (setRow_other _ _ _ _ ne2).trans hc2
  refine wpList_store_new T p1 x1 n b1 z1 v1 h1 g1 d1 e1 y1 (hs1 _) hn1 h01 u1 hc1 hz1 ?_
  refine wpList_store_new U p2 x2 m b2 z2 v2 h2 g2 d2 e2 y2 (hs2 _) hn2 h02 u2 c2 hz2 ?_
  exact hK _ (more_setRow (more_setRow hM hb1) hb2) ((setRow_other _ _ _ _ hne).trans (heap_setRow hc1)) (heap_setRow c2)
end Go.Proofs.Ytggohceeeggnmaa
