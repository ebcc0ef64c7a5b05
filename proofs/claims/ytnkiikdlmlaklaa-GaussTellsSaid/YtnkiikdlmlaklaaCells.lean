/-
  Cells of a square, row by row: slices of complex numbers, and of pairs.
-/
import Derived.Test.YtnkiikdlmlaklaaPair
import Derived.Test.YtnkiikdlmlaklaaRow
import Derived.Test.YtnkiikdlmlaklaaInts
namespace Go.Proofs.Ytnkiikdlmlaklaa
set_option linter.unusedVariables false
open Go.ChangeShapes Go.WideShapes Go.ChangeAt Go.RowKit

/-- The cells of the slice v hold the whole numbers l. -/
def CRow (w : World) (v : Value) (l : List Pt) : Prop :=
  (v = .slice none 0 0 ∧ l = []) ∨ ∃ g o c, v = .slice (some ⟨g, o, none⟩) l.length c ∧ ∀ k p, l[k]? = some p → w.cell? ⟨g, o + k, none⟩ = some (cxP p)
def PRow (w : World) (v : Value) (l : List Pt) : Prop :=
  (v = .slice none 0 0 ∧ l = []) ∨ ∃ g o c, v = .slice (some ⟨g, o, none⟩) l.length c ∧ ∀ k p, l[k]? = some p → w.cell? ⟨g, o + k * 2, none⟩ = some (.int .i64 p.x) ∧ w.cell? ⟨g, o + k * 2 + 1, none⟩ = some (.int .i64 p.y)
def cellsP : List Pt → List Value
  | [] => []
  | p :: r => .int .i64 p.x :: .int .i64 p.y :: cellsP r
theorem cellsP_length : ∀ l : List Pt, (cellsP l).length = l.length * 2
  | [] => rfl
  | a :: r => by simp [cellsP, cellsP_length r]; omega
theorem cellsP_append : ∀ l m : List Pt, cellsP (l ++ m) = cellsP l ++ cellsP m
  | [], m => rfl
  | a :: r, m => by simp [cellsP, cellsP_append r m]
theorem cellsP_at : ∀ (l : List Pt) (k : Nat) (a : Pt), l[k]? = some a → (cellsP l)[k * 2]? = some (.int .i64 a.x) ∧ (cellsP l)[k * 2 + 1]? = some (.int .i64 a.y)
  | [], k, a, h => by simp at h
  | b :: r, 0, a, h => by
    simp at h
    subst h
    simp [cellsP]
  | b :: r, k + 1, a, h => by
    have := cellsP_at r k a (by simpa using h)
    simp only [cellsP]
    rw [show (k + 1) * 2 = k * 2 + 1 + 1 by omega, show k * 2 + 1 + 1 + 1 = (k * 2 + 1) + 1 + 1 by omega]
    simpa using this
theorem CRow.of_owns {w : World} {base n : Nat} {v : Value} {e : TypeId} {l : List Pt} (h : w.ownsRow base e 1 v n (l.map cxP)) : CRow w v l := by
  obtain ⟨hl, h⟩ := h
  rw [List.length_map] at hl
  have hn : n = l.length := by omega
  subst hn
  rcases h with ⟨rfl, h0⟩ | ⟨g, cap, cur, rfl, -, hg, -, -, -, ht⟩
  · exact .inl ⟨rfl, List.eq_nil_of_length_eq_zero h0⟩
  · refine .inr ⟨g, 0, cap, rfl, fun k p hk => ?_⟩
    have hlt : k < l.length := (List.getElem?_eq_some_iff.1 hk).1
    have h1 : (l.map cxP)[k]? = some (cxP p) := by rw [List.getElem?_map, hk]; rfl
    rw [← ht, List.getElem?_take_of_lt (by omega)] at h1
    simp [World.cell?, hg]
    simpa using h1
theorem PRow.of_owns {w : World} {base n : Nat} {v : Value} {e : TypeId} {l : List Pt} (h : w.ownsRow base e 2 v n (cellsP l)) : PRow w v l := by
  obtain ⟨hl, h⟩ := h
  rw [cellsP_length] at hl
  have hn : n = l.length := by omega
  subst hn
  rcases h with ⟨rfl, h0⟩ | ⟨g, cap, cur, rfl, -, hg, -, -, -, ht⟩
  · exact .inl ⟨rfl, List.eq_nil_of_length_eq_zero h0⟩
  · refine .inr ⟨g, 0, cap, rfl, fun k p hk => ?_⟩
    have hlt : k < l.length := (List.getElem?_eq_some_iff.1 hk).1
    obtain ⟨h1, h2⟩ := cellsP_at l k p hk
    rw [← ht, List.getElem?_take_of_lt (by omega)] at h1 h2
    have e : ∀ n u, cur.toList[n]? = some u → w.cell? ⟨g, n, none⟩ = some u := fun n u hu => by
      simp [World.cell?, hg]
      simpa using hu
    simp only [Nat.zero_add]
    exact ⟨e _ _ h1, e _ _ h2⟩
theorem CRow.keep {w w' : World} {v : Value} {l : List Pt} (h : CRow w v l) (hb : ∀ k, k < w.heap.size → w'.heap[k]? = w.heap[k]?) : CRow w' v l := by
  rcases h with h | ⟨g, o, c, hv, hc⟩
  · exact .inl h
  · refine .inr ⟨g, o, c, hv, fun k a hk => ?_⟩
    have h1 := hc k a hk
    rw [World.cell?_of_block (hb g (World.block_lt_of_cell? w _ h1))]
    exact h1
theorem CRow.up {w w' : World} {v : Value} {l : List Pt} (h : CRow w v l) (hm : More w w') : CRow w' v l := by
  obtain ⟨r, rfl⟩ := hm
  exact h.keep fun k hk => heap_more w r k hk
/-- What a row says, as a walk takes it. -/
theorem crow_form {w : World} {v : Value} {l : List Pt} (h : CRow w v l) : ∃ ao c, v = .slice ao l.length c ∧ (0 < l.length → ∃ b o, ao = some ⟨b, o, none⟩ ∧ ∀ k, k < l.length → b < w.heap.size ∧ w.cell? ⟨b, o + k, none⟩ = some (cxP (l.getD k ⟨0, 0⟩))) := by
  rcases h with ⟨rfl, rfl⟩ | ⟨b, o, c, rfl, hc⟩
  · exact ⟨none, 0, rfl, fun h => by simp at h⟩
  · refine ⟨_, c, rfl, fun _ => ⟨b, o, rfl, fun k hk => ?_⟩⟩
    have := hc k (l.getD k ⟨0, 0⟩) (by simp [List.getD, hk])
    exact ⟨World.block_lt_of_cell? w _ this, this⟩
theorem prow_form {w : World} {v : Value} {l : List Pt} (h : PRow w v l) : ∃ ao c, v = .slice ao l.length c ∧ (0 < l.length → ∃ b o, ao = some ⟨b, o, none⟩ ∧ ∀ k, k < l.length → b < w.heap.size ∧ w.cell? ⟨b, o + k * 2, none⟩ = some (.int .i64 (l.getD k ⟨0, 0⟩).x) ∧ w.cell? ⟨b, o + (k * 2 + 1), none⟩ = some (.int .i64 (l.getD k ⟨0, 0⟩).y)) := by
  rcases h with ⟨rfl, rfl⟩ | ⟨b, o, c, rfl, hc⟩
  · exact ⟨none, 0, rfl, fun h => by simp at h⟩
  · refine ⟨_, c, rfl, fun _ => ⟨b, o, rfl, fun k hk => ?_⟩⟩
    obtain ⟨h1, h2⟩ := hc k (l.getD k ⟨0, 0⟩) (by simp [List.getD, hk])
    exact ⟨World.block_lt_of_cell? w _ h1, h1, h2⟩

/-- The cells of a square of half side n, the i-th of them; the first k. -/
def cellAt (n i : Nat) : Pt := ⟨((i % (2 * n) : Nat) : Int) - n, ((i / (2 * n) : Nat) : Int) - n⟩
def cellsTo (n k : Nat) : List Pt := (List.range k).map (cellAt n)
theorem cellsTo_length (n k : Nat) : (cellsTo n k).length = k := by simp [cellsTo]
theorem cellsTo_succ (n k : Nat) : cellsTo n (k + 1) = cellsTo n k ++ [cellAt n k] := by simp [cellsTo, List.range_succ]
theorem cellAt_form (n j i : Nat) (h : i < 2 * n) : cellAt n (j * (2 * n) + i) = ⟨(i : Int) - n, (j : Int) - n⟩ := by
  unfold cellAt
  rw [Nat.mul_comm j, Nat.mul_add_mod, Nat.mod_eq_of_lt h, Nat.mul_add_div (by omega), Nat.div_eq_of_lt h, Nat.add_zero]
theorem cellsTo_at (n k i : Nat) (h : i < k) : (cellsTo n k).getD i ⟨0, 0⟩ = cellAt n i := by
  unfold cellsTo
  simp [List.getD, h]
theorem new_cell {w : World} {e : TypeId} {b : Nat} (u : Value) (hb : b = w.heap.size) : ∀ j x, [u][j]? = some x → (w.alloc (.cells #[u] e)).cell? ((⟨b, 0, none⟩ : Addr).add j) = some x := by
  subst hb
  intro j x hx
  have c : ∀ n (cur : Array Value), (w.alloc (.cells cur e)).cell? ⟨w.heap.size, n, none⟩ = cur[n]? := fun n cur => by
    simp only [World.cell?]
    rw [heap_alloc_new]
    rfl
  rw [Addr.add_lit, Nat.zero_add, c]
  simpa using hx
theorem new_cell2 {w : World} {e : TypeId} {b : Nat} (u v : Value) (hb : b = w.heap.size) : ∀ j x, [u, v][j]? = some x → (w.alloc (.cells #[u, v] e)).cell? ((⟨b, 0, none⟩ : Addr).add j) = some x := by
  subst hb
  intro j x hx
  have c : ∀ n (cur : Array Value), (w.alloc (.cells cur e)).cell? ⟨w.heap.size, n, none⟩ = cur[n]? := fun n cur => by
    simp only [World.cell?]
    rw [heap_alloc_new]
    rfl
  rw [Addr.add_lit, Nat.zero_add, c]
  simpa using hx

theorem und_cs : Try.prog.underlying 22 = some (.slice 25) := by kernel_rfl
theorem info_cs : (Try.prog.info? 25).map (fun i => (i.zero, i.size, i.bytes)) = some (some (.complex .f64 0 0), 1, 16) := by kernel_rfl

set_option maxHeartbeats 4000000 in
set_option maxRecDepth 100000 in
theorem cells_c (n : Int) (W : World) : Calls Try.prog 8 #[.int .i64 n] W fun e w' => ∃ v', e = .returned v' ∧ More W w' ∧ CRow w' v' (cellsTo (clampI n 16).toNat (4 * (clampI n 16).toNat * (clampI n 16).toNat)) := by
  obtain ⟨i0, hi, hz0, hz1, hz2⟩ := info_parts info_cs
  obtain ⟨N, hN, hN16⟩ : ∃ N : Nat, min (max n 0) 16 = (N : Int) ∧ N ≤ 16 := ⟨(min (max n 0) 16).toNat, by omega, by omega⟩
  have hcl : (clampI n 16).toNat = N := by unfold clampI; omega
  rw [hcl]
  clear hcl
  have hC : ((4 * N * N : Nat) : Int) = 4 * (N : Int) * N := by simp
  have hC2 : 4 * N * N ≤ 1024 := by
    have : N * N ≤ 16 * 16 := Nat.mul_le_mul hN16 hN16
    have : 4 * N * N = 4 * (N * N) := Nat.mul_assoc 4 N N
    omega
  have hCa : 0 ≤ 4 * (N : Int) * N := by omega
  have hCb : 4 * (N : Int) * N ≤ 1024 := by omega
  go_enter Try.func8, Try.ntmps8
  go_wp2_with (first | (at_make; refine wpList_make_own _ rfl _ _ 22 rfl W.heap.size 25 i0 _ 1 und_cs hi hz0 hz1 _ _ _ (4 * N * N) rfl rfl hC.symm (by rw [hz2]; omega) (by simp only [maxLen]; omega) (by simp) ?_; intro w1 hown hgrow))
  go_loopw [3, 4] (fun v y wr => ∃ j : Nat, j ≤ 2 * N ∧ v = .slice (some ⟨W.heap.size, 0, none⟩) (j * (2 * N)) (4 * N * N) ∧ y = .int .i64 ((j : Int) - N) ∧ wr.ownsRow W.heap.size 25 1 v (j * (2 * N)) ((cellsTo N (j * (2 * N))).map cxP) ∧ Below W.heap.size W wr) (fun _ y _ => ((N : Int) - intOf y).toNat)
  case atStart => exact ⟨0, by omega, by rw [Nat.zero_mul], int_is (by omega), (by rw [Nat.zero_mul]; exact hown), (Below.refl _ _).grown hgrow (Nat.le_refl _) (fun _ h => by cases h)⟩
  case round =>
    obtain ⟨j, hj, rfl, rfl, hwn, hbl⟩ := hrel
    clear hown hgrow
    have hsz := hbl.size
    by_cases hjl : j < 2 * N
    · have hj3 : (j : Int) - N < N := by omega
      have hjm : (j + 1) * (2 * N) = j * (2 * N) + 2 * N := Nat.succ_mul j (2 * N)
      have hjx : (j + 1) * (2 * N) ≤ 4 * N * N := by
        have h1 : (j + 1) * (2 * N) ≤ (2 * N) * (2 * N) := Nat.mul_le_mul_right _ (by omega)
        have h2 : (2 * N) * (2 * N) = 4 * N * N := by grind
        omega
      obtain ⟨J, hJ⟩ : ∃ J, j * (2 * N) = J := ⟨_, rfl⟩
      have hat : ∀ i, i < 2 * N → cellAt N (J + i) = ⟨(i : Int) - N, (j : Int) - N⟩ := fun i hi => by rw [← hJ]; exact cellAt_form N j i hi
      rw [hJ] at hjm hwn
      rw [hjm] at hjx
      have HB := Lib.hid hbl
      have HA := Lib.hid hat
      have HJ := Lib.hid (show (j + 1) * (2 * N) = J + 2 * N from hjm)
      clear hbl hat hjm
      rw [hJ]
      clear hJ
      go_wp2_with (first | (at_make; refine wpList_make_own _ rfl _ _ 22 rfl W.heap.size 25 i0 _ 1 und_cs hi hz0 hz1 _ _ _ (4 * N * N) rfl rfl hC.symm (by rw [hz2]; omega) (by simp only [maxLen]; omega) (by simp) ?_; intro w1 hown hgrow))
      go_loopw [3, 5] (fun v x wr => ∃ i : Nat, i ≤ 2 * N ∧ v = .slice (some ⟨W.heap.size, 0, none⟩) (J + i) (4 * N * N) ∧ x = .int .i64 ((i : Int) - N) ∧ wr.ownsRow W.heap.size 25 1 v (J + i) ((cellsTo N (J + i)).map cxP) ∧ Below W.heap.size W wr) (fun _ x _ => ((N : Int) - intOf x).toNat)
      case atStart => exact ⟨0, by omega, rfl, int_is (by omega), hwn, HB.out⟩
      case round =>
        obtain ⟨i, hi2, rfl, rfl, hwn2, hbl2⟩ := hrel
        clear hwn hsz
        have hsz := hbl2.size
        by_cases hil : i < 2 * N
        · have hs : cellsTo N (J + i + 1) = cellsTo N (J + i) ++ [⟨(i : Int) - N, (j : Int) - N⟩] := by rw [cellsTo_succ, HA.out i hil]
          have HW := Lib.hid hwn2
          have HB2 := Lib.hid hbl2
          have HS := Lib.hid hs
          clear hwn2 hbl2 hs
          go_wp2_with (first | (at_builtin; refine wpList_append_fits _ rfl (.tmp 28) (.tmp 34) 22 rfl W.heap.size 25 i0 1 und_cs hi hz1 W.heap.size (J + i) (4 * N * N) _ rfl (owns_alloc HW.out) ⟨_, 0, none⟩ 1 1 [cxP ⟨(i : Int) - N, (j : Int) - N⟩] rfl rfl (new_cell _ (by simp)) (by simp [Value.oneCell']) (by omega) ?_; intro w2 hown2 hgrow2) | (first | (at_make; refine wpList_make_own _ rfl _ _ 22 rfl W.heap.size 25 i0 _ 1 und_cs hi hz0 hz1 _ _ _ (4 * N * N) rfl rfl hC.symm (by rw [hz2]; omega) (by simp only [maxLen]; omega) (by simp) ?_; intro w1 hown hgrow)))
          go_roundw
          case rel => exact ⟨i + 1, by omega, rfl, int_is (by omega), (by rw [← Nat.add_assoc, HS.out, List.map_append]; exact hown2), ((HB2.out.alloc (by omega) _).grown hgrow2 (by simp; omega) (fun _ h => by cases h; exact Nat.le_refl _))⟩
          case measure => simp [intOf]; omega
        · have hi3 : i = 2 * N := by omega
          subst hi3
          have HW := Lib.hid hwn2
          have HB2 := Lib.hid hbl2
          clear hwn2 hbl2
          go_wp2_with (first | (at_make; refine wpList_make_own _ rfl _ _ 22 rfl W.heap.size 25 i0 _ 1 und_cs hi hz0 hz1 _ _ _ (4 * N * N) rfl rfl hC.symm (by rw [hz2]; omega) (by simp only [maxLen]; omega) (by simp) ?_; intro w1 hown hgrow))
          go_roundw
          case rel => exact ⟨j + 1, by omega, by rw [HJ.out], int_is (by omega), (by rw [HJ.out]; exact HW.out), HB2.out⟩
          case measure => simp [intOf]; omega
    · have hj2 : j = 2 * N := by omega
      subst hj2
      have hl : 2 * N * (2 * N) = 4 * N * N := by grind
      have HB := Lib.hid hbl
      have HW := Lib.hid hwn
      have HL := Lib.hid hl
      clear hbl hwn hl
      go_wp2_with (first | (at_make; refine wpList_make_own _ rfl _ _ 22 rfl W.heap.size 25 i0 _ 1 und_cs hi hz0 hz1 _ _ _ (4 * N * N) rfl rfl hC.symm (by rw [hz2]; omega) (by simp only [maxLen]; omega) (by simp) ?_; intro w1 hown hgrow))
      go_returns
      exact ⟨_, rfl, more_of_below HB.out, by
        have g := CRow.of_owns HW.out
        have e : cellsTo N (2 * N * (2 * N)) = cellsTo N (4 * N * N) := by rw [HL.out]
        rw [e] at g
        exact g⟩

theorem cellAt_bd (M k : Nat) (h1 : 1 ≤ M) (h2 : M ≤ 16) (hk : k < 4 * M * M) : ∃ X Y : Int, (k : Int) % (2 * (M : Int)) - M = X ∧ (k : Int) / (2 * (M : Int)) - M = Y ∧ cellAt M k = ⟨X, Y⟩ ∧ (-1000 ≤ X ∧ X ≤ 1000) ∧ (-2000 ≤ Y ∧ Y ≤ 2000) := by
  have m1 : M * M ≤ 16 * 16 := Nat.mul_le_mul h2 h2
  have m2 : 4 * M * M = 4 * (M * M) := Nat.mul_assoc 4 M M
  have e1 : ((k % (2 * M) : Nat) : Int) = (k : Int) % (2 * (M : Int)) := by rw [Int.natCast_emod]; rfl
  have e2 : ((k / (2 * M) : Nat) : Int) = (k : Int) / (2 * (M : Int)) := by rw [Int.natCast_ediv]; rfl
  have l1 : k % (2 * M) < 2 * M := Nat.mod_lt _ (by omega)
  have l2 : k / (2 * M) ≤ k := Nat.div_le_self _ _
  refine ⟨_, _, rfl, rfl, ?_, ?_, ?_⟩
  · unfold cellAt; rw [e1, e2]
  · rw [← e1]
    clear e1 e2
    generalize k % (2 * M) = d at *
    omega
  · rw [← e2]
    clear e1 e2
    generalize k / (2 * M) = d at *
    omega

/-- The cells of a square of half side M, as a walk takes them. -/
theorem cells_at (M : Nat) (h1 : 1 ≤ M) (h2 : M ≤ 16) (W : World) : Calls Try.prog 8 #[.int .i64 M] W fun e w' => ∃ b o c, e = .returned (.slice (some ⟨b, o, none⟩) (4 * M * M) c) ∧ More W w' ∧ b < w'.heap.size ∧ ∀ k, k < 4 * M * M → w'.cell? ⟨b, o + k, none⟩ = some (cxP (cellAt M k)) := by
  refine (cells_c M W).mono ?_
  rintro e w' ⟨v', rfl, hm, hr⟩
  obtain ⟨ao, c, rfl, hc⟩ := crow_form hr
  have hM : (clampI (M : Int) 16).toNat = M := by unfold clampI; omega
  rw [hM] at hc ⊢
  rw [cellsTo_length] at hc ⊢
  have hp : 0 < 4 * M * M := Nat.mul_pos (by omega) (by omega)
  obtain ⟨b, o, rfl, hd⟩ := hc hp
  refine ⟨b, o, c, rfl, hm, (hd 0 hp).1, fun k hk => ?_⟩
  have := (hd k hk).2
  rw [cellsTo_at _ _ _ hk] at this
  exact this

theorem und_ps : Try.prog.underlying 49 = some (.slice 42) := by kernel_rfl
theorem info_ps : (Try.prog.info? 42).map (fun i => (i.zero, i.size, i.bytes)) = some (some (.agg #[.int .i64 0, .int .i64 0]), 2, 16) := by kernel_rfl

set_option maxHeartbeats 4000000 in
set_option maxRecDepth 100000 in
theorem rcells_c (n : Int) (W : World) : Calls Try.prog 24 #[.int .i64 n] W fun e w' => ∃ v', e = .returned v' ∧ More W w' ∧ PRow w' v' (cellsTo (clampI n 16).toNat (4 * (clampI n 16).toNat * (clampI n 16).toNat)) := by
  obtain ⟨i0, hi, hz0, hz1, hz2⟩ := info_parts info_ps
  obtain ⟨N, hN, hN16⟩ : ∃ N : Nat, max 0 (min 16 n) = (N : Int) ∧ N ≤ 16 := ⟨(max 0 (min 16 n)).toNat, by omega, by omega⟩
  have hcl : (clampI n 16).toNat = N := by unfold clampI; omega
  rw [hcl]
  clear hcl
  have hC2 : 4 * N * N ≤ 1024 := by
    have : N * N ≤ 16 * 16 := Nat.mul_le_mul hN16 hN16
    have : 4 * N * N = 4 * (N * N) := Nat.mul_assoc 4 N N
    omega
  go_enter Try.func24, Try.ntmps24
  go_wp2_with (first | (go_at_call 36; (with_reducible refine (within_c _ _ _ _).mono ?_); rintro e w' ⟨rfl, rfl⟩) | (go_at_call 36; (with_reducible refine (within_c _ _ _ _).mono ?_); rintro e w' ⟨rfl, rfl⟩))
  go_loopw [3, 4] (fun v y wr => ∃ j : Nat, j ≤ 2 * N ∧ y = .int .i64 ((j : Int) - N) ∧ wr.ownsRow W.heap.size 42 2 v (j * (2 * N)) (cellsP (cellsTo N (j * (2 * N)))) ∧ Below W.heap.size W wr) (fun _ y _ => ((N : Int) - intOf y).toNat)
  case atStart => exact ⟨0, by omega, int_is (by omega), (by rw [Nat.zero_mul]; exact World.ownsRow_nil _ _ _ _), Below.refl _ _⟩
  case round =>
    obtain ⟨j, hj, rfl, hwn, hbl⟩ := hrel
    have hsz := hbl.size
    by_cases hjl : j < 2 * N
    · have hj3 : (j : Int) - N < N := by omega
      have hjm : (j + 1) * (2 * N) = j * (2 * N) + 2 * N := Nat.succ_mul j (2 * N)
      have hjx : (j + 1) * (2 * N) ≤ 4 * N * N := by
        have h1 : (j + 1) * (2 * N) ≤ (2 * N) * (2 * N) := Nat.mul_le_mul_right _ (by omega)
        have h2 : (2 * N) * (2 * N) = 4 * N * N := by grind
        omega
      obtain ⟨J, hJ⟩ : ∃ J, j * (2 * N) = J := ⟨_, rfl⟩
      have hat : ∀ i, i < 2 * N → cellAt N (J + i) = ⟨(i : Int) - N, (j : Int) - N⟩ := fun i hi => by rw [← hJ]; exact cellAt_form N j i hi
      rw [hJ] at hjm hwn
      rw [hjm] at hjx
      have HB := Lib.hid hbl
      have HA := Lib.hid hat
      have HJ := Lib.hid (show (j + 1) * (2 * N) = J + 2 * N from hjm)
      have HW0 := Lib.hid hwn
      clear hbl hat hjm hwn
      clear hJ
      go_wp2_with (first | (go_at_call 36; (with_reducible refine (within_c _ _ _ _).mono ?_); rintro e w' ⟨rfl, rfl⟩) | (go_at_call 36; (with_reducible refine (within_c _ _ _ _).mono ?_); rintro e w' ⟨rfl, rfl⟩))
      go_loopw [3, 5] (fun v x wr => ∃ i : Nat, i ≤ 2 * N ∧ x = .int .i64 ((i : Int) - N) ∧ wr.ownsRow W.heap.size 42 2 v (J + i) (cellsP (cellsTo N (J + i))) ∧ Below W.heap.size W wr) (fun _ x _ => ((N : Int) - intOf x).toNat)
      case atStart => exact ⟨0, by omega, int_is (by omega), HW0.out, HB.out⟩
      case round =>
        obtain ⟨i, hi2, rfl, hwn2, hbl2⟩ := hrel
        clear hsz
        have hsz := hbl2.size
        by_cases hil : i < 2 * N
        · have hs : cellsTo N (J + i + 1) = cellsTo N (J + i) ++ [⟨(i : Int) - N, (j : Int) - N⟩] := by rw [cellsTo_succ, HA.out i hil]
          have HW := Lib.hid hwn2
          have HB2 := Lib.hid hbl2
          have HS := Lib.hid hs
          clear hwn2 hbl2 hs
          go_wp2_with (first | (at_builtin; refine wpList_append_row _ rfl (.tmp 22) (.tmp 26) 49 rfl W.heap.size 42 i0 _ 2 16 und_ps hi hz0 hz1 hz2 rfl (by decide) _ (J + i) _ rfl (owns_alloc HW.out) ⟨_, 0, none⟩ 1 1 [.int .i64 ((i : Int) - N), .int .i64 ((j : Int) - N)] rfl rfl (new_cell2 _ _ (by simp)) (by simp [Value.oneCell']) (by decide) (by simp only [maxLen]; omega) (by omega) (by simp; omega) ?_; intro v2 w2 hown2 hgrow2 hblk) | (first | (go_at_call 36; (with_reducible refine (within_c _ _ _ _).mono ?_); rintro e w' ⟨rfl, rfl⟩) | (go_at_call 36; (with_reducible refine (within_c _ _ _ _).mono ?_); rintro e w' ⟨rfl, rfl⟩)))
          go_roundw
          case rel => exact ⟨i + 1, by omega, int_is (by omega), (by rw [← Nat.add_assoc, HS.out, cellsP_append]; exact hown2), (HB2.out.alloc (by omega) _).grown hgrow2 (by simp; omega) (fun g hg => (HW.out.lt g hg).1)⟩
          case measure => simp [intOf]; omega
        · have hi3 : i = 2 * N := by omega
          subst hi3
          have HW := Lib.hid hwn2
          have HB2 := Lib.hid hbl2
          clear hwn2 hbl2
          go_wp2_with (first | (go_at_call 36; (with_reducible refine (within_c _ _ _ _).mono ?_); rintro e w' ⟨rfl, rfl⟩) | (go_at_call 36; (with_reducible refine (within_c _ _ _ _).mono ?_); rintro e w' ⟨rfl, rfl⟩))
          go_roundw
          case rel => exact ⟨j + 1, by omega, int_is (by omega), (by rw [HJ.out]; exact HW.out), HB2.out⟩
          case measure => simp [intOf]; omega
    · have hj2 : j = 2 * N := by omega
      subst hj2
      have hl : 2 * N * (2 * N) = 4 * N * N := by grind
      have HB := Lib.hid hbl
      have HW := Lib.hid hwn
      have HL := Lib.hid hl
      clear hbl hwn hl
      go_wp2_with (first | (go_at_call 36; (with_reducible refine (within_c _ _ _ _).mono ?_); rintro e w' ⟨rfl, rfl⟩) | (go_at_call 36; (with_reducible refine (within_c _ _ _ _).mono ?_); rintro e w' ⟨rfl, rfl⟩))
      go_returns
      exact ⟨_, rfl, more_of_below HB.out, by
        have g := PRow.of_owns HW.out
        have e : cellsTo N (2 * N * (2 * N)) = cellsTo N (4 * N * N) := by rw [HL.out]
        rw [e] at g
        exact g⟩

end Go.Proofs.Ytnkiikdlmlaklaa

