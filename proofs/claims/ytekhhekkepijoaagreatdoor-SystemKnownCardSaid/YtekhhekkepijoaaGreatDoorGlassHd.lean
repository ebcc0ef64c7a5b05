/-
  The glasses that are handed in: their decimals, the slice of them.
-/
import Derived.Test.YtekhhekkepijoaaGreatDoorGlass
import Derived.Test.YtekhhekkepijoaaGreatDoorGlassRdW
import Derived.Test.YtekhhekkepijoaaGreatDoorGf
import Derived.Test.YtekhhekkepijoaaGreatDoorRef8
import Derived.Test.YtekhhekkepijoaaGreatDoorGe
namespace Go.Proofs.YtekhhekkepijoaaGreatDoor
set_option linter.unusedVariables false
open Go.ChangeShapes Go.WideShapes Go.ChangeAt Go.RowKit

theorem cellNat_two0 (W : World) (o : Obj) (a b : Int) (T : TypeId) : cellNat ((W.alloc o).alloc (.cells #[.int .i64 a, .int .i64 b] T)) (W.heap.size + 1) 1 = b.toNat := by
  have := cellNat_two W o ⟨#[], ((W.alloc o).alloc (.cells #[.int .i64 a, .int .i64 b] T)).drawn⟩ a b T
  rwa [more_self] at this

set_option maxHeartbeats 4000000 in
theorem hdec_c (c s : Int) (h0 : 0 ≤ s) (h1 : s ≤ 6) (g0 : -9223372036854775808 ≤ c) (g1 : c ≤ 9223372036854775807) (W : World) :
    Calls Tryz.prog 18 #[.int .i64 c, .int .i64 s] W fun e w' => e = .returned (decV (decH c s.toNat)) ∧ More W w' := by
  obtain ⟨n, rfl⟩ := Int.eq_ofNat_of_zero_le h0
  rw [Int.toNat_natCast]
  obtain ⟨D, hD⟩ : ∃ D, decH c n = D := ⟨_, rfl⟩
  rw [hD]
  go_enter Tryz.func18, Tryz.ntmps18
  go_wp2_with fail
  go_loopw [] (fun wr => ∃ (c' : Int) (k : Nat), wr = (W.alloc (.cells #[.int .i64 0, .int .i64 0] 25)).alloc (.cells #[.int .i64 c', .int .i64 k] 25) ∧ decH c' k = D ∧ k ≤ 6 ∧ -9223372036854775808 ≤ c' ∧ c' ≤ 9223372036854775807) (fun wr => cellNat wr (W.heap.size + 1) 1)
  case atStart => exact ⟨c, n, rfl, hD, by omega, g0, g1⟩
  case round =>
    obtain ⟨c', k, rfl, hd, hk, b0, b1⟩ := hrel
    cases k with
    | zero =>
      have e : D = ⟨c', 0⟩ := hd.symm
      subst e
      go_wp2_with fail
      go_returns
      exact ⟨rfl, (by repeat (first | exact More.refl _ | refine More.alloc ?_ _ | refine More.more ?_ _ | refine More.drew ?_ | refine More.drewN ?_ _))⟩
    | succ k =>
      unfold decH at hd
      have ht := tdiv_bd c' 10 b0 b1 (by omega)
      by_cases hz : c'.tmod 10 = 0
      · rw [if_pos hz] at hd
        have hq : (c'.tmod 10 == 0) = true := by simpa using hz
        have HD := Lib.hid hd
        clear hd hD hz
        go_wp2_with fail
        go_roundw
        case rel => exact ⟨_, k, rfl, HD.out, by omega, ht.1, ht.2⟩
        case measure => rw [cellNat_two0, cellNat_two0]; omega
      · rw [if_neg hz] at hd
        subst hd
        have hq : (c'.tmod 10 == 0) = false := by simpa using hz
        go_wp2_with fail
        go_returns
        exact ⟨rfl, (by repeat (first | exact More.refl _ | refine More.alloc ?_ _ | refine More.more ?_ _ | refine More.drew ?_ | refine More.drewN ?_ _))⟩

/-- The row of glasses that is made: a crown, a flint, and so many of the raw ones. -/
def rowG (l : List Int) (k : Nat) : List Gl := crownG :: flintG :: rawsG l k
theorem rowG_len (l : List Int) (k : Nat) : (rowG l k).length = k + 2 := by simp [rowG, rawsG_len]
theorem rowG_succ (l : List Int) (k : Nat) : rowG l (k + 1) = rowG l k ++ [rawG k (l.getD k 0)] := by
  unfold rowG
  rw [rawsG_succ]
  rfl
theorem glasses_row (l : List Int) (k : Nat) (h : k = min l.length 3) : glassesG l = rowG l k := by
  subst h
  rfl
theorem own_lit {W : World} {r : Rest} {T : TypeId} (L : List Gl) (hL : L.length ≤ maxLen) : OwnW W ((more W r).alloc (.cells (flatC cellsG L).toArray T)) W.heap.size T 13 (.slice (some ⟨W.heap.size + r.len, 0, none⟩) L.length L.length) L.length (flatC cellsG L) := by
  refine ⟨_, alloc_rest' W r _, OwnS.of rfl ?_⟩
  rw [← alloc_rest']
  refine ⟨flatC_length cellsG 13 cellsG_len L, .inr ⟨_, _, _, rfl, by omega, (by rw [← size_more]; exact heap_alloc_new _ _), Nat.le_refl _, hL, by simp [flatC_length cellsG 13 cellsG_len L], ?_⟩⟩
  rw [← flatC_length cellsG 13 cellsG_len L]
  simp

set_option maxHeartbeats 16000000 in
set_option maxRecDepth 100000 in
theorem glasses_c (s0 : Value) (l : List Int) (W : World) (i0 : Ints W s0 l) (k0 : ∀ n ∈ l, -9223372036854775808 ≤ n ∧ n ≤ 9223372036854775807) (m0 : l.length ≤ 9223372036854775807) :
    Calls Tryz.prog 5 #[s0] W fun e w' => ∃ v', e = .returned v' ∧ More W w' ∧ Gls w' v' (glassesG l) := by
  obtain ⟨j0, hi, hz0, hz1, hz2⟩ := info_parts info_gs
  go_enter Tryz.func5, Tryz.ntmps5
  go_wp2_with (first | (go_at_call 18; (with_reducible refine (hdec_c _ _ (by omega) (by omega) (by omega) (by omega) _).mono ?_); rintro e w' ⟨rfl, r, rfl⟩) | (go_at_call 19; (with_reducible refine (digits8_c _ (by omega) (by omega) _).mono ?_); rintro e w' ⟨rfl, r, rfl⟩) | (go_at_call 20; (with_reducible refine (pick_c _ _ (by omega) (by omega) (by omega) (by omega) _).mono ?_); rintro e w' ⟨rfl, rfl⟩))
  go_loopw [3, 4] (fun v x wr => ∃ (k : Nat) (lv : Value), lv = v ∧ k ≤ 3 ∧ k ≤ l.length ∧ x = .int .i64 k ∧ Ints wr s0 l ∧ OwnW W wr W.heap.size 46 13 lv (rowG l k).length (flatC cellsG (rowG l k))) (fun _ x _ => 3 - (intOf x).toNat)
  case atStart => exact ⟨0, _, rfl, by omega, by omega, rfl, i0.up (by repeat (first | exact More.refl _ | refine More.alloc ?_ _ | refine More.more ?_ _ | refine More.drew ?_ | refine More.drewN ?_ _)), own_lit (rowG l 0) (by rw [rowG_len]; decide)⟩
  case round =>
    obtain ⟨k, lv, rfl, hk3, hkl, rfl, hI, hO⟩ := hrel
    have HI0 := Lib.hid i0
    clear i0
    obtain ⟨ao, ca, rfl, hcl⟩ := ints_form hI
    have HI := Lib.hid hI
    have HO := Lib.hid hO
    have HC := Lib.hid hcl
    clear hI hO hcl
    by_cases hk : k < l.length ∧ k < 3
    · obtain ⟨hk1, hk4⟩ := hk
      obtain ⟨b, o, rfl, hd⟩ := HC.out (by omega)
      obtain ⟨hb, f1⟩ := hd k hk1
      clear hd
      obtain ⟨y1, y2⟩ := k0 (l.getD k 0) (by simp [List.getD, hk1])
      obtain ⟨y, hy⟩ : ∃ y, l.getD k 0 = y := ⟨_, rfl⟩
      rw [hy] at f1 y1 y2
      obtain ⟨t1, t2⟩ := tdiv_bd y 7 y1 y2 (by omega)
      obtain ⟨t3, t4⟩ := tdiv_bd y 11 y1 y2 (by omega)
      obtain ⟨t5, t6⟩ := tdiv_bd y 13 y1 y2 (by omega)
      obtain ⟨t7, t8⟩ := tdiv_bd y 17 y1 y2 (by omega)
      have p1 := Int.emod_nonneg (y.tdiv 17) (show (200000 : Int) ≠ 0 by omega)
      have p2 := Int.emod_lt_of_pos (y.tdiv 17) (show (0 : Int) < 200000 by omega)
      have w7 : IntKind.i64.wrap (y.tdiv 7) = y.tdiv 7 := IntWalk.i64_in _ ⟨by omega, by omega⟩
      have w11 : IntKind.i64.wrap (y.tdiv 11) = y.tdiv 11 := IntWalk.i64_in _ ⟨by omega, by omega⟩
      have w13 : IntKind.i64.wrap (y.tdiv 13) = y.tdiv 13 := IntWalk.i64_in _ ⟨by omega, by omega⟩
      have w17 : IntKind.i64.wrap (y.tdiv 17) = y.tdiv 17 := IntWalk.i64_in _ ⟨by omega, by omega⟩
      have w18 : IntKind.i64.wrap (y.tdiv 17 % 200000 - 1000) = y.tdiv 17 % 200000 - 1000 := IntWalk.i64_in _ ⟨by omega, by omega⟩
      have HY := Lib.hid hy
      have q1 : ((k : Nat) : Int) < ((l.length : Nat) : Int) := by omega
      have q2 : ((k : Nat) : Int) < 3 := by omega
      have q3 : ((k : Nat) : Int) ≤ 1000000000 := by omega
      have v1 : (Lib.decDigits k).length ≤ 1 := dig_len 0 k (by omega)
      have v3 : ¬ 9223372036854775807 < 1 + (Lib.decDigits k).length := by omega
      clear hy
      go_wp2_with fail
      (first | (with_reducible refine wp_more_loose_tail_m (id := 5) 44 ?_ ?_ ?_ ?_ ?_) | (refine wp_more_loose_tail (id := 5) 44 ?_ ?_ ?_ ?_ ?_))
      · kernel_rfl
      · kernel_rfl
      · kernel_rfl
      · kernel_rfl
      simp only [List.take_succ_cons, List.take_zero, List.drop_succ_cons, List.drop_zero]
      (repeat (first | (refine loose_make 77 (OneAt 46 (cellsG (rawG k y))) rfl rfl (by simp) rfl (OneAt.up) (fun r => ?_) ?_; (go_simp; exact ⟨More.alloc (More.refl _) _, OneAt.new⟩)) | (refine loose_step rfl (fun K9 hK9 => ?_); go_simp; first | (refine hK9 _ ?_; clear hK9 K9) | (apply Exists.intro; refine ⟨fun _ => ?_, hK9 _ ?_⟩; ((first | (go_at_call 18; with_reducible exact hdec_c _ _ (by omega) (by omega) (by omega) (by omega) _) | (go_at_call 19; with_reducible exact digits8_c _ (by omega) (by omega) _) | (go_at_call 20; (with_reducible apply loose_same); with_reducible exact pick_c _ _ (by omega) (by omega) (by omega) (by omega) _))); clear hK9 K9))))
      intro r
      simp only [allFits]
      rintro u ⟨b9, rfl, hb9⟩
      go_wp2_with (first | (at_builtin; refine wpList_append_any rfl (.tmp 34) (.tmp 77) 22 rfl 46 j0 _ 13 112 und_gs hi hz0 hz1 hz2 rfl (by decide) _ (rowG l k).length (flatC cellsG (rowG l k)) rfl (HO.out.more _) (cellsG (rawG k y)) 1 _ rfl hb9 rfl (cellsG_one _) (by rw [rowG_len]; simp only [maxLen]; omega) (by rw [rowG_len]; omega) ?_; intro v2 w2 hown2; have HO2 := Lib.hid hown2.snoc; clear hown2))
      go_roundw
      case rel => exact ⟨k + 1, v2, rfl, by omega, by omega, rfl, HI0.out.up HO2.out.mono, by rw [rowG_succ, HY.out]; exact HO2.out⟩
      case measure => simp [intOf] <;> omega
    · by_cases hk1 : k < l.length
      · obtain rfl : k = 3 := by omega
        go_wp2_with fail
        go_returns
        exact ⟨_, rfl, HO.out.mono, by have := HO.out.gls; rw [← glasses_row l 3 (by omega)] at this; exact this⟩
      · go_wp2_with fail
        go_returns
        exact ⟨_, rfl, HO.out.mono, by have := HO.out.gls; rw [← glasses_row l k (by omega)] at this; exact this⟩

end Go.Proofs.YtekhhekkepijoaaGreatDoor

