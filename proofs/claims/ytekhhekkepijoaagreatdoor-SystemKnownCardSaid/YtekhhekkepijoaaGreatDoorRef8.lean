/-
  The contracts of what the statements of chapter 9 lean on: decimals said plainly.
-/
import Derived.Test.YtekhhekkepijoaaGreatDoorGz5
import Derived.Test.YtekhhekkepijoaaGreatDoorGc
import Derived.Test.YtekhhekkepijoaaGreatDoorGa
import Derived.Test.YtekhhekkepijoaaGreatDoorGb
import Derived.Laws.BytesArg
namespace Go.Proofs.YtekhhekkepijoaaGreatDoor
set_option linter.unusedVariables false
open Go.ChangeShapes Go.WideShapes Go.ChangeAt Go.RowKit

/-- A slice of one byte. -/
def Byte1 (w : World) (u : Value) (b : Int) : Prop := ∃ g, u = .slice (some ⟨g, 0, none⟩) 1 1 ∧ w.cell? ⟨g, 0, none⟩ = some (.int .u8 b)
theorem Byte1.up {w w' : World} {u : Value} {b : Int} (h : Byte1 w u b) (hm : More w w') : Byte1 w' u b := by
  obtain ⟨r, rfl⟩ := hm
  obtain ⟨g, e, hc⟩ := h
  refine ⟨g, e, ?_⟩
  rw [World.cell?_of_block (heap_more w r g (World.block_lt_of_cell? w _ hc))]
  exact hc
theorem Byte1.new {w : World} {g : Nat} {b : Int} {T : TypeId} (h : g = w.heap.size) : Byte1 (w.alloc (.cells #[.int .u8 b] T)) (.slice (some ⟨g, 0, none⟩) 1 1) b := by
  subst h
  exact ⟨_, rfl, by simp⟩
theorem byte_text (w : World) (g : Nat) (b : Int) (hc : w.cell? ⟨g, 0, none⟩ = some (.int .u8 b)) : (convert 85 9 (.slice (some ⟨g, 0, none⟩) 1 1)).run Tryz.prog w = .ok (.string (bsOf [UInt8.ofNat b.toNat])) w :=
  run_convert_bytes_arg (P := Tryz.prog) w 85 5 (by kernel_rfl) (by kernel_rfl) g 0 1 1 [b] rfl (fun i hi => by
    have : i = 0 := by omega
    subst this
    simpa using hc) 9 (by kernel_rfl)
theorem Byte1.text {w : World} {u : Value} {b : Int} (h : Byte1 w u b) : (convert 85 9 u).run Tryz.prog w = .ok (.string (bsOf [UInt8.ofNat b.toNat])) w := by
  obtain ⟨g, rfl, hc⟩ := h
  exact byte_text w g b hc

theorem digits8_all : ∀ (N k : Nat) (W : World), k < N → k ≤ 1000000000 → Calls Tryz.prog 19 #[.int .i64 (k : Int)] W fun e w' => e = .returned (.string (bsOf (Lib.decDigits k))) ∧ More W w' := by
  intro N
  induction N with
  | zero => intro k W h; omega
  | succ N ih =>
    intro k W hN hk
    by_cases h : k < 10
    · rw [Lib.decDigits_one h]
      have kc : ∀ (w : World) (b : Int) (T : TypeId), (convert 85 9 (.slice (some ⟨w.heap.size, 0, none⟩) 1 1)).run Tryz.prog (w.alloc (.cells #[.int .u8 b] T)) = .ok (.string (bsOf [UInt8.ofNat b.toNat])) (w.alloc (.cells #[.int .u8 b] T)) := fun w b T => byte_text _ _ _ (by simp)
      go_enter Tryz.func19, Tryz.ntmps19
      go_wp2_with (first | ((with_reducible show Code.wp _ (Code.region 5 _ true) _ _ _); (with_reducible refine wp_more_quick_m (id := 5) ?_ ?_ ?_); kernel_rfl; kernel_rfl; (try simp only [List.take_succ_cons, List.take_zero, List.drop_succ_cons, List.drop_zero]); (repeat (any_goals (first | go_big_quiet_step (fail) | quiet_step (fail)))); (with_reducible refine wpQuiet_nil ?_); intro r) | ((with_reducible show Code.wp _ (Code.region 5 _ true) _ _ _); (with_reducible refine wp_more_quick (id := 5) ?_ ?_ ?_); kernel_rfl; kernel_rfl; (try simp only [List.take_succ_cons, List.take_zero, List.drop_succ_cons, List.drop_zero]); (repeat (any_goals (first | go_big_quiet_step (fail) | quiet_step (fail)))); (with_reducible refine wpQuiet_nil ?_); intro r))
      go_returns
      exact ⟨rfl, (by repeat (first | exact More.refl _ | refine More.alloc ?_ _ | refine More.more ?_ _ | refine More.drew ?_ | refine More.drewN ?_ _))⟩
    · have IH : ∀ W' : World, Calls Tryz.prog 19 #[.int .i64 ((k : Int) / 10)] W' fun e w' => e = .returned (.string (bsOf (Lib.decDigits (k / 10)))) ∧ More W' w' := fun W' => ih (k / 10) W' (by omega) (by omega)
      have hlen := dig_len 9 (k / 10) (by omega)
      rw [decDigits_big h]
      have h' : 10 ≤ k := by omega
      clear h ih
      have w1 : IntKind.i64.wrap ((k : Int) / 10) = (k : Int) / 10 := by rw [IntKind.wrap_i64]; omega
      have w2 : IntKind.i64.wrap ((k : Int) % 10) = (k : Int) % 10 := by rw [IntKind.wrap_i64]; omega
      have w3 : IntKind.i64.wrap (48 + (k : Int) % 10) = 48 + (k : Int) % 10 := by rw [IntKind.wrap_i64]; omega
      have w4 : IntKind.u8.wrap (48 + (k : Int) % 10) = 48 + (k : Int) % 10 := by rw [IntKind.wrap_u8]; omega
      have w6 : ¬ 9223372036854775807 < (Lib.decDigits (k / 10)).length + 1 := by omega
      have w7 : (48 + (k : Int) % 10).toNat = 48 + k % 10 := by omega
      have w5 : (k : Int).tmod 10 = (k : Int) % 10 := Int.tmod_eq_emod_of_nonneg (by omega)
      go_enter Tryz.func19, Tryz.ntmps19
      go_wp2_with (first | ((with_reducible show Code.wp _ (Code.region 5 _ true) _ _ _); (with_reducible refine wp_more_quick_m (id := 5) ?_ ?_ ?_); kernel_rfl; kernel_rfl; (try simp only [List.take_succ_cons, List.take_zero, List.drop_succ_cons, List.drop_zero]); (repeat (any_goals (first | go_big_quiet_step (fail) | quiet_step (fail)))); (with_reducible refine wpQuiet_nil ?_); intro r) | ((with_reducible show Code.wp _ (Code.region 5 _ true) _ _ _); (with_reducible refine wp_more_quick (id := 5) ?_ ?_ ?_); kernel_rfl; kernel_rfl; (try simp only [List.take_succ_cons, List.take_zero, List.drop_succ_cons, List.drop_zero]); (repeat (any_goals (first | go_big_quiet_step (fail) | quiet_step (fail)))); (with_reducible refine wpQuiet_nil ?_); intro r))
      (first | (with_reducible refine wp_more_loose_m (id := 5) ?_ ?_ ?_) | (refine wp_more_loose (id := 5) ?_ ?_ ?_))
      · kernel_rfl
      · kernel_rfl
      repeat (first
        | (refine loose_make 23 (fun u w => Byte1 w u (48 + (k : Int) % 10)) rfl rfl (by simp) rfl (fun _ _ _ hm h => Byte1.up h hm) (fun r => ?_) ?_; (go_simp; refine ⟨More.alloc (More.refl _) _, ?_⟩; exact Byte1.new (by simp)))
        | (refine loose_use 23 rfl (fun _ => rfl) ?_; apply Exists.intro; refine ⟨fun r u hu => ?_, ?_⟩; (have kc := Byte1.text (b := 48 + (k : Int) % 10) hu; go_simp; with_reducible rfl))
        | (refine loose_step rfl (fun K9 hK9 => ?_); go_simp; first | (refine hK9 _ ?_; clear hK9 K9) | (apply Exists.intro; refine ⟨fun _ => ?_, hK9 _ ?_⟩; (first | with_reducible exact IH _ | with_reducible rfl | skip); clear hK9 K9)))
      intro r
      simp only [allFits]
      intro u hu
      go_wp2_with (first | ((with_reducible show Code.wp _ (Code.region 5 _ true) _ _ _); (with_reducible refine wp_more_quick_m (id := 5) ?_ ?_ ?_); kernel_rfl; kernel_rfl; (try simp only [List.take_succ_cons, List.take_zero, List.drop_succ_cons, List.drop_zero]); (repeat (any_goals (first | go_big_quiet_step (fail) | quiet_step (fail)))); (with_reducible refine wpQuiet_nil ?_); intro r) | ((with_reducible show Code.wp _ (Code.region 5 _ true) _ _ _); (with_reducible refine wp_more_quick (id := 5) ?_ ?_ ?_); kernel_rfl; kernel_rfl; (try simp only [List.take_succ_cons, List.take_zero, List.drop_succ_cons, List.drop_zero]); (repeat (any_goals (first | go_big_quiet_step (fail) | quiet_step (fail)))); (with_reducible refine wpQuiet_nil ?_); intro r))
      go_returns
      exact ⟨by rw [UInt8.ofNat_add 48]; rfl, (by repeat (first | exact More.refl _ | refine More.alloc ?_ _ | refine More.more ?_ _ | refine More.drew ?_ | refine More.drewN ?_ _))⟩

set_option maxHeartbeats 4000000 in
theorem digits8_c (n : Int) (h0 : 0 ≤ n) (h1 : n ≤ 1000000000) (W : World) :
    Calls Tryz.prog 19 #[.int .i64 n] W fun e w' => e = .returned (.string (bsOf (Lib.decDigits n.toNat))) ∧ More W w' := by
  obtain ⟨k, rfl⟩ := Int.eq_ofNat_of_zero_le h0
  exact digits8_all (k + 1) k W (by omega) (by omega)

end Go.Proofs.YtekhhekkepijoaaGreatDoor

