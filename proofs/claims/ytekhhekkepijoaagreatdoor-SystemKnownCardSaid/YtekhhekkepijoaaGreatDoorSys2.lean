/-
  Is an interval among others? Lacks a system a number? Its last place; two of the same parts.
-/
import Derived.Test.YtekhhekkepijoaaGreatDoorSurf
import Derived.Test.YtekhhekkepijoaaGreatDoorGc
import Derived.Test.YtekhhekkepijoaaGreatDoorLensLn
namespace Go.Proofs.YtekhhekkepijoaaGreatDoor
set_option linter.unusedVariables false
open Go.ChangeShapes Go.WideShapes Go.ChangeAt Go.RowKit

theorem srow_at {W : World} {l : List Iv} {g o : Nat} (hc : ∀ k a, l[k]? = some a → W.cell? ⟨g, o + k * 3, none⟩ = some (.int .i64 a.lo) ∧ W.cell? ⟨g, o + k * 3 + 1, none⟩ = some (.int .i64 a.hi) ∧ W.cell? ⟨g, o + k * 3 + 2, none⟩ = some (.bool a.no)) {k : Nat} {y : Iv} (hk : l[k]? = some y) :
    g < W.heap.size ∧ W.cell? ⟨g, o + k * 3, none⟩ = some (.int .i64 y.lo) ∧ W.cell? ⟨g, o + (k * 3 + 1), none⟩ = some (.int .i64 y.hi) ∧ W.cell? ⟨g, o + (k * 3 + 2), none⟩ = some (.bool y.no) := by
  obtain ⟨h1, h2, h3⟩ := hc k y hk
  exact ⟨World.block_lt_of_cell? W _ h1, h1, h2, h3⟩
theorem any_up {α : Type} {p : α → Bool} {l : List α} {k : Nat} {y : α} (h : (l.take k).any p = false) (hk : l[k]? = some y) (hy : p y = false) : (l.take (k + 1)).any p = false := by
  rw [List.take_add_one, hk, List.any_append, h]
  simp [hy]

set_option maxHeartbeats 8000000 in
theorem idxI_c (v : Value) (l : List Iv) (x : Iv) (W : World) (h : Row W v l) (hl : l.length ≤ 1000000) :
    Calls Tryz.prog 87 #[v, ivV x] W fun e w' => (∃ z : Int, e = .returned (.int .i64 z) ∧ (decide (0 ≤ z) = l.any fun y => ivEq x y) ∧ -1 ≤ z ∧ z ≤ 1000000) ∧ More W w' := by
  obtain ⟨x1, x2, x3⟩ := x
  obtain ⟨ao, c, rfl, hc⟩ : ∃ ao c, v = .slice ao l.length c ∧ (0 < l.length → ∃ g o, ao = some ⟨g, o, none⟩ ∧ ∀ k a, l[k]? = some a → W.cell? ⟨g, o + k * 3, none⟩ = some (.int .i64 a.lo) ∧ W.cell? ⟨g, o + k * 3 + 1, none⟩ = some (.int .i64 a.hi) ∧ W.cell? ⟨g, o + k * 3 + 2, none⟩ = some (.bool a.no)) := by
    rcases h with ⟨rfl, rfl⟩ | ⟨g, o, c, rfl, hc⟩
    · exact ⟨_, _, rfl, fun h => by simp at h⟩
    · exact ⟨_, _, rfl, fun _ => ⟨g, o, rfl, hc⟩⟩
  have HC := Lib.hid hc
  clear hc h
  go_enter Tryz.func87, Tryz.ntmps87
  go_wp2_with fail
  go_loopw [8] (fun i wr => ∃ k : Nat, k ≤ l.length ∧ i = .int .i64 k ∧ ((l.take k).any fun y => ivEq ⟨x1, x2, x3⟩ y) = false ∧ More (W.alloc (.cells #[.int .i64 x1, .int .i64 x2, .bool x3] 36)) wr) (fun i _ => l.length - (intOf i).toNat)
  case atStart => exact ⟨0, by omega, rfl, rfl, (by repeat (first | exact More.refl _ | refine More.alloc ?_ _ | refine More.more ?_ _ | refine More.drew ?_ | refine More.drewN ?_ _))⟩
  case round =>
    obtain ⟨k, hk, rfl, ha, s, rfl⟩ := hrel
    have HA := Lib.hid ha
    clear ha
    by_cases hkl : k < l.length
    · obtain ⟨g, o, rfl, hc⟩ := HC.out (by omega)
      obtain ⟨y, hy⟩ : ∃ y, l[k]? = some y := ⟨l[k], List.getElem?_eq_getElem hkl⟩
      obtain ⟨hg, f1, f2, f3⟩ := srow_at hc hy
      obtain ⟨y1, y2, y3⟩ := y
      dsimp only at f1 f2 f3
      have HY := Lib.hid hy
      have E := eql_iv ⟨x1, x2, x3⟩ ⟨y1, y2, y3⟩
      clear hc hy
      cases he : ivEq ⟨x1, x2, x3⟩ ⟨y1, y2, y3⟩ with
      | true =>
        rw [he] at E
        have HE := Lib.hid he
        clear he
        go_wp2_with fail
        (first | (with_reducible refine wp_more_quick_m (id := 4) ?_ ?_ ?_) | (refine wp_more_quick (id := 4) ?_ ?_ ?_))
        · kernel_rfl
        · kernel_rfl
        (try simp only [List.append_eq, List.cons_append, List.nil_append])
        (repeat (any_goals (first | go_big_quiet_step (fail))))
        (with_reducible refine wpQuiet_nil ?_)
        intro r
        go_wp2_with fail
        go_returns
        refine ⟨⟨(k : Int), rfl, ?_, by omega, by omega⟩, (by repeat (first | exact More.refl _ | refine More.alloc ?_ _ | refine More.more ?_ _ | refine More.drew ?_ | refine More.drewN ?_ _))⟩
        rw [List.any_eq_true.2 ⟨_, List.mem_of_getElem? HY.out, HE.out⟩, decide_eq_true_iff]
        omega
      | false =>
        rw [he] at E
        have HE := Lib.hid he
        clear he
        go_wp2_with fail
        (first | (with_reducible refine wp_more_quick_m (id := 4) ?_ ?_ ?_) | (refine wp_more_quick (id := 4) ?_ ?_ ?_))
        · kernel_rfl
        · kernel_rfl
        (try simp only [List.append_eq, List.cons_append, List.nil_append])
        (repeat (any_goals (first | go_big_quiet_step (fail))))
        (with_reducible refine wpQuiet_nil ?_)
        intro r
        go_wp2_with fail
        go_roundw
        case rel => exact ⟨k + 1, by omega, rfl, any_up HA.out HY.out HE.out, (by repeat (first | exact More.refl _ | refine More.alloc ?_ _ | refine More.more ?_ _ | refine More.drew ?_ | refine More.drewN ?_ _))⟩
        case measure => simp [intOf] <;> omega
    · obtain rfl : k = l.length := by omega
      go_wp2_with fail
      go_returns
      refine ⟨⟨-1, rfl, ?_, by omega, by omega⟩, (by repeat (first | exact More.refl _ | refine More.alloc ?_ _ | refine More.more ?_ _ | refine More.drew ?_ | refine More.drewN ?_ _))⟩
      have h1 := HA.out
      rw [List.take_length] at h1
      rw [h1]
      rfl

set_option maxHeartbeats 8000000 in
theorem contI_c (v : Value) (l : List Iv) (x : Iv) (W : World) (h : Row W v l) (hl : l.length ≤ 1000000) :
    Calls Tryz.prog 66 #[v, ivV x] W fun e w' => e = .returned (.bool (l.any fun y => ivEq x y)) ∧ More W w' := by
  obtain ⟨x1, x2, x3⟩ := x
  obtain ⟨V, hV⟩ : ∃ V, (l.any fun y => ivEq ⟨x1, x2, x3⟩ y) = V := ⟨_, rfl⟩
  rw [hV]
  have HV := Lib.hid hV
  have HH := Lib.hid h
  clear hV h
  go_enter Tryz.func66, Tryz.ntmps66
  go_wp2_with fail
  go_at_call 87
  refine Calls.mono (idxI_c _ l ⟨x1, x2, x3⟩ _ (HH.out.up (by repeat (first | exact More.refl _ | refine More.alloc ?_ _ | refine More.more ?_ _ | refine More.drew ?_ | refine More.drewN ?_ _))) hl) ?_
  rintro e w' ⟨⟨z, rfl, hz, hz1, hz2⟩, r, rfl⟩
  rw [HV.out] at hz
  have HZ := Lib.hid hz
  clear hz
  go_wp2_with fail
  go_returns
  exact ⟨by rw [← HZ.out]; rfl, (by repeat (first | exact More.refl _ | refine More.alloc ?_ _ | refine More.more ?_ _ | refine More.drew ?_ | refine More.drewN ?_ _))⟩
end Go.Proofs.YtekhhekkepijoaaGreatDoor

