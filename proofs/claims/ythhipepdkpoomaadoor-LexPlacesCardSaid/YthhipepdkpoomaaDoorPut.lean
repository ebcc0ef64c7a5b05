/-
  The texts that are handed in: what is made of numbers and of a raw text: some text, of a bounded length.
-/
import Derived.Test.YthhipepdkpoomaaDoorText
import Derived.Test.YthhipepdkpoomaaDoorHand
namespace Go.Proofs.YthhipepdkpoomaaDoor
set_option linter.unusedVariables false
open Go.ChangeShapes Go.WideShapes Go.ChangeAt Go.RowKit

theorem pick_nat (n m : Int) (W : World) (hn : -9223372036854775808 ≤ n) (hn' : n ≤ 9223372036854775807) (hm : 0 < m) (hm' : m ≤ 9223372036854775807) : Calls Tryd.prog 13 #[.int .i64 n, .int .i64 m] W fun e w' => ∃ q : Nat, e = .returned (.int .i64 q) ∧ (q : Int) < m ∧ W = w' :=
  (pick_c n m hn hn' hm hm' W).mono fun e w' ⟨h1, h2⟩ => by
    have h0 := Int.emod_nonneg n (show m ≠ 0 by omega)
    obtain ⟨q, hq⟩ := Int.eq_ofNat_of_zero_le h0
    refine ⟨q, by rw [h1, hq], ?_, h2⟩
    rw [← hq]
    exact Int.emod_lt_of_pos _ hm
theorem Ints.keep {w w' : World} {v : Value} {l : List Int} (h : Ints w v l) (hb : ∀ k, k < w.heap.size → w'.heap[k]? = w.heap[k]?) : Ints w' v l := by
  rcases h with h | ⟨b, o, c, hv, hc⟩
  · exact .inl h
  · refine .inr ⟨b, o, c, hv, fun k n hk => ?_⟩
    have h1 := hc k n hk
    rw [World.cell?_of_block (hb b (World.block_lt_of_cell? w _ h1))]
    exact h1
theorem Ints.up {w w' : World} {v : Value} {l : List Int} (h : Ints w v l) (hm : More w w') : Ints w' v l := by
  obtain ⟨r, rfl⟩ := hm
  exact h.keep fun k hk => heap_more w r k hk

def wordsT : List (List UInt8) := [[97], [108, 101, 110, 115], [102, 97, 99, 101], [49], [45, 50, 46, 53, 48], [48, 46, 48, 48, 49], [32], [32, 32], [9], [10], [10], [35, 32, 120, 32, 121, 10], [120, 45, 49], [66, 95, 57], [49, 50, 51, 52, 53, 46, 54, 55, 56, 57, 48, 49], [45], [46], [33]]
def Wt (k : Nat) : List UInt8 := wordsT.getD k []
theorem Wt_len (k : Nat) : (Wt k).length ≤ 12 := by
  unfold Wt
  rw [List.getD_eq_getElem?_getD]
  cases h : wordsT[k]? with
  | none => simp
  | some x => exact List.all_eq_true.1 (show wordsT.all (fun y => decide (y.length ≤ 12)) = true by decide) x (List.mem_of_getElem? h) |> of_decide_eq_true
/-- The words lie in a block. -/
def WordsAt (w : World) (b : Nat) : Prop := ∀ k, k < 18 → w.cell? ⟨b, k, none⟩ = some (.string (bsOf (Wt k)))
theorem words_new {W : World} : WordsAt (W.alloc (.cells #[.string ⟨#[97]⟩, .string ⟨#[108, 101, 110, 115]⟩, .string ⟨#[102, 97, 99, 101]⟩, .string ⟨#[49]⟩, .string ⟨#[45, 50, 46, 53, 48]⟩, .string ⟨#[48, 46, 48, 48, 49]⟩, .string ⟨#[32]⟩, .string ⟨#[32, 32]⟩, .string ⟨#[9]⟩, .string ⟨#[10]⟩, .string ⟨#[10]⟩, .string ⟨#[35, 32, 120, 32, 121, 10]⟩, .string ⟨#[120, 45, 49]⟩, .string ⟨#[66, 95, 57]⟩, .string ⟨#[49, 50, 51, 52, 53, 46, 54, 55, 56, 57, 48, 49]⟩, .string ⟨#[45]⟩, .string ⟨#[46]⟩, .string ⟨#[33]⟩] 60)) W.heap.size := by
  intro k hk
  simp only [World.cell?]
  rw [heap_alloc_new]
  match k with
  | 0 | 1 | 2 | 3 | 4 | 5 | 6 | 7 | 8 | 9 | 10 | 11 | 12 | 13 | 14 | 15 | 16 | 17 => rfl
  | n + 18 => omega
theorem tdiv_sm (n k : Int) (h0 : -9223372036854775808 ≤ n) (h1 : n ≤ 9223372036854775807) (hk : 1 < k) : -9223372036854775808 ≤ n.tdiv k ∧ n.tdiv k ≤ 9223372036854775807 := tdiv_bd n k h0 h1 (by omega)

set_option maxHeartbeats 8000000 in
set_option maxRecDepth 100000 in
theorem put_c (s0 : Value) (l : List Int) (raw : List UInt8) (W : World) (i0 : Ints W s0 l) (k0 : ∀ n ∈ l, -9223372036854775808 ≤ n ∧ n ≤ 9223372036854775807) (m0 : l.length ≤ 9223372036854775807) (hr : raw.length ≤ 140737488355328) :
    Calls Tryd.prog 10 #[s0, .string (bsOf raw)] W fun e w' => ∃ t : List UInt8, e = .returned (.string (bsOf t)) ∧ t.length ≤ 40 * (raw.length + 30) ∧ More W w' := by
  go_enter Tryd.func10, Tryd.ntmps10
  go_wp2_with (first | (go_at_call 13; (with_reducible refine (pick_c _ _ (by omega) (by omega) (by omega) (by omega) _).mono ?_); rintro e w' ⟨rfl, rfl⟩))
  go_loopw [6, 7] (fun xs xi wr => ∃ (k : Nat) (t : List UInt8), k ≤ 40 ∧ k ≤ l.length ∧ xs = .string (bsOf t) ∧ xi = .int .i64 k ∧ t.length ≤ k * (raw.length + 30) ∧ More W wr ∧ Ints wr s0 l ∧ WordsAt wr W.heap.size) (fun _ xi _ => 40 - (intOf xi).toNat)
  case atStart => exact ⟨0, [], by omega, by omega, rfl, rfl, by simp, (by repeat (first | exact More.refl _ | refine More.alloc ?_ _ | refine More.more ?_ _ | refine More.drew ?_ | refine More.drewN ?_ _)), i0.up (by repeat (first | exact More.refl _ | refine More.alloc ?_ _ | refine More.more ?_ _ | refine More.drew ?_ | refine More.drewN ?_ _)), words_new⟩
  case round =>
    obtain ⟨k, t, hk40, hkl, rfl, rfl, ht, hM, hI, hW⟩ := hrel
    obtain ⟨ao, c, rfl, hcl⟩ := ints_form hI
    have HM := Lib.hid hM
    have HI := Lib.hid hI
    have HW := Lib.hid hW
    have HC := Lib.hid hcl
    clear hM hI hW hcl
    have hk2 : (k + 1) * (raw.length + 30) = k * (raw.length + 30) + (raw.length + 30) := Nat.succ_mul _ _
    have hk3 : k * (raw.length + 30) ≤ 40 * (raw.length + 30) := Nat.mul_le_mul_right _ hk40
    obtain ⟨M, hMM⟩ : ∃ M, k * (raw.length + 30) = M := ⟨_, rfl⟩
    rw [hMM] at hk2 hk3 ht
    have HE := Lib.hid hk2
    clear hk2 hMM
    by_cases hk : k < l.length ∧ k < 40
    · obtain ⟨hk1, hk4⟩ := hk
      obtain ⟨b, o, rfl, hd⟩ := HC.out (by omega)
      obtain ⟨hb, f1⟩ := hd k hk1
      clear hd
      obtain ⟨y1, y2⟩ := k0 (l.getD k 0) (by simp [List.getD, hk1])
      obtain ⟨y, hy⟩ : ∃ y, l.getD k 0 = y := ⟨_, rfl⟩
      rw [hy] at f1 y1 y2
      clear hy
      obtain ⟨y3, y4⟩ := tdiv_sm y 60 y1 y2 (by omega)
      go_wp2_with fail
      go_at_call 13
      refine Calls.mono (pick_nat _ _ _ y1 y2 (by omega) (by omega)) ?_
      rintro e w' ⟨q, rfl, hq, rfl⟩
      by_cases h18 : q < 18
      · have f2 := HW.out q h18
        have f3 := Wt_len q
        go_wp2_with (first | (go_at_call 13; (with_reducible refine (pick_c _ _ (by omega) (by omega) (by omega) (by omega) _).mono ?_); rintro e w' ⟨rfl, rfl⟩))
        go_roundw
        case rel => exact ⟨k + 1, t ++ Wt q, by omega, by omega, rfl, rfl, by have := HE.out; rw [List.length_append]; omega, HM.out, HI.out, HW.out⟩
        case measure => simp [intOf] <;> omega
      by_cases e18 : q = 18
      · subst e18
        go_wp2_with (first | (go_at_call 13; (with_reducible refine (pick_c _ _ (by omega) (by omega) (by omega) (by omega) _).mono ?_); rintro e w' ⟨rfl, rfl⟩))
        go_roundw
        case rel => exact ⟨k + 1, t ++ raw, by omega, by omega, rfl, rfl, by have := HE.out; rw [List.length_append]; omega, HM.out, HI.out, HW.out⟩
        case measure => simp [intOf] <;> omega
      by_cases e19 : q = 19
      · subst e19
        obtain ⟨al, hal2, hex⟩ : ∃ al : List UInt8, al.length = 26 ∧ ∀ n, (⟨#[97, 98, 99, 100, 101, 102, 103, 104, 105, 106, 107, 108, 109, 110, 111, 112, 113, 114, 115, 116, 117, 118, 119, 120, 121, 122]⟩ : ByteArray).extract 0 n = bsOf (al.take n) := ⟨[97, 98, 99, 100, 101, 102, 103, 104, 105, 106, 107, 108, 109, 110, 111, 112, 113, 114, 115, 116, 117, 118, 119, 120, 121, 122], rfl, fun n => extract_bs [97, 98, 99, 100, 101, 102, 103, 104, 105, 106, 107, 108, 109, 110, 111, 112, 113, 114, 115, 116, 117, 118, 119, 120, 121, 122] 0 n⟩
        go_wp2_with fail
        go_at_call 13
        refine Calls.mono (pick_nat _ _ _ y3 y4 (by omega) (by omega)) ?_
        rintro e w' ⟨p, rfl, hp, rfl⟩
        have htk : ∀ n, (al.take n).length ≤ 26 := fun n => by rw [List.length_take]; omega
        have htk2 := htk (15 + p)
        go_wp2_with (first | (go_at_call 13; (with_reducible refine (pick_c _ _ (by omega) (by omega) (by omega) (by omega) _).mono ?_); rintro e w' ⟨rfl, rfl⟩))
        go_roundw
        case rel => exact ⟨k + 1, t ++ al.take (15 + p), by omega, by omega, rfl, rfl, by have := HE.out; rw [List.length_append]; omega, HM.out, HI.out, HW.out⟩
        case measure => simp [intOf] <;> omega
      · have g18 : ((q : Int) == 18) = false := by simp; omega
        have g19 : ((q : Int) == 19) = false := by simp; omega
        have hp14 : q % 14 < 14 := Nat.mod_lt _ (by omega)
        have f2 := HW.out (q % 14) (by omega)
        have f3 := Wt_len (q % 14)
        obtain ⟨p, hp⟩ : ∃ p, q % 14 = p := ⟨_, rfl⟩
        have e1 : (q : Int).tmod 14 = (p : Int) := by rw [← hp]; first | exact (Int.ofNat_tmod q 14).symm | rfl
        have e2 : (q : Int) % 14 = (p : Int) := by rw [← hp]; omega
        rw [hp] at f2 f3 hp14
        clear hp
        go_wp2_with (first | (go_at_call 13; (with_reducible refine (pick_c _ _ (by omega) (by omega) (by omega) (by omega) _).mono ?_); rintro e w' ⟨rfl, rfl⟩))
        go_roundw
        case rel => exact ⟨k + 1, t ++ (Wt p ++ [32]), by omega, by omega, (by first | rfl | simp), rfl, by have := HE.out; simp only [List.length_append, List.length_singleton]; omega, HM.out, HI.out, HW.out⟩
        case measure => simp [intOf] <;> omega
    · by_cases hk1 : k < l.length
      · obtain rfl : k = 40 := by omega
        go_wp2_with (first | (go_at_call 13; (with_reducible refine (pick_c _ _ (by omega) (by omega) (by omega) (by omega) _).mono ?_); rintro e w' ⟨rfl, rfl⟩))
        go_returns
        exact ⟨t, rfl, by omega, HM.out⟩
      · go_wp2_with (first | (go_at_call 13; (with_reducible refine (pick_c _ _ (by omega) (by omega) (by omega) (by omega) _).mono ?_); rintro e w' ⟨rfl, rfl⟩))
        go_returns
        exact ⟨t, rfl, by omega, HM.out⟩
end Go.Proofs.YthhipepdkpoomaaDoor

