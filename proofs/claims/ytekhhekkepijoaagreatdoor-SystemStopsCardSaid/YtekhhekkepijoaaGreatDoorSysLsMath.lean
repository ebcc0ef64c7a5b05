/-
  A lens in one light: in a narrower light each number lies in the wider one's; where the faces are. Plain lists.
-/
import Derived.Test.YtekhhekkepijoaaGreatDoorGy5
import Derived.Test.YtekhhekkepijoaaGreatDoorGb
namespace Go.Proofs.YtekhhekkepijoaaGreatDoor
set_option linter.unusedVariables false
open Go.RowKit

theorem rows_take (G : List Gl) (w : Iv) (back : Dec) (l : List Fc) : ∀ n, n ≤ l.length → ∀ (k : Nat) (f : Fc), k < n → l[k]? = some f → (stP G w back (l.take n)).rows[k]? = some (sfP G w f (stP G w back (l.take k)).place (stP G w back (l.take k)).ahead)
  | 0, _, k, f, hk, _ => by omega
  | n + 1, hn, k, f, hk, hf => by
    obtain ⟨g, hg⟩ : ∃ g, l[n]? = some g := ⟨l[n], List.getElem?_eq_getElem (by omega)⟩
    have hlen : (stP G w back (l.take n)).rows.length = n := by
      rw [stP_len, List.length_take]
      omega
    rw [stP_take G w back hg]
    show ((stP G w back (l.take n)).rows ++ [sfP G w g (stP G w back (l.take n)).place (stP G w back (l.take n)).ahead])[k]? = _
    by_cases hkn : k < n
    · rw [List.getElem?_append_left (by omega)]
      exact rows_take G w back l n (by omega) k f hkn hf
    · obtain rfl : k = n := by omega
      rw [hg] at hf
      obtain rfl := Option.some.inj hf
      rw [List.getElem?_append_right (by omega), hlen, Nat.sub_self]
      rfl
theorem rows_at (G : List Gl) (w : Iv) (back : Dec) {l : List Fc} {k : Nat} {f : Fc} (hf : l[k]? = some f) : (stP G w back l).rows[k]? = some (sfP G w f (stP G w back (l.take k)).place (stP G w back (l.take k)).ahead) := by
  have hk := (List.getElem?_eq_some_iff.1 hf).1
  have h := rows_take G w back l l.length (Nat.le_refl _) k f hk hf
  rwa [List.take_length] at h

/-! ### In less light -/
/-! ### Where the faces are -/
def Near (a : Iv) (m : Int) : Prop := a.no = false ∧ 0 ≤ a.lo ∧ a.lo ≤ a.hi ∧ a.hi ≤ m
theorem near_tenths (b : Int) (h0 : 0 ≤ b) (h1 : b < 80) : Near (decIv (decH b 1)) 524288 := by
  rw [(decIv_tenths b h0 (by omega)).1]
  refine ⟨rfl, ?_, ?_, ?_⟩ <;> dsimp only <;> omega
theorem near_back (b : Int) (h0 : 0 ≤ b) (h1 : b < 600) : Near (decIv (decH (200 + b) 1)) 5242880 := by
  rw [(decIv_tenths (200 + b) (by omega) (by omega)).1]
  refine ⟨rfl, ?_, ?_, ?_⟩ <;> dsimp only <;> omega
theorem near_add {a b : Iv} {m k : Int} (ha : Near a m) (hb : Near b k) (h : m + k ≤ 1073741824) : ivAdd a b = ⟨a.lo + b.lo, a.hi + b.hi, false⟩ ∧ Near (ivAdd a b) (m + k) := by
  obtain ⟨a0, a1, a2, a3⟩ := ha
  obtain ⟨b0, b1, b2, b3⟩ := hb
  have e : ivAdd a b = ⟨a.lo + b.lo, a.hi + b.hi, false⟩ := by
    unfold ivAdd
    rw [both_iff.2 ⟨right_iff.2 ⟨a0, by omega⟩, right_iff.2 ⟨b0, by omega⟩⟩, if_pos rfl]
    exact of_yes (by omega)
  refine ⟨e, ?_⟩
  rw [e]
  refine ⟨rfl, ?_, ?_, ?_⟩ <;> dsimp only <;> omega
def ThickOk (f : Fc) : Prop := Near (decIv f.thick) 524288
theorem hand_thick (G : List Gl) (l : List RawF) (most : Nat) : ∀ f ∈ handFaces G l most, ThickOk f := by
  intro f hf
  rcases handFaces_mem hf with rfl | ⟨i, r, rfl⟩
  · have : decIv plainFc.thick = ⟨196608, 196608, false⟩ := by kernel_rfl
    unfold ThickOk
    rw [this]
    refine ⟨rfl, ?_, ?_, ?_⟩ <;> decide
  · have h := mod_bd r.t (show (0 : Int) < 80 by omega)
    have e : (handF G i r).thick = decH (r.t % 80) 1 := by
      unfold handF
      split <;> rfl
    unfold ThickOk
    rw [e]
    exact near_tenths _ h.1 h.2
theorem st_near (G : List Gl) (w : Iv) {back : Dec} {l : List Fc} (hb : Near (decIv back) 5242880) (hl : ∀ f ∈ l, ThickOk f) (h12 : l.length ≤ 12) : ∀ k, k ≤ l.length → Near (stP G w back (l.take k)).place (5242880 + 524288 * k)
  | 0, _ => by
    show Near (decIv back) (5242880 + 524288 * ((0 : Nat) : Int))
    simpa using hb
  | k + 1, hk => by
    obtain ⟨f, hf⟩ : ∃ f, l[k]? = some f := ⟨l[k], List.getElem?_eq_getElem (by omega)⟩
    have ih := st_near G w hb hl h12 k (by omega)
    rw [stP_take G w back hf]
    have h := (near_add ih (hl f (List.mem_of_getElem? hf)) (by omega)).2
    have e : (5242880 + 524288 * ((k + 1 : Nat) : Int)) = 5242880 + 524288 * (k : Int) + 524288 := by omega
    rw [e]
    exact h
end Go.Proofs.YtekhhekkepijoaaGreatDoor

