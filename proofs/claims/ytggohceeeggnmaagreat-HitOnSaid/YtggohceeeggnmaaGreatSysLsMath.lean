/-
  A lens in one light: in a narrower light each number lies in the wider one's; where the faces are. Plain lists.
-/
import Derived.Test.YtggohceeeggnmaaGreatSysMath
import Derived.Test.YtggohceeeggnmaaGreatGb
namespace Go.Proofs.YtggohceeeggnmaaGreat
set_option linter.unusedVariables false
open Go.RowKit

theorem rows_take (G : List Gl) (w : Iv) (back : Dec) (l : List Fc) : ∀ n, n ≤ l.length → ∀ (k : Nat) (f : Fc), k < n → l[k]? = some f → (stP G w back (l.take n)).rows[k]? = some (sfP G w f (stP G w back (l.take k)).place (stP G w back (l.take k)).ahead)
  | 0, _, k, f, hk, _ => by omega
  | n + 1, hn, k, f, hk, hf => by
    obtain ⟨g, hg⟩ : ∃ g, l[n]? = some g := ⟨l[n], List.getElem?_eq_getElem (by omega)⟩
    have hlen : (stP G w back (l.take n)).rows.length = n := by
      rw [stP_len, List.length_take]
      omega
    rw [stP_take G w back hg]
    show ((stP G w back (l.take n)).rows ++ [sfP G w g (stP G w back (l.take n)).place (stP G w back (l.take n)).ahead])[k]? = _
    by_cases hkn : k < n
    · rw [List.getElem?_append_left (by omega)]
      exact rows_take G w back l n (by omega) k f hkn hf
    · obtain rfl : k = n := by omega
      rw [hg] at hf
      obtain rfl := Option.some.inj hf
      rw [List.getElem?_append_right (by omega), hlen, Nat.sub_self]
      rfl
theorem rows_at (G : List Gl) (w : Iv) (back : Dec) {l : List Fc} {k : Nat} {f : Fc} (hf : l[k]? = some f) : (stP G w back l).rows[k]? = some (sfP G w f (stP G w back (l.take k)).place (stP G w back (l.take k)).ahead) := by
  have hk := (List.getElem?_eq_some_iff.1 hf).1
  have h := rows_take G w back l l.length (Nat.le_refl _) k f hk hf
  rwa [List.take_length] at h

/-! ### In less light -/
/-! ### Where the faces are -/
end Go.Proofs.YtggohceeeggnmaaGreat

