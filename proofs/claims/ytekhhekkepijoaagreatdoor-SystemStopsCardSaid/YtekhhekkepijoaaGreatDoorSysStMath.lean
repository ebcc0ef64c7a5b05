/-
  Stops of no thickness put between a lens's faces: the same faces, at the same places. Plain lists.
-/
import Derived.Test.YtekhhekkepijoaaGreatDoorSysLsMath
namespace Go.Proofs.YtekhhekkepijoaaGreatDoor
set_option linter.unusedVariables false
open Go.RowKit

def stopF (f : Fc) : Fc := ⟨true, D0, f.aperture, D0, D0, D0, D0, []⟩
/-- Is a stop put ahead of the i-th face? -/
def putQ (at_ : List Int) (i : Nat) : Bool := decide (i < at_.length) && decide ((at_.getD i 0).tmod 2 = 0)
def aheadF (at_ : List Int) (i : Nat) (f : Fc) : List Fc := if putQ at_ i = true then [stopF f] else []
def ysF (at_ : List Int) (l : List Fc) : Nat → List Fc
  | 0 => []
  | k + 1 => ysF at_ l k ++ (aheadF at_ k (l.getD k ⟨true, D0, D0, D0, D0, D0, D0, []⟩) ++ [l.getD k ⟨true, D0, D0, D0, D0, D0, D0, []⟩])
/-- Where the k-th face stands. -/
def faceAt (at_ : List Int) (l : List Fc) (k : Nat) : Nat := (ysF at_ l k ++ aheadF at_ k (l.getD k ⟨true, D0, D0, D0, D0, D0, D0, []⟩)).length
def facesAt (at_ : List Int) (l : List Fc) (k : Nat) : List Nat := (List.range k).map (faceAt at_ l)
theorem ysF_succ (at_ : List Int) {l : List Fc} {k : Nat} {f : Fc} (h : l[k]? = some f) : ysF at_ l (k + 1) = ysF at_ l k ++ (aheadF at_ k f ++ [f]) := by
  have e : l.getD k ⟨true, D0, D0, D0, D0, D0, D0, []⟩ = f := by rw [List.getD_eq_getElem?_getD, h]; rfl
  show ysF at_ l k ++ (aheadF at_ k (l.getD k ⟨true, D0, D0, D0, D0, D0, D0, []⟩) ++ [l.getD k ⟨true, D0, D0, D0, D0, D0, D0, []⟩]) = _
  rw [e]
theorem ysF_len (at_ : List Int) (l : List Fc) : ∀ k, k ≤ (ysF at_ l k).length ∧ (ysF at_ l k).length ≤ 2 * k
  | 0 => by simp [ysF]
  | k + 1 => by
    have ih := ysF_len at_ l k
    unfold ysF aheadF
    split
    · simp only [List.length_append, List.length_cons, List.length_nil]
      omega
    · simp only [List.length_append, List.length_cons, List.length_nil]
      omega
theorem dec_zero : decIv D0 = ⟨0, 0, false⟩ := by kernel_rfl
theorem near_right {a : Iv} {m : Int} (h : Near a m) (hm : m ≤ 1073741824) : ivRight a = true := by
  obtain ⟨h0, h1, h2, h3⟩ := h
  exact right_iff.2 ⟨h0, by omega⟩
/-- A stop of no thickness changes neither the place nor what is ahead. -/
theorem step_stop (G : List Gl) (w : Iv) (s : St) (f : Fc) (h : ivRight s.place = true) : (stepP G w s (stopF f)).place = s.place ∧ (stepP G w s (stopF f)).ahead = s.ahead := by
  unfold stepP stopF
  dsimp only
  rw [dec_zero]
  exact ⟨add_zero h, by rw [if_pos rfl]⟩
theorem stP_app (G : List Gl) (w : Iv) (back : Dec) (l m : List Fc) : stP G w back (l ++ m) = m.foldl (stepP G w) (stP G w back l) := by
  unfold stP
  rw [List.foldl_append]
/-- Behind k faces: the same place, the same ahead. -/
theorem st_stops (G : List Gl) (w : Iv) {back : Dec} {l : List Fc} (at_ : List Int) (hb : Near (decIv back) 5242880) (hl : ∀ f ∈ l, ThickOk f) (h12 : l.length ≤ 12) : ∀ k, k ≤ l.length →
    (stP G w back (ysF at_ l k)).place = (stP G w back (l.take k)).place ∧ (stP G w back (ysF at_ l k)).ahead = (stP G w back (l.take k)).ahead
  | 0, _ => ⟨rfl, rfl⟩
  | k + 1, hk => by
    obtain ⟨f, hf⟩ : ∃ f, l[k]? = some f := ⟨l[k], List.getElem?_eq_getElem (by omega)⟩
    obtain ⟨h1, h2⟩ := st_stops G w at_ hb hl h12 k (by omega)
    have hn := near_right (st_near G w hb hl h12 k (by omega)) (by omega)
    rw [ysF_succ at_ hf, stP_take G w back hf, stP_app, List.foldl_append, List.foldl_cons, List.foldl_nil]
    have key : ((aheadF at_ k f).foldl (stepP G w) (stP G w back (ysF at_ l k))).place = (stP G w back (l.take k)).place ∧ ((aheadF at_ k f).foldl (stepP G w) (stP G w back (ysF at_ l k))).ahead = (stP G w back (l.take k)).ahead := by
      unfold aheadF
      split
      · rw [List.foldl_cons, List.foldl_nil]
        obtain ⟨h3, h4⟩ := step_stop G w (stP G w back (ysF at_ l k)) f (by rw [h1]; exact hn)
        exact ⟨h3.trans h1, h4.trans h2⟩
      · exact ⟨h1, h2⟩
    unfold stepP at key ⊢
    dsimp only
    rw [key.1, key.2]
    exact ⟨rfl, rfl⟩
/-! ### The rows -/
theorem stop_right (G : List Gl) (w : Iv) (f : Fc) {p a b : Iv} (hp : ivRight p = true) (h : sfRight (sfP G w f p a) = true) : sfRight (sfP G w (stopF f) p b) = true := by
  have e1 : curveP D0 = ⟨0, 0, false⟩ := by kernel_rfl
  have e2 : ivAdd oneI (decIv D0) = ⟨65536, 65536, false⟩ := by kernel_rfl
  have e3 : oneI = ⟨65536, 65536, false⟩ := by kernel_rfl
  have ho : ivRight (ivSqr (decIv f.aperture)) = true := by
    unfold sfRight at h
    simp only [Bool.and_eq_true] at h
    exact h.1.2
  unfold sfRight sfP sfBase ratioP stopF
  dsimp only
  rw [e1, e2, dec_zero, if_pos rfl, e3, hp, ho]
  rfl
theorem rows_all (G : List Gl) (w : Iv) {back : Dec} {l : List Fc} (at_ : List Int) (hb : Near (decIv back) 5242880) (hl : ∀ f ∈ l, ThickOk f) (h12 : l.length ≤ 12) : ∀ k, k ≤ l.length →
    (stP G w back (ysF at_ l k)).rows.all sfRight = (stP G w back (l.take k)).rows.all sfRight
  | 0, _ => rfl
  | k + 1, hk => by
    obtain ⟨f, hf⟩ : ∃ f, l[k]? = some f := ⟨l[k], List.getElem?_eq_getElem (by omega)⟩
    have ih := rows_all G w at_ hb hl h12 k (by omega)
    obtain ⟨h1, h2⟩ := st_stops G w at_ hb hl h12 k (by omega)
    have hn := near_right (st_near G w hb hl h12 k (by omega)) (by omega)
    rw [ysF_succ at_ hf, stP_take G w back hf, stP_app, List.foldl_append, List.foldl_cons, List.foldl_nil]
    unfold aheadF
    split
    · rw [List.foldl_cons, List.foldl_nil]
      obtain ⟨h3, h4⟩ := step_stop G w (stP G w back (ysF at_ l k)) f (by rw [h1]; exact hn)
      show ((stepP G w (stP G w back (ysF at_ l k)) (stopF f)).rows ++ [sfP G w f (stepP G w (stP G w back (ysF at_ l k)) (stopF f)).place (stepP G w (stP G w back (ysF at_ l k)) (stopF f)).ahead]).all sfRight = ((stP G w back (l.take k)).rows ++ [sfP G w f (stP G w back (l.take k)).place (stP G w back (l.take k)).ahead]).all sfRight
      rw [h3, h4, h1, h2]
      show (((stP G w back (ysF at_ l k)).rows ++ [sfP G w (stopF f) (stP G w back (ysF at_ l k)).place (stP G w back (ysF at_ l k)).ahead]) ++ [_]).all sfRight = _
      rw [h1, h2, List.all_append, List.all_append, List.all_append, ih]
      simp only [List.all_cons, List.all_nil, Bool.and_true]
      cases hr : sfRight (sfP G w f (stP G w back (l.take k)).place (stP G w back (l.take k)).ahead) with
      | true => rw [stop_right G w f hn hr]; simp
      | false => simp
    · rw [List.foldl_nil]
      show ((stP G w back (ysF at_ l k)).rows ++ [sfP G w f (stP G w back (ysF at_ l k)).place (stP G w back (ysF at_ l k)).ahead]).all sfRight = ((stP G w back (l.take k)).rows ++ [sfP G w f (stP G w back (l.take k)).place (stP G w back (l.take k)).ahead]).all sfRight
      rw [h1, h2, List.all_append, List.all_append, ih]
theorem ysF_prefix (at_ : List Int) (l : List Fc) (k : Nat) : ∀ n, ∃ r, ysF at_ l (k + n) = ysF at_ l k ++ r
  | 0 => ⟨[], by simp⟩
  | n + 1 => by
    obtain ⟨r, hr⟩ := ysF_prefix at_ l k n
    refine ⟨r ++ (aheadF at_ (k + n) (l.getD (k + n) ⟨true, D0, D0, D0, D0, D0, D0, []⟩) ++ [l.getD (k + n) ⟨true, D0, D0, D0, D0, D0, D0, []⟩]), ?_⟩
    show ysF at_ l (k + n) ++ (aheadF at_ (k + n) (l.getD (k + n) ⟨true, D0, D0, D0, D0, D0, D0, []⟩) ++ [l.getD (k + n) ⟨true, D0, D0, D0, D0, D0, D0, []⟩]) = _
    rw [hr, List.append_assoc]
/-- The k-th face's row stands where the face stands. -/
theorem rows_stops (G : List Gl) (w : Iv) {back : Dec} {l : List Fc} (at_ : List Int) (hb : Near (decIv back) 5242880) (hl : ∀ f ∈ l, ThickOk f) (h12 : l.length ≤ 12) {k : Nat} {f : Fc} (hf : l[k]? = some f) :
    (stP G w back (ysF at_ l l.length)).rows[faceAt at_ l k]? = (stP G w back l).rows[k]? := by
  have hk := (List.getElem?_eq_some_iff.1 hf).1
  have eg : l.getD k ⟨true, D0, D0, D0, D0, D0, D0, []⟩ = f := by rw [List.getD_eq_getElem?_getD, hf]; rfl
  obtain ⟨r, hr⟩ := ysF_prefix at_ l (k + 1) (l.length - (k + 1))
  rw [show k + 1 + (l.length - (k + 1)) = l.length by omega, ysF_succ at_ hf] at hr
  have e1 : faceAt at_ l k = (ysF at_ l k ++ aheadF at_ k f).length := by unfold faceAt; rw [eg]
  have e2 : ysF at_ l l.length = (ysF at_ l k ++ aheadF at_ k f) ++ (f :: r) := by rw [hr]; simp
  have e3 : (ysF at_ l l.length)[faceAt at_ l k]? = some f := by
    rw [e2, e1, List.getElem?_append_right (Nat.le_refl _), Nat.sub_self]
    rfl
  have e4 : (ysF at_ l l.length).take (faceAt at_ l k) = ysF at_ l k ++ aheadF at_ k f := by
    rw [e2, e1, List.take_left]
  rw [rows_at G w back e3, rows_at G w back hf, e4, stP_app]
  obtain ⟨h1, h2⟩ := st_stops G w at_ hb hl h12 k (by omega)
  have hn := near_right (st_near G w hb hl h12 k (by omega)) (by omega)
  have key : ((aheadF at_ k f).foldl (stepP G w) (stP G w back (ysF at_ l k))).place = (stP G w back (l.take k)).place ∧ ((aheadF at_ k f).foldl (stepP G w) (stP G w back (ysF at_ l k))).ahead = (stP G w back (l.take k)).ahead := by
    unfold aheadF
    split
    · rw [List.foldl_cons, List.foldl_nil]
      obtain ⟨h3, h4⟩ := step_stop G w (stP G w back (ysF at_ l k)) f (by rw [h1]; exact hn)
      exact ⟨h3.trans h1, h4.trans h2⟩
    · exact ⟨h1, h2⟩
  rw [key.1, key.2]
end Go.Proofs.YtekhhekkepijoaaGreatDoor

