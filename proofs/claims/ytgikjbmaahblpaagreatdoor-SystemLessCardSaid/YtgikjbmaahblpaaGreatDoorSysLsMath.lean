/-
  A lens in one light: in a narrower light each number lies in the wider one's; where the faces are. Plain lists.
-/
import Derived.Test.YtgikjbmaahblpaaGreatDoorSysMath
import Derived.Test.YtgikjbmaahblpaaGreatDoorGb
namespace Go.Proofs.YtgikjbmaahblpaaGreatDoor
set_option linter.unusedVariables false
open Go.RowKit

theorem rows_take (G : List Gl) (w : Iv) (back : Dec) (l : List Fc) : ∀ n, n ≤ l.length → ∀ (k : Nat) (f : Fc), k < n → l[k]? = some f → (stP G w back (l.take n)).rows[k]? = some (sfP G w f (stP G w back (l.take k)).place (stP G w back (l.take k)).ahead)
  | 0, _, k, f, hk, _ => by omega
  | n + 1, hn, k, f, hk, hf => by
    obtain ⟨g, hg⟩ : ∃ g, l[n]? = some g := ⟨l[n], List.getElem?_eq_getElem (by omega)⟩
    have hlen : (stP G w back (l.take n)).rows.length = n := by
      rw [stP_len, List.length_take]
      omega
    rw [stP_take G w back hg]
    show ((stP G w back (l.take n)).rows ++ [sfP G w g (stP G w back (l.take n)).place (stP G w back (l.take n)).ahead])[k]? = _
    by_cases hkn : k < n
    · rw [List.getElem?_append_left (by omega)]
      exact rows_take G w back l n (by omega) k f hkn hf
    · obtain rfl : k = n := by omega
      rw [hg] at hf
      obtain rfl := Option.some.inj hf
      rw [List.getElem?_append_right (by omega), hlen, Nat.sub_self]
      rfl
theorem rows_at (G : List Gl) (w : Iv) (back : Dec) {l : List Fc} {k : Nat} {f : Fc} (hf : l[k]? = some f) : (stP G w back l).rows[k]? = some (sfP G w f (stP G w back (l.take k)).place (stP G w back (l.take k)).ahead) := by
  have hk := (List.getElem?_eq_some_iff.1 hf).1
  have h := rows_take G w back l l.length (Nat.le_refl _) k f hk hf
  rwa [List.take_length] at h

/-! ### In less light -/
theorem ix_face_less (G : List Gl) {p x : Iv} (h : ivLess p x = true) (t : List UInt8) : ivLess (faceIx G p t) (faceIx G x t) = true := by
  unfold faceIx
  split
  · exact less_refl _
  · exact ixG_less _ h
theorem st_less (G : List Gl) {p x : Iv} (h : ivLess p x = true) (back : Dec) (l : List Fc) : ∀ k, k ≤ l.length → (stP G p back (l.take k)).place = (stP G x back (l.take k)).place ∧ ivLess (stP G p back (l.take k)).ahead (stP G x back (l.take k)).ahead = true
  | 0, _ => ⟨rfl, less_refl _⟩
  | k + 1, hk => by
    obtain ⟨f, hf⟩ : ∃ f, l[k]? = some f := ⟨l[k], List.getElem?_eq_getElem (by omega)⟩
    obtain ⟨h1, h2⟩ := st_less G h back l k (by omega)
    rw [stP_take G p back hf, stP_take G x back hf]
    unfold stepP
    refine ⟨by dsimp only; rw [h1], ?_⟩
    dsimp only
    split
    · exact h2
    · exact ix_face_less G h _
theorem ratio_less (G : List Gl) {p x : Iv} (h : ivLess p x = true) (f : Fc) {a b : Iv} (hab : ivLess a b = true) : ivLess (ratioP G p f a) (ratioP G x f b) = true := by
  unfold ratioP
  split
  · exact less_refl _
  · exact lessDiv hab (ix_face_less G h _)
/-- What SystemLess asks of two rows. -/
structure RowLess (s t : Sf) : Prop where
  curve : s.curve = t.curve
  conic : s.conic = t.conic
  a4 : s.a4 = t.a4
  a6 : s.a6 = t.a6
  place : s.place = t.place
  open2 : s.open2 = t.open2
  ratio : ivLess s.ratio t.ratio = true
theorem row_less (G : List Gl) {p x : Iv} (h : ivLess p x = true) (back : Dec) {l : List Fc} {k : Nat} {f : Fc} (hf : l[k]? = some f) :
    ∃ s t, (stP G p back l).rows[k]? = some s ∧ (stP G x back l).rows[k]? = some t ∧ RowLess s t := by
  have hk := (List.getElem?_eq_some_iff.1 hf).1
  obtain ⟨h1, h2⟩ := st_less G h back l k (by omega)
  exact ⟨_, _, rows_at G p back hf, rows_at G x back hf, rfl, rfl, rfl, rfl, h1, rfl, ratio_less G h f h2⟩
theorem sf_less {s t : Sf} (h : RowLess s t) (ht : sfRight t = true) : sfRight s = true ∧ ivInside s.ratio t.ratio = true := by
  unfold sfRight at ht ⊢
  simp only [Bool.and_eq_true] at ht ⊢
  obtain ⟨⟨⟨⟨⟨⟨h1, h2⟩, h3⟩, h4⟩, h5⟩, h6⟩, h7⟩ := ht
  have h8 := lessPart h.ratio h7
  exact ⟨⟨⟨⟨⟨⟨⟨by rw [h.curve]; exact h1, by rw [h.conic]; exact h2⟩, by rw [h.a4]; exact h3⟩, by rw [h.a6]; exact h4⟩, by rw [h.place]; exact h5⟩, by rw [h.open2]; exact h6⟩, h8.1⟩, inside_iff.2 h8⟩
theorem rows_less (G : List Gl) {p x : Iv} (h : ivLess p x = true) (back : Dec) (l : List Fc) (o : Iv) (hr : rowsRight (stP G x back l).rows o = true) : rowsRight (stP G p back l).rows o = true := by
  unfold rowsRight at hr ⊢
  rw [Bool.and_eq_true] at hr ⊢
  refine ⟨?_, hr.2⟩
  have hr := hr.1
  rw [List.all_eq_true] at hr ⊢
  intro s hs
  obtain ⟨k, hk, he⟩ := List.getElem_of_mem hs
  have hlen := stP_len G p back l
  obtain ⟨f, hf⟩ : ∃ f, l[k]? = some f := ⟨l[k]'(by omega), List.getElem?_eq_getElem (by omega)⟩
  obtain ⟨s', t, h1, h2, h3⟩ := row_less G h back hf
  rw [List.getElem?_eq_getElem hk, he] at h1
  obtain rfl := Option.some.inj h1
  exact (sf_less h3 (hr t (List.mem_of_getElem? h2))).1

/-! ### Where the faces are -/
def Near (a : Iv) (m : Int) : Prop := a.no = false ∧ 0 ≤ a.lo ∧ a.lo ≤ a.hi ∧ a.hi ≤ m
theorem near_tenths (b : Int) (h0 : 0 ≤ b) (h1 : b < 80) : Near (decIv (decH b 1)) 524288 := by
  rw [(decIv_tenths b h0 (by omega)).1]
  refine ⟨rfl, ?_, ?_, ?_⟩ <;> dsimp only <;> omega
theorem near_back (b : Int) (h0 : 0 ≤ b) (h1 : b < 600) : Near (decIv (decH (200 + b) 1)) 5242880 := by
  rw [(decIv_tenths (200 + b) (by omega) (by omega)).1]
  refine ⟨rfl, ?_, ?_, ?_⟩ <;> dsimp only <;> omega
theorem near_add {a b : Iv} {m k : Int} (ha : Near a m) (hb : Near b k) (h : m + k ≤ 1073741824) : ivAdd a b = ⟨a.lo + b.lo, a.hi + b.hi, false⟩ ∧ Near (ivAdd a b) (m + k) := by
  obtain ⟨a0, a1, a2, a3⟩ := ha
  obtain ⟨b0, b1, b2, b3⟩ := hb
  have e : ivAdd a b = ⟨a.lo + b.lo, a.hi + b.hi, false⟩ := by
    unfold ivAdd
    rw [both_iff.2 ⟨right_iff.2 ⟨a0, by omega⟩, right_iff.2 ⟨b0, by omega⟩⟩, if_pos rfl]
    exact of_yes (by omega)
  refine ⟨e, ?_⟩
  rw [e]
  refine ⟨rfl, ?_, ?_, ?_⟩ <;> dsimp only <;> omega
def ThickOk (f : Fc) : Prop := Near (decIv f.thick) 524288
theorem hand_thick (G : List Gl) (l : List RawF) (most : Nat) : ∀ f ∈ handFaces G l most, ThickOk f := by
  intro f hf
  rcases handFaces_mem hf with rfl | ⟨i, r, rfl⟩
  · have : decIv plainFc.thick = ⟨196608, 196608, false⟩ := by kernel_rfl
    unfold ThickOk
    rw [this]
    refine ⟨rfl, ?_, ?_, ?_⟩ <;> decide
  · have h := mod_bd r.t (show (0 : Int) < 80 by omega)
    have e : (handF G i r).thick = decH (r.t % 80) 1 := by
      unfold handF
      split <;> rfl
    unfold ThickOk
    rw [e]
    exact near_tenths _ h.1 h.2
theorem st_near (G : List Gl) (w : Iv) {back : Dec} {l : List Fc} (hb : Near (decIv back) 5242880) (hl : ∀ f ∈ l, ThickOk f) (h12 : l.length ≤ 12) : ∀ k, k ≤ l.length → Near (stP G w back (l.take k)).place (5242880 + 524288 * k)
  | 0, _ => by
    show Near (decIv back) (5242880 + 524288 * ((0 : Nat) : Int))
    simpa using hb
  | k + 1, hk => by
    obtain ⟨f, hf⟩ : ∃ f, l[k]? = some f := ⟨l[k], List.getElem?_eq_getElem (by omega)⟩
    have ih := st_near G w hb hl h12 k (by omega)
    rw [stP_take G w back hf]
    have h := (near_add ih (hl f (List.mem_of_getElem? hf)) (by omega)).2
    have e : (5242880 + 524288 * ((k + 1 : Nat) : Int)) = 5242880 + 524288 * (k : Int) + 524288 := by omega
    rw [e]
    exact h
/-- A face lies from the one ahead on, within eight. -/
theorem next_near (G : List Gl) (w : Iv) {back : Dec} {l : List Fc} (hb : Near (decIv back) 5242880) (hl : ∀ f ∈ l, ThickOk f) (h12 : l.length ≤ 12) {k : Nat} {s t : Sf} (hs : (stP G w back l).rows[k]? = some s) (ht : (stP G w back l).rows[k + 1]? = some t) :
    ivInside t.place (ivHull s.place (ivAdd s.place (ivWhole 8))) = true := by
  have hlen := stP_len G w back l
  have hk := (List.getElem?_eq_some_iff.1 ht).1
  obtain ⟨f, hf⟩ : ∃ f, l[k]? = some f := ⟨l[k]'(by omega), List.getElem?_eq_getElem (by omega)⟩
  obtain ⟨g, hg⟩ : ∃ g, l[k + 1]? = some g := ⟨l[k + 1]'(by omega), List.getElem?_eq_getElem (by omega)⟩
  rw [rows_at G w back hf] at hs
  rw [rows_at G w back hg] at ht
  obtain rfl := Option.some.inj hs
  obtain rfl := Option.some.inj ht
  have hn := st_near G w hb hl h12 k (by omega)
  have hth := hl f (List.mem_of_getElem? hf)
  have e2 : (stP G w back (l.take (k + 1))).place = ivAdd (stP G w back (l.take k)).place (decIv f.thick) := by rw [stP_take G w back hf]; rfl
  show ivInside (stP G w back (l.take (k + 1))).place (ivHull (stP G w back (l.take k)).place (ivAdd (stP G w back (l.take k)).place (ivWhole 8))) = true
  rw [e2]
  obtain ⟨P, hP⟩ : ∃ P, (stP G w back (l.take k)).place = P := ⟨_, rfl⟩
  rw [hP] at hn ⊢
  have h8 : ivWhole 8 = ⟨524288, 524288, false⟩ := by kernel_rfl
  have hn8 : Near (ivWhole 8) 524288 := by rw [h8]; refine ⟨rfl, ?_, ?_, ?_⟩ <;> decide
  have hkb : (k : Int) ≤ 12 := by omega
  obtain ⟨e3, n3⟩ := near_add hn hth (by omega)
  obtain ⟨e4, n4⟩ := near_add hn hn8 (by omega)
  obtain ⟨p0, p1, p2, p3⟩ := hn
  obtain ⟨q0, q1, q2, q3⟩ := hth
  rw [e3, e4, h8]
  have e5 : ivHull P ⟨P.lo + 524288, P.hi + 524288, false⟩ = ⟨P.lo, P.hi + 524288, false⟩ := by
    unfold ivHull
    rw [both_iff.2 ⟨right_iff.2 ⟨p0, by omega⟩, by rw [right_of]; omega⟩, if_pos rfl]
    dsimp only
    rw [show min P.lo (P.lo + 524288) = P.lo by omega, show max P.hi (P.hi + 524288) = P.hi + 524288 by omega]
    exact of_yes (by omega)
  dsimp only
  rw [e5, inside_iff]
  refine ⟨by rw [right_of]; omega, by rw [right_of]; omega, ?_, ?_⟩ <;> dsimp only <;> omega
end Go.Proofs.YtgikjbmaahblpaaGreatDoor

