/-
  SystemStops: what its walk asks, in plain numbers.
-/
import Derived.Test.YtekhhekkepijoaaGreatDoorSysStMath
import Derived.Test.YtekhhekkepijoaaGreatDoorSys3
import Derived.Test.YtekhhekkepijoaaGreatDoorGr5
import Derived.Test.YtekhhekkepijoaaGreatDoorGj
namespace Go.Proofs.YtekhhekkepijoaaGreatDoor
set_option linter.unusedVariables false
open Go.RowKit

def stLn (at_ : List Int) (x : Ln) : Ln := ⟨x.name, x.back, ysF at_ x.faces x.faces.length⟩
theorem ysF_mem (at_ : List Int) (l : List Fc) : ∀ k, k ≤ l.length → ∀ f ∈ ysF at_ l k, f ∈ l ∨ ∃ g ∈ l, f = stopF g
  | 0, _ => fun f hf => by cases hf
  | k + 1, hk => by
    intro f hf
    obtain ⟨g, hg⟩ : ∃ g, l[k]? = some g := ⟨l[k], List.getElem?_eq_getElem (by omega)⟩
    have hm := List.mem_of_getElem? hg
    rw [ysF_succ at_ hg, List.mem_append, List.mem_append] at hf
    rcases hf with hf | hf | hf
    · exact ysF_mem at_ l k (by omega) f hf
    · unfold aheadF at hf
      split at hf
      · obtain rfl := List.mem_singleton.1 hf
        exact .inr ⟨g, hm, rfl⟩
      · cases hf
    · obtain rfl := List.mem_singleton.1 hf
      exact .inl hm
theorem stopF_ok {f : Fc} (h : OkFc f) : OkFc (stopF f) := by
  refine ⟨h.a, h.apos, ok_D0, Int.le_refl _, ?_, ?_, ?_, ?_, ?_, fun _ => ⟨rfl, rfl, rfl, rfl, rfl⟩⟩
  all_goals
    intro hs
    cases hs
theorem ysF_all (at_ : List Int) (l : List Fc) (k : Nat) (h : k ≤ l.length) (hs : (l.take k).all Fc.stop = false) : (ysF at_ l k).all Fc.stop = false := by
  induction k with
  | zero => simp at hs
  | succ k ih =>
    obtain ⟨g, hg⟩ : ∃ g, l[k]? = some g := ⟨l[k], List.getElem?_eq_getElem (by omega)⟩
    rw [List.take_add_one, hg, List.all_append] at hs
    rw [ysF_succ at_ hg, List.all_append, List.all_append]
    simp only [Option.toList, List.all_cons, List.all_nil, Bool.and_true] at hs ⊢
    cases h1 : (l.take k).all Fc.stop with
    | false => rw [ih (by omega) h1]; rfl
    | true =>
      rw [h1, Bool.true_and] at hs
      rw [hs]
      simp
theorem stLn_ok (at_ : List Int) {x : Ln} (h : OkLn x) (h6 : x.faces.length ≤ 6) : OkLn (stLn at_ x) := by
  refine ⟨h.name, h.back, h.bpos, fun f hf => ?_, ?_, ysF_all at_ x.faces _ (Nat.le_refl _) (by rw [List.take_length]; exact h.some)⟩
  · rcases ysF_mem at_ x.faces _ (Nat.le_refl _) f hf with h1 | ⟨g, h1, rfl⟩
    · exact h.faces f h1
    · exact stopF_ok (h.faces g h1)
  · have := (ysF_len at_ x.faces x.faces.length).2
    show (ysF at_ x.faces x.faces.length).length ≤ 12
    omega
theorem stLn_known (at_ : List Int) {x : Ln} {G : List (List UInt8)} (h : x.faces.all (knownF G) = true) : (stLn at_ x).faces.all (knownF G) = true := by
  rw [List.all_eq_true] at h ⊢
  intro f hf
  rcases ysF_mem at_ x.faces _ (Nat.le_refl _) f hf with h1 | ⟨g, h1, rfl⟩
  · exact h f h1
  · rfl
theorem stLn_open (at_ : List Int) {x : Ln} (h1 : 1 ≤ x.faces.length) : openP (stLn at_ x) = openP x := by
  obtain ⟨g, hg⟩ : ∃ g, x.faces[0]? = some g := ⟨x.faces[0], List.getElem?_eq_getElem (by omega)⟩
  obtain ⟨r, hr⟩ := ysF_prefix at_ x.faces 1 (x.faces.length - 1)
  rw [show 1 + (x.faces.length - 1) = x.faces.length by omega, show (1 : Nat) = 0 + 1 from rfl, ysF_succ at_ hg] at hr
  unfold openP stLn
  dsimp only
  rw [hr]
  have e : x.faces.headD ⟨false, D0, D0, D0, D0, D0, D0, []⟩ = g := by
    cases hl : x.faces with
    | nil => rw [hl] at hg; cases hg
    | cons a l => rw [hl] at hg; injection hg
  rw [e]
  unfold aheadF
  split
  · rfl
  · rfl
theorem faceAt_last (at_ : List Int) {l : List Fc} (h1 : 1 ≤ l.length) : faceAt at_ l (l.length - 1) + 1 = (ysF at_ l l.length).length := by
  obtain ⟨g, hg⟩ : ∃ g, l[l.length - 1]? = some g := ⟨l[l.length - 1], List.getElem?_eq_getElem (by omega)⟩
  have eg : l.getD (l.length - 1) ⟨true, D0, D0, D0, D0, D0, D0, []⟩ = g := by rw [List.getD_eq_getElem?_getD, hg]; rfl
  have h := ysF_succ at_ hg
  rw [show l.length - 1 + 1 = l.length by omega] at h
  rw [h]
  unfold faceAt
  rw [eg]
  simp only [List.length_append, List.length_cons, List.length_nil]
  omega
theorem faceAt_lt (at_ : List Int) (l : List Fc) {k : Nat} (hk : k < l.length) : faceAt at_ l k < (ysF at_ l l.length).length := by
  obtain ⟨f, hf⟩ : ∃ f, l[k]? = some f := ⟨l[k], List.getElem?_eq_getElem hk⟩
  have eg : l.getD k ⟨true, D0, D0, D0, D0, D0, D0, []⟩ = f := by rw [List.getD_eq_getElem?_getD, hf]; rfl
  obtain ⟨r, hr⟩ := ysF_prefix at_ l (k + 1) (l.length - (k + 1))
  rw [show k + 1 + (l.length - (k + 1)) = l.length by omega, ysF_succ at_ hf] at hr
  rw [hr]
  unfold faceAt
  rw [eg]
  simp only [List.length_append, List.length_cons]
  omega
/-- Both are built, or neither; the same opening, the same last face; each face's row where it stands. -/
theorem stops_bq (G : List Gl) (w : Iv) (at_ : List Int) {x : Ln} (hb : Near (decIv x.back) 5242880) (hl : ∀ f ∈ x.faces, ThickOk f) (h12 : x.faces.length ≤ 12) (h1 : 1 ≤ x.faces.length) :
    (bq true (stLn at_ x) G w).2 = (bq true x G w).2 ∧ ((bq true x G w).2 = 0 ∨ (bq true x G w).2 = 6) ∧ ((bq true x G w).2 = 0 →
      (bq true (stLn at_ x) G w).1.wide = (bq true x G w).1.wide ∧ ivRight (bq true x G w).1.wide = true ∧ (bq true x G w).1.rows.length = x.faces.length ∧ (bq true (stLn at_ x) G w).1.rows.length = (ysF at_ x.faces x.faces.length).length ∧ lastP (bq true (stLn at_ x) G w).1.rows = lastP (bq true x G w).1.rows ∧
      ∀ k, k < x.faces.length → ∃ s, (bq true x G w).1.rows[k]? = some s ∧ (bq true (stLn at_ x) G w).1.rows[faceAt at_ x.faces k]? = some s) := by
  have hop := stLn_open at_ h1
  have hra := rows_all G w at_ hb hl h12 x.faces.length (Nat.le_refl _)
  rw [List.take_length] at hra
  have e : rowsRight (allSy (stLn at_ x) G w).rows (allSy (stLn at_ x) G w).wide = rowsRight (allSy x G w).rows (allSy x G w).wide := by
    unfold rowsRight
    show ((stP G w x.back (ysF at_ x.faces x.faces.length)).rows.all sfRight && ivRight (openP (stLn at_ x))) = ((stP G w x.back x.faces).rows.all sfRight && ivRight (openP x))
    rw [hra, hop]
  have hrow : ∀ k, k < x.faces.length → ∃ s, (stP G w x.back x.faces).rows[k]? = some s ∧ (stP G w x.back (ysF at_ x.faces x.faces.length)).rows[faceAt at_ x.faces k]? = some s := by
    intro k hk
    obtain ⟨f, hf⟩ : ∃ f, x.faces[k]? = some f := ⟨x.faces[k], List.getElem?_eq_getElem hk⟩
    have := rows_at G w x.back hf
    exact ⟨_, this, (rows_stops G w at_ hb hl h12 hf).trans this⟩
  unfold bq
  rw [if_pos rfl, if_pos rfl, e]
  cases hr : rowsRight (allSy x G w).rows (allSy x G w).wide with
  | false => exact ⟨rfl, .inr rfl, fun h => by cases h⟩
  | true =>
    refine ⟨rfl, .inl rfl, fun _ => ⟨hop, ?_, stP_len _ _ _ _, stP_len _ _ _ _, ?_, hrow⟩⟩
    · unfold rowsRight at hr
      rw [Bool.and_eq_true] at hr
      exact hr.2
    · show lastP (stP G w x.back (ysF at_ x.faces x.faces.length)).rows = lastP (stP G w x.back x.faces).rows
      obtain ⟨s, h2, h3⟩ := hrow (x.faces.length - 1) (by omega)
      unfold lastP
      rw [List.getLast?_eq_getElem?, List.getLast?_eq_getElem?, stP_len, stP_len, h2, show (ysF at_ x.faces x.faces.length).length - 1 = faceAt at_ x.faces (x.faces.length - 1) by have := faceAt_last at_ h1; omega, h3]
end Go.Proofs.YtekhhekkepijoaaGreatDoor

