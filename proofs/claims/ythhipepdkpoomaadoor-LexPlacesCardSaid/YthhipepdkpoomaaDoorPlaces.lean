/-
  Where tokens stand: each in its line, at its column; in order, each line's ends. How great a place may be.
-/
import Derived.Test.YthhipepdkpoomaaDoorLexMath
namespace Go.Proofs.YthhipepdkpoomaaDoor
set_option linter.unusedVariables false
open Go.RowKit

/-! ### Places are small -/
def Small (x : Lexed) : Prop := x.line ≤ 4001 ∧ x.col ≤ 4001 ∧ x.err ≤ 3 ∧ ∀ t ∈ x.toks, t.line ≤ 4001 ∧ t.col ≤ 4001 ∧ t.kind ≤ 3
theorem endUp_all {acc : List Tk} {L C : Nat} {p : Tk → Prop} (h : ∀ t ∈ acc, p t) (hn : p ⟨3, [], L, C⟩) : ∀ t ∈ endUp acc L C, p t := by
  unfold endUp
  split
  · intro t ht
    rcases List.mem_append.1 ht with ht | ht
    · exact h t ht
    · rw [List.mem_singleton.1 ht]; exact hn
  · exact h
theorem snoc_all {acc : List Tk} {u : Tk} {p : Tk → Prop} (h : ∀ t ∈ acc, p t) (hn : p u) : ∀ t ∈ acc ++ [u], p t := by
  intro t ht
  rcases List.mem_append.1 ht with ht | ht
  · exact h t ht
  · rw [List.mem_singleton.1 ht]; exact hn
theorem lexF_small : ∀ (n : Nat) (r : List UInt8) (L C : Nat) (acc : List Tk), L + r.length ≤ 4001 → C + r.length ≤ 4001 → (∀ t ∈ acc, t.line ≤ 4001 ∧ t.col ≤ 4001 ∧ t.kind ≤ 3) → Small (lexF n r L C acc)
  | 0, _, _, _, _, _, _, _ => ⟨by simp [lexF], by simp [lexF], by simp [lexF], by simp [lexF]⟩
  | n + 1, r, L, C, acc, hL, hC, ha => by
    rw [lexF_blanks]
    have h1 := take_drop isBl r
    generalize (r.takeWhile isBl).length = k at h1
    cases hd : r.dropWhile isBl with
    | nil =>
      rw [lexF_nil]
      exact ⟨by simp, by simp, by simp, endUp_all ha ⟨by simp only; omega, by simp only; omega, by simp⟩⟩
    | cons c q =>
      rw [hd, List.length_cons] at h1
      by_cases c10 : c = 10
      · subst c10
        rw [lexF_line]
        exact lexF_small n q _ _ _ (by omega) (by omega) (endUp_all ha ⟨by simp only; omega, by simp only; omega, by simp⟩)
      by_cases c35 : c = 35
      · subst c35
        rw [lexF_remark]
        have h2 := take_drop isRm (35 :: q)
        generalize ((35 :: q).takeWhile isRm).length = k2 at h2
        rw [List.length_cons] at h2
        cases hz : (35 :: q).dropWhile isRm with
        | nil =>
          rw [lexF_nil]
          exact ⟨by simp, by simp, by simp, endUp_all ha ⟨by simp only; omega, by simp only; omega, by simp⟩⟩
        | cons z y =>
          have hz2 : isRm z = false := by
            have := List.head?_dropWhile_not isRm (35 :: q)
            rw [hz] at this
            simpa using this
          have hz3 : z = 10 := by simpa [isRm] using hz2
          subst hz3
          rw [hz, List.length_cons] at h2
          rw [lexF_line]
          exact lexF_small n y _ _ _ (by omega) (by omega) (endUp_all ha ⟨by simp only; omega, by simp only; omega, by simp⟩)
      cases hc : isLet c with
      | true =>
        rw [lexF_word hc]
        have h2 := take_drop isW (c :: q)
        rw [List.length_cons] at h2
        split
        · exact ⟨by simp only; omega, by simp only; omega, by simp, by simp⟩
        · exact lexF_small n _ _ _ _ (by omega) (by omega) (snoc_all ha ⟨by simp only; omega, by simp only; omega, by simp⟩)
      | false =>
        by_cases hn : c = 45 ∨ isD c = true
        · rw [lexF_number hn]
          have h2 := take_drop isNm q
          split
          · exact lexF_small n _ _ _ _ (by omega) (by omega) (snoc_all ha ⟨by simp only; omega, by simp only; omega, by simp⟩)
          · exact ⟨by simp only; omega, by simp only; omega, by simp, by simp⟩
        · have hb : isBl c = false := by
            have := List.head?_dropWhile_not isBl r
            rw [hd] at this
            simpa using this
          rw [lexF_other hb c10 c35 hc (fun h => hn (.inl h)) (by apply Bool.eq_false_iff.2; exact fun h => hn (.inr h))]
          exact ⟨by simp only; omega, by simp only; omega, by simp, by simp⟩
theorem lexP_small (s : List UInt8) : Small (lexP s) := by
  unfold lexP
  split
  · exact ⟨by simp, by simp, by simp, by simp⟩
  · exact lexF_small _ _ _ _ _ (by omega) (by omega) (by simp)

/-! ### Lines -/
def linesF : List UInt8 → List UInt8 → List (List UInt8)
  | cur, [] => [cur]
  | cur, b :: r => if b = 10 then cur :: linesF [] r else linesF (cur ++ [b]) r
theorem linesF_len (cur r : List UInt8) : 1 ≤ (linesF cur r).length := by
  induction r generalizing cur with
  | nil => simp [linesF]
  | cons b r ih =>
    unfold linesF
    split
    · simp
    · exact ih _
theorem linesF_len2 (cur r : List UInt8) : (linesF cur r).length ≤ r.length + 1 := by
  induction r generalizing cur with
  | nil => simp [linesF]
  | cons b r ih =>
    unfold linesF
    split
    · simp only [List.length_cons]; have := ih []; omega
    · have := ih (cur ++ [b]); simp only [List.length_cons]; omega
theorem linesF_app : ∀ (t p r : List UInt8), t.all isRm = true → linesF p (t ++ r) = linesF (p ++ t) r
  | [], p, r, _ => by simp
  | b :: t, p, r, h => by
    simp only [List.all_cons, Bool.and_eq_true] at h
    have hb : ¬ b = 10 := by simpa [isRm] using h.1
    rw [List.cons_append]
    conv => lhs; unfold linesF
    rw [if_neg hb, linesF_app t _ r h.2, List.append_assoc]
    rfl
theorem linesF_head (p r : List UInt8) : (linesF p r)[0]? = some (p ++ r.takeWhile isRm) := by
  induction r generalizing p with
  | nil => simp [linesF]
  | cons b r ih =>
    unfold linesF
    by_cases hb : b = 10
    · subst hb
      rw [if_pos rfl, (drop_id (p := isRm) (b := 10) rfl).2]
      simp
    · have h : isRm b = true := by simpa [isRm] using hb
      rw [if_neg hb, ih, List.takeWhile_cons_of_pos h]
      simp

/-! ### What is asked of a token behind what was last -/
def Fits (lines : List (List UInt8)) (st : Nat × Nat × Bool) (t : Tk) : Prop :=
  1 ≤ t.line ∧ t.line ≤ lines.length ∧ 1 ≤ t.col ∧ (st.1 < t.line ∨ t.line = st.1 ∧ st.2.1 < t.col) ∧ (st.1 < t.line → st.2.2 = true) ∧
  ∃ row, lines[t.line - 1]? = some row ∧ (t.kind = 3 → t.col = row.length + 1 ∧ t.text = []) ∧ (t.kind ≠ 3 → t.col - 1 + t.text.length ≤ row.length ∧ (row.drop (t.col - 1)).take t.text.length = t.text ∧ 0 < t.text.length)
def after (t : Tk) : Nat × Nat × Bool := (t.line, t.col, t.kind == 3)
def Run (lines : List (List UInt8)) : Nat × Nat × Bool → List Tk → Nat × Nat × Bool → Prop
  | st, [], st' => st = st'
  | st, t :: r, st' => Fits lines st t ∧ Run lines (after t) r st'
theorem Run.snoc {lines : List (List UInt8)} {st' : Nat × Nat × Bool} {t : Tk} : ∀ {l : List Tk} {st : Nat × Nat × Bool}, Run lines st l st' → Fits lines st' t → Run lines st (l ++ [t]) (after t)
  | [], st, h, ht => by
    obtain rfl : st = st' := h
    exact ⟨ht, rfl⟩
  | a :: l, st, h, ht => ⟨h.1, Run.snoc h.2 ht⟩
theorem unended_snoc (acc : List Tk) (t : Tk) : unended (acc ++ [t]) = (t.kind != 3) := by simp [unended]

/-- What holds at a place of the scan. -/
structure At (lines : List (List UInt8)) (r : List UInt8) (L C : Nat) (acc : List Tk) : Prop where
  run : ∃ done p lL lC, lines = done ++ linesF p r ∧ L = done.length + 1 ∧ C = p.length + 1 ∧ Run lines (0, 0, true) acc (lL, lC, !unended acc) ∧ (lL < L ∨ lL = L ∧ lC < C) ∧ (lL < L → unended acc = false)

theorem At.skip {lines : List (List UInt8)} {t r : List UInt8} {L C : Nat} {acc : List Tk} (h : At lines (t ++ r) L C acc) (ht : t.all isRm = true) : At lines r L (C + t.length) acc := by
  obtain ⟨done, p, lL, lC, h1, h2, h3, h4, h5, h6⟩ := h.run
  rw [linesF_app t p r ht] at h1
  exact ⟨done, p ++ t, lL, lC, h1, h2, by rw [List.length_append]; omega, h4, by omega, h6⟩
theorem At.row {lines : List (List UInt8)} {r : List UInt8} {L C : Nat} {acc : List Tk} (h : At lines r L C acc) : ∃ row, L ≤ lines.length ∧ 1 ≤ L ∧ lines[L - 1]? = some (row ++ r.takeWhile isRm) ∧ C = row.length + 1 := by
  obtain ⟨done, p, lL, lC, h1, h2, h3, h4, h5, h6⟩ := h.run
  have hl := linesF_len p r
  refine ⟨p, by rw [h1, List.length_append]; omega, by omega, ?_, h3⟩
  rw [h1, h2, Nat.add_sub_cancel, List.getElem?_append_right (Nat.le_refl _), Nat.sub_self]
  exact linesF_head p r
/-- A token that is not an End, and its bytes are passed. -/
theorem At.token {lines : List (List UInt8)} {t r : List UInt8} {L C k : Nat} {acc : List Tk} (h : At lines (t ++ r) L C acc) (ht : t.all isRm = true) (h0 : 0 < t.length) (hk : k ≠ 3) : At lines r L (C + t.length) (acc ++ [⟨k, t, L, C⟩]) := by
  obtain ⟨row, g1, g2, g3, g4⟩ := h.row
  obtain ⟨done, p, lL, lC, h1, h2, h3, h4, h5, h6⟩ := (h.skip ht).run
  obtain ⟨_, _, lL', lC', _, _, _, k4, k5, k6⟩ := h.run
  have hfit : Fits lines (lL', lC', !unended acc) ⟨k, t, L, C⟩ := by
    refine ⟨g2, g1, by simp only; omega, by simp only; omega, fun hl => by rw [k6 hl]; rfl, _, g3, fun h => absurd h hk, fun _ => ?_⟩
    simp only
    have e : (t ++ r).takeWhile isRm = t ++ r.takeWhile isRm := List.takeWhile_append_of_pos (by simpa using ht)
    rw [e]
    refine ⟨by simp only [List.length_append]; omega, ?_, h0⟩
    rw [show C - 1 = row.length by omega, List.drop_append_of_le_length (Nat.le_refl _), List.drop_of_length_le (Nat.le_refl _), List.nil_append, List.take_append_of_le_length (Nat.le_refl _), List.take_of_length_le (Nat.le_refl _)]
  have hun : unended (acc ++ [⟨k, t, L, C⟩]) = true := by rw [unended_snoc]; simpa using hk
  refine ⟨done, p, L, C, h1, h2, h3, ?_, .inr ⟨rfl, by omega⟩, fun hl => absurd hl (by omega)⟩
  rw [hun]
  have := k4.snoc hfit
  have e : after ⟨k, t, L, C⟩ = (L, C, !true) := by unfold after; simp [hk]
  rw [e] at this
  exact this
/-- A line's end. -/
theorem At.ends {lines : List (List UInt8)} {r : List UInt8} {L C : Nat} {acc : List Tk} (h : At lines r L C acc) (hr : r.takeWhile isRm = []) : ∃ lL lC, Run lines (0, 0, true) (endUp acc L C) (lL, lC, true) ∧ lL ≤ L ∧ unended (endUp acc L C) = false := by
  obtain ⟨row, g1, g2, g3, g4⟩ := h.row
  obtain ⟨done, p, lL, lC, h1, h2, h3, h4, h5, h6⟩ := h.run
  unfold endUp
  cases hu : unended acc with
  | false =>
    rw [hu] at h4
    rw [if_neg (by simp)]
    exact ⟨lL, lC, h4, by omega, hu⟩
  | true =>
    rw [if_pos rfl]
    rw [hr, List.append_nil] at g3
    have hfit : Fits lines (lL, lC, !unended acc) ⟨3, [], L, C⟩ := by
      refine ⟨g2, g1, by simp only; omega, by simp only; omega, fun hl => ?_, row, g3, fun _ => ⟨g4, rfl⟩, fun h => absurd rfl h⟩
      have := h6 hl
      rw [hu] at this
      cases this
    exact ⟨L, C, h4.snoc hfit, Nat.le_refl _, by rw [unended_snoc]; rfl⟩
theorem At.line {lines : List (List UInt8)} {r : List UInt8} {L C : Nat} {acc : List Tk} (h : At lines (10 :: r) L C acc) : At lines r (L + 1) 1 (endUp acc L C) := by
  obtain ⟨lL, lC, k1, k2, k3⟩ := h.ends (drop_id (p := isRm) (b := 10) rfl).2
  obtain ⟨done, p, _, _, h1, h2, h3, _, _, _⟩ := h.run
  refine ⟨done ++ [p], [], lL, lC, by rw [h1]; simp [linesF], by simp [h2], rfl, by rw [k3]; exact k1, .inl (by omega), fun _ => k3⟩
theorem all_take (p q : UInt8 → Bool) : ∀ (l : List UInt8), (∀ b, p b = true → q b = true) → (l.takeWhile p).all q = true
  | [], _ => rfl
  | b :: l, h => by
    cases hb : p b with
    | true =>
      rw [List.takeWhile_cons_of_pos hb, List.all_cons, h b hb, all_take p q l h]
      rfl
    | false =>
      rw [List.takeWhile_cons_of_neg (by rw [hb]; simp)]
      rfl
theorem bl_rm (b : UInt8) (h : isBl b = true) : isRm b = true := by
  simp only [isBl, Bool.or_eq_true, beq_iff_eq] at h
  rcases h with rfl | rfl <;> rfl
theorem nm_rm (b : UInt8) (h : isNm b = true) : isRm b = true := by
  simp only [isRm, bne_iff_ne, ne_eq]
  rintro rfl
  exact absurd h (by decide)
theorem w_rm (b : UInt8) (h : isW b = true) : isRm b = true := by
  simp only [isRm, bne_iff_ne, ne_eq]
  rintro rfl
  exact absurd h (by decide)

theorem lexF_run {lines : List (List UInt8)} : ∀ (n : Nat) (r : List UInt8) (L C : Nat) (acc : List Tk), r.length < n → At lines r L C acc → (lexF n r L C acc).err = 0 → ∃ lL lC, Run lines (0, 0, true) (lexF n r L C acc).toks (lL, lC, true)
  | 0, _, _, _, _, hn, _ => by omega
  | n + 1, r, L, C, acc, hn, h => by
    rw [lexF_blanks]
    have h1 := take_drop isBl r
    have e1 : r = r.takeWhile isBl ++ r.dropWhile isBl := List.takeWhile_append_dropWhile.symm
    rw [e1] at h
    replace h := h.skip (all_take _ _ _ bl_rm)
    generalize C + (r.takeWhile isBl).length = D at *
    cases hd : r.dropWhile isBl with
    | nil =>
      rw [hd] at h
      rw [lexF_nil]
      intro _
      obtain ⟨lL, lC, k1, _, _⟩ := h.ends rfl
      exact ⟨lL, lC, k1⟩
    | cons c q =>
      rw [hd] at h h1
      rw [List.length_cons] at h1
      by_cases c10 : c = 10
      · subst c10
        rw [lexF_line]
        exact lexF_run n q _ _ _ (by omega) h.line
      by_cases c35 : c = 35
      · subst c35
        rw [lexF_remark]
        have h2 := take_drop isRm (35 :: q)
        have e2 : 35 :: q = (35 :: q).takeWhile isRm ++ (35 :: q).dropWhile isRm := List.takeWhile_append_dropWhile.symm
        rw [e2] at h
        replace h := h.skip (all_take _ _ _ fun _ h => h)
        cases hz : (35 :: q).dropWhile isRm with
        | nil =>
          rw [hz] at h
          rw [lexF_nil]
          intro _
          obtain ⟨lL, lC, k1, _, _⟩ := h.ends rfl
          exact ⟨lL, lC, k1⟩
        | cons z y =>
          have hz2 : isRm z = false := by
            have := List.head?_dropWhile_not isRm (35 :: q)
            rw [hz] at this
            simpa using this
          have hz3 : z = 10 := by simpa [isRm] using hz2
          subst hz3
          rw [hz] at h h2
          simp only [List.length_cons] at h2
          rw [lexF_line]
          exact lexF_run n y _ _ _ (by omega) h.line
      cases hc : isLet c with
      | true =>
        rw [lexF_word hc]
        have h2 := take_drop isW (c :: q)
        have h3 : 0 < ((c :: q).takeWhile isW).length := by rw [(word_drop hc).2]; simp
        rw [List.length_cons] at h2
        split
        · intro he; cases he
        · have e2 : c :: q = (c :: q).takeWhile isW ++ (c :: q).dropWhile isW := List.takeWhile_append_dropWhile.symm
          rw [e2] at h
          exact lexF_run n _ _ _ _ (by omega) (h.token (all_take _ _ _ w_rm) h3 (by decide))
      | false =>
        by_cases hnm : c = 45 ∨ isD c = true
        · rw [lexF_number hnm]
          have h2 := take_drop isNm q
          split
          · have e2 : c :: q = (c :: q.takeWhile isNm) ++ q.dropWhile isNm := by rw [List.cons_append, List.takeWhile_append_dropWhile]
            rw [e2] at h
            have hc10 : isRm c = true := by simpa [isRm] using c10
            have := h.token (k := 2) (by rw [List.all_cons, hc10, all_take _ _ _ nm_rm]; rfl) (by simp) (by decide)
            rw [show (c :: q.takeWhile isNm).length = 1 + (q.takeWhile isNm).length by simp; omega] at this
            exact lexF_run n _ _ _ _ (by omega) this
          · intro he; cases he
        · have hb : isBl c = false := by
            have := List.head?_dropWhile_not isBl r
            rw [hd] at this
            simpa using this
          rw [lexF_other hb c10 c35 hc (fun h => hnm (.inl h)) (by apply Bool.eq_false_iff.2; exact fun h => hnm (.inr h))]
          intro he; cases he
theorem lexP_run (s : List UInt8) (he : (lexP s).err = 0) : ∃ lL lC, Run (linesF [] s) (0, 0, true) (lexP s).toks (lL, lC, true) := by
  unfold lexP at he ⊢
  split at he
  · cases he
  · rename_i h
    rw [if_neg h]
    exact lexF_run _ s 1 1 [] (by omega) ⟨[], [], 0, 0, rfl, rfl, rfl, rfl, .inl (by omega), fun _ => rfl⟩ he
theorem lexP_none (s : List UInt8) (he : (lexP s).err ≠ 0) : (lexP s).toks = [] := by
  have key : ∀ (n : Nat) (r : List UInt8) (L C : Nat) (acc : List Tk), (lexF n r L C acc).err ≠ 0 → (lexF n r L C acc).toks = [] := by
    intro n
    induction n with
    | zero => intro r L C acc _; rfl
    | succ n ih =>
      intro r L C acc
      unfold lexF
      split
      · intro h; exact absurd rfl h
      · split
        · exact ih _ _ _ _
        · split
          · split
            · intro h; exact absurd rfl h
            · exact ih _ _ _ _
          · split
            · split
              · intro _; rfl
              · exact ih _ _ _ _
            · split
              · split
                · exact ih _ _ _ _
                · intro _; rfl
              · intro _; rfl
  unfold lexP at he ⊢
  split at he
  · rename_i h; rw [if_pos h]
  · rename_i h; rw [if_neg h]; exact key _ _ _ _ _ he
end Go.Proofs.YthhipepdkpoomaaDoor

