/-
  A lens's reader as a state that goes on behind its first error: it comes to what is read token by token. Plain lists.
-/
import Derived.Test.YtekhhekkepijoaaGreatDoorGj
import Derived.Test.YtekhhekkepijoaaGreatDoorGg
import Derived.Test.YtekhhekkepijoaaGreatDoorGd
namespace Go.Proofs.YtekhhekkepijoaaGreatDoor
set_option linter.unusedVariables false
open Go.RowKit

/-! ### Tokens: a word alone begins with a letter -/
def Lead (t : Tk) : Prop := t.kind = 1 ∨ ∀ c w, t.text = c :: w → isLet c = false
theorem lexF_lead : ∀ (n : Nat) (r : List UInt8) (L C : Nat) (acc : List Tk), (∀ t ∈ acc, Lead t) → ∀ t ∈ (lexF n r L C acc).toks, Lead t
  | 0, _, _, _, _, _ => by simp [lexF]
  | n + 1, r, L, C, acc, ha => by
    have up : ∀ {L C : Nat}, ∀ t ∈ endUp acc L C, Lead t := fun {L C} => endUp_all ha (.inr (by simp))
    rw [lexF_blanks]
    generalize C + (r.takeWhile isBl).length = D
    cases hd : r.dropWhile isBl with
    | nil =>
      rw [lexF_nil]
      exact up
    | cons c q =>
      by_cases c10 : c = 10
      · subst c10
        rw [lexF_line]
        exact lexF_lead n q (L + 1) 1 _ up
      by_cases c35 : c = 35
      · subst c35
        rw [lexF_remark]
        generalize D + ((35 :: q).takeWhile isRm).length = D2
        cases hz : (35 :: q).dropWhile isRm with
        | nil =>
          rw [lexF_nil]
          exact up
        | cons z y =>
          have hz2 : isRm z = false := by
            have := List.head?_dropWhile_not isRm (35 :: q)
            rw [hz] at this
            simpa using this
          have hz3 : z = 10 := by simpa [isRm] using hz2
          subst hz3
          rw [lexF_line]
          exact lexF_lead n y (L + 1) 1 _ up
      cases hc : isLet c with
      | true =>
        rw [lexF_word hc]
        split
        · simp
        · exact lexF_lead n _ L _ _ (snoc_all ha (.inl rfl))
      | false =>
        by_cases hn : c = 45 ∨ isD c = true
        · rw [lexF_number hn]
          split
          · refine lexF_lead n _ L _ _ (snoc_all ha (.inr ?_))
            intro c' w' h
            injection h with h1 h2
            rw [← h1]
            exact hc
          · simp
        · have hb : isBl c = false := by
            have := List.head?_dropWhile_not isBl r
            rw [hd] at this
            simpa using this
          rw [lexF_other hb c10 c35 hc (fun h => hn (.inl h)) (by apply Bool.eq_false_iff.2; exact fun h => hn (.inr h))]
          simp
theorem lexP_lead (s : List UInt8) : ∀ t ∈ (lexP s).toks, Lead t := by
  unfold lexP
  split
  · simp
  · exact lexF_lead _ _ _ _ _ (by simp)
/-- What is known of the tokens that are still to be taken. -/
structure Fine (ts : List Tk) : Prop where
  ends : unended ts = false
  len : ∀ t ∈ ts, t.text.length ≤ 4000
  lead : ∀ t ∈ ts, Lead t
theorem lexP_fine (s : List UInt8) : Fine (lexP s).toks := ⟨(lexP_ends s).1, (lexP_ends s).2, lexP_lead s⟩
theorem Fine.tail {t : Tk} {r : List Tk} (h : Fine (t :: r)) : Fine r := by
  refine ⟨?_, fun u hu => h.len u (by simp [hu]), fun u hu => h.lead u (by simp [hu])⟩
  have := unended_drop h.ends 1
  exact this
theorem Fine.more {t : Tk} {r : List Tk} (h : Fine (t :: r)) (hk : t.kind ≠ 3) : r ≠ [] := by
  rintro rfl
  have := h.ends
  simp [unended] at this
  exact hk this

/-! ### Decimals that are read are right -/
theorem canon_bd : ∀ (s c : Nat), (canon c s).1 ≤ c ∧ (canon c s).2 ≤ s ∧ ((canon c s).2 = 0 ∨ (canon c s).1 % 10 ≠ 0)
  | 0, c => ⟨Nat.le_refl _, Nat.le_refl _, .inl rfl⟩
  | s + 1, c => by
    unfold canon
    split
    · have h := canon_bd s (c / 10)
      exact ⟨by have := Nat.div_le_self c 10; omega, by omega, h.2.2⟩
    · rename_i h
      exact ⟨Nat.le_refl _, Nat.le_refl _, .inr h⟩
theorem digs_bd {l : List UInt8} {m : Nat} (h : digs l m = true) : l.length ≤ m ∧ l.all isD = true := by
  unfold digs at h
  simp only [Bool.and_eq_true, decide_eq_true_eq] at h
  exact ⟨by omega, h.2⟩
theorem readP_right (l : List UInt8) : decRight (readP l).1 = true := by
  cases h : okA (unsg l) with
  | false => rw [readP_no h]; rfl
  | true =>
    have hA : (dotA (unsg l)).length ≤ 5 ∧ (dotA (unsg l)).all isD = true ∧ (dotB (unsg l)).length ≤ 6 ∧ (dotB (unsg l)).all isD = true := by
      have h0 := h
      unfold okA at h
      simp only [Bool.and_eq_true, Bool.or_eq_true, Bool.not_eq_true'] at h
      have h1 := digs_bd (m := 5) h.1
      rcases h.2 with h2 | h2
      · rw [(dot_none _ h2).2]
        exact ⟨h1.1, h1.2, by simp, rfl⟩
      · have h3 := digs_bd (m := 6) h2
        exact ⟨h1.1, h1.2, h3.1, h3.2⟩
    obtain ⟨a1, a2, a3, a4⟩ := hA
    have hv := valL_lt (dotA (unsg l) ++ dotB (unsg l)) (by rw [List.all_append, a2, a4]; rfl)
    have hp : 10 ^ (dotA (unsg l) ++ dotB (unsg l)).length ≤ 10 ^ 11 := Nat.pow_le_pow_right (by omega) (by rw [List.length_append]; omega)
    have hb := canon_bd (dotB (unsg l)).length (valL (dotA (unsg l) ++ dotB (unsg l)))
    obtain ⟨⟨c, s⟩, hcs⟩ : ∃ x, canon (valL (dotA (unsg l) ++ dotB (unsg l))) (dotB (unsg l)).length = x := ⟨_, rfl⟩
    rw [hcs] at hb
    dsimp only at hb
    have hc : c ≤ 100000000000 := by
      have : (10 : Nat) ^ 11 = 100000000000 := by decide
      omega
    rw [readP_yes h c s hcs]
    split
    · rfl
    · split
      · exact decRight_mk (by omega) (by omega) (by omega) (by omega) (by
          rcases hb.2.2 with h0 | h0
          · left; omega
          · right; rw [Int.neg_tmod, Int.tmod_eq_emod_of_nonneg (by omega)]; omega)
      · exact decRight_mk (by omega) (by omega) (by omega) (by omega) (by
          rcases hb.2.2 with h0 | h0
          · left; omega
          · right; rw [Int.tmod_eq_emod_of_nonneg (by omega)]; omega)

/-! ### The state -/
structure RdS where
  ts : List Tk
  line : Nat
  col : Nat
  err : Nat
def fl (σ : RdS) : Flt := ⟨σ.line, σ.col, σ.err⟩
def Z0T : Tk := ⟨0, [], 0, 0⟩
def failS (e l c : Nat) (σ : RdS) : RdS := if σ.err = 0 then ⟨σ.ts, l, c, e⟩ else σ
def takeS (k : Nat) (σ : RdS) : Tk × RdS :=
  match σ.ts with
  | [] => (Z0T, σ)
  | t :: r => if t.kind = k then (t, ⟨r, σ.line, σ.col, σ.err⟩) else (Z0T, failS 2 t.line t.col σ)
def wordS (ws : List (List UInt8)) (σ : RdS) : Tk × RdS := ((takeS 1 σ).1, if (takeS 1 σ).1.text ∈ ws then (takeS 1 σ).2 else failS 2 (takeS 1 σ).1.line (takeS 1 σ).1.col (takeS 1 σ).2)
def numS (σ : RdS) : Dec × Tk × RdS := ((readP (takeS 2 σ).1.text).1, (takeS 2 σ).1, (takeS 2 σ).2)
def posS (σ : RdS) : Dec × RdS := ((numS σ).1, if (numS σ).1.c ≤ 0 then failS 1 (numS σ).2.1.line (numS σ).2.1.col (numS σ).2.2 else (numS σ).2.2)
def thkS (σ : RdS) : Dec × RdS := ((numS σ).1, if (numS σ).1.c < 0 then failS 1 (numS σ).2.1.line (numS σ).2.1.col (numS σ).2.2 else (numS σ).2.2)
def glsS (G : List (List UInt8)) (σ : RdS) : List UInt8 × RdS := ((takeS 1 σ).1.text, if knownG G (takeS 1 σ).1.text = true then (takeS 1 σ).2 else failS 4 (takeS 1 σ).1.line (takeS 1 σ).1.col (takeS 1 σ).2)
def headX (σ : RdS) : List UInt8 := match σ.ts with | [] => [] | t :: _ => t.text
def trmS (w : List UInt8) (σ : RdS) : Dec × RdS :=
  if headX σ = w then ((numS (takeS 1 σ).2).1, if (numS (takeS 1 σ).2).1.c = 0 then failS 1 (numS (takeS 1 σ).2).2.1.line (numS (takeS 1 σ).2).2.1.col (numS (takeS 1 σ).2).2.2 else (numS (takeS 1 σ).2).2.2)
  else (D0, σ)
def lessD (a b : Dec) : Bool := decRight a && decRight b && decide (a.c * 10 ^ b.s.toNat < b.c * 10 ^ a.s.toNat)
def reachB (r a : Dec) : Bool := decide (r.c = 0) || !(lessD ⟨max r.c (-r.c), r.s⟩ a)
def rchS (r : Dec) (t : Tk) (a : Dec) (σ : RdS) : RdS := if reachB r a = true then σ else failS 1 t.line t.col σ
def fS1 (σ : RdS) : RdS := (numS σ).2.2
def fS2 (σ : RdS) : RdS := (posS (fS1 σ)).2
def fS3 (σ : RdS) : RdS := rchS (numS σ).1 (numS σ).2.1 (posS (fS1 σ)).1 (fS2 σ)
def fS4 (σ : RdS) : RdS := (thkS (fS3 σ)).2
def fS5 (G : List (List UInt8)) (σ : RdS) : RdS := (glsS G (fS4 σ)).2
def fS6 (G : List (List UInt8)) (σ : RdS) : RdS := (trmS conicT (fS5 G σ)).2
def fS7 (G : List (List UInt8)) (σ : RdS) : RdS := (trmS a4T (fS6 G σ)).2
def fS8 (G : List (List UInt8)) (σ : RdS) : RdS := (trmS a6T (fS7 G σ)).2
def faceS (G : List (List UInt8)) (σ : RdS) : Fc × RdS :=
  (⟨false, (numS σ).1, (posS (fS1 σ)).1, (thkS (fS3 σ)).1, (trmS conicT (fS5 G σ)).1, (trmS a4T (fS6 G σ)).1, (trmS a6T (fS7 G σ)).1, (glsS G (fS4 σ)).1⟩, fS8 G σ)
def stopS (σ : RdS) : Fc × RdS := (⟨true, D0, (posS σ).1, (thkS (posS σ).2).1, D0, D0, D0, []⟩, (thkS (posS σ).2).2)
def bigS (n : Nat) (t : Tk) (σ : RdS) : RdS := if n = 12 then failS 3 t.line t.col σ else σ
def bodyS (G : List (List UInt8)) (t : Tk) (σ : RdS) : Fc × RdS := if t.text = stopT then stopS σ else faceS G σ
def lS1 (n : Nat) (σ : RdS) : RdS := bigS n (wordS [faceT, stopT] σ).1 (wordS [faceT, stopT] σ).2
def lS2 (G : List (List UInt8)) (n : Nat) (σ : RdS) : RdS := (bodyS G (wordS [faceT, stopT] σ).1 (lS1 n σ)).2
def lineS (G : List (List UInt8)) (n : Nat) (σ : RdS) : Fc × RdS := ((bodyS G (wordS [faceT, stopT] σ).1 (lS1 n σ)).1, (takeS 3 (lS2 G n σ)).2)
def hS1 (σ : RdS) : RdS := (wordS [lensT] σ).2
def hS2 (σ : RdS) : RdS := (takeS 1 (hS1 σ)).2
def hS3 (σ : RdS) : RdS := (posS (hS2 σ)).2
def hS4 (σ : RdS) : RdS := (takeS 3 (hS3 σ)).2
def doneS (l : List Fc) (σ : RdS) : RdS := if l.all Fc.stop = true then failS 1 0 0 σ else σ

/-! ### An error that is told stays; tokens are taken alone -/
structure Stk (σ σ' : RdS) : Prop where
  fl : σ.err ≠ 0 → fl σ' = fl σ
  len : σ'.ts.length ≤ σ.ts.length
theorem Stk.refl (σ : RdS) : Stk σ σ := ⟨fun _ => rfl, Nat.le_refl _⟩
theorem Stk.trans {a b c : RdS} (h : Stk a b) (k : Stk b c) : Stk a c := by
  refine ⟨fun h0 => ?_, Nat.le_trans k.len h.len⟩
  have h1 := h.fl h0
  have h2 : b.err ≠ 0 := by
    have : b.err = a.err := congrArg Flt.err h1
    omega
  exact (k.fl h2).trans h1
theorem ts_fail (e l c : Nat) (σ : RdS) : (failS e l c σ).ts = σ.ts := by unfold failS; split <;> rfl
theorem stk_fail (e l c : Nat) (σ : RdS) : Stk σ (failS e l c σ) := ⟨fun h => by unfold failS; rw [if_neg h], by rw [ts_fail]; exact Nat.le_refl _⟩
theorem stk_if {p : Prop} [Decidable p] (e l c : Nat) (σ : RdS) : Stk σ (if p then failS e l c σ else σ) := by
  split
  · exact stk_fail ..
  · exact .refl _
theorem stk_if' {p : Prop} [Decidable p] (e l c : Nat) (σ : RdS) : Stk σ (if p then σ else failS e l c σ) := by
  split
  · exact .refl _
  · exact stk_fail ..
theorem stk_take (k : Nat) (σ : RdS) : Stk σ (takeS k σ).2 := by
  obtain ⟨ts, L, C, e⟩ := σ
  unfold takeS
  cases ts with
  | nil => exact .refl _
  | cons t r =>
    dsimp only
    split
    · exact ⟨fun _ => rfl, by simp⟩
    · exact stk_fail ..
theorem take_less {k : Nat} {σ : RdS} (h0 : σ.ts ≠ []) (h : (takeS k σ).2.err = 0) (hs : σ.err = 0) : (takeS k σ).2.ts.length < σ.ts.length := by
  obtain ⟨ts, L, C, e⟩ := σ
  cases ts with
  | nil => exact absurd rfl h0
  | cons t r =>
    unfold takeS at h ⊢
    dsimp only at h hs ⊢
    split
    · simp
    · rename_i hk
      rw [if_neg hk] at h
      unfold failS at h
      rw [if_pos hs] at h
      cases h
theorem stk_num (σ : RdS) : Stk σ (numS σ).2.2 := stk_take 2 σ
theorem stk_pos (σ : RdS) : Stk σ (posS σ).2 := (stk_num σ).trans (stk_if ..)
theorem stk_thk (σ : RdS) : Stk σ (thkS σ).2 := (stk_num σ).trans (stk_if ..)
theorem stk_gls (G : List (List UInt8)) (σ : RdS) : Stk σ (glsS G σ).2 := (stk_take 1 σ).trans (stk_if' ..)
theorem stk_trm (w : List UInt8) (σ : RdS) : Stk σ (trmS w σ).2 := by
  unfold trmS
  split
  · exact ((stk_take 1 σ).trans (stk_num _)).trans (stk_if ..)
  · exact .refl _
theorem stk_rch (r : Dec) (t : Tk) (a : Dec) (σ : RdS) : Stk σ (rchS r t a σ) := stk_if' ..
theorem stk_face (G : List (List UInt8)) (σ : RdS) : Stk σ (faceS G σ).2 :=
  show Stk σ (fS8 G σ) from (stk_num σ).trans <| (stk_pos (fS1 σ)).trans <| (stk_rch _ _ _ (fS2 σ)).trans <| (stk_thk (fS3 σ)).trans <| (stk_gls G (fS4 σ)).trans <| (stk_trm _ (fS5 G σ)).trans <| (stk_trm _ (fS6 G σ)).trans (stk_trm _ (fS7 G σ))
theorem stk_stop (σ : RdS) : Stk σ (stopS σ).2 := (stk_pos σ).trans (stk_thk _)
theorem stk_big (n : Nat) (t : Tk) (σ : RdS) : Stk σ (bigS n t σ) := stk_if ..
theorem stk_body (G : List (List UInt8)) (t : Tk) (σ : RdS) : Stk σ (bodyS G t σ).2 := by
  unfold bodyS
  split
  · exact stk_stop _
  · exact stk_face G _
/-! ### There is always a token more -/
def FineS (σ : RdS) : Prop := σ.ts ≠ [] ∧ Fine σ.ts
theorem FineS.fail {e l c : Nat} {σ : RdS} (h : FineS σ) : FineS (failS e l c σ) := by unfold FineS; rw [ts_fail]; exact h
theorem FineS.ite {p : Prop} [Decidable p] {a b : RdS} (h : FineS a) (k : FineS b) : FineS (if p then a else b) := by split <;> assumption
theorem FineS.take {k : Nat} (hk : k ≠ 3) {σ : RdS} (h : FineS σ) : FineS (takeS k σ).2 := by
  obtain ⟨ts, L, C, e⟩ := σ
  obtain ⟨h1, h2⟩ := h
  cases ts with
  | nil => exact absurd rfl h1
  | cons t r =>
    unfold takeS
    dsimp only
    split
    · rename_i h3
      exact ⟨h2.more (fun h4 => hk (h3.symm.trans h4)), h2.tail⟩
    · exact FineS.fail ⟨h1, h2⟩
theorem FineS.take3 {σ : RdS} (h : FineS σ) : Fine (takeS 3 σ).2.ts := by
  obtain ⟨ts, L, C, e⟩ := σ
  obtain ⟨h1, h2⟩ := h
  cases ts with
  | nil => exact absurd rfl h1
  | cons t r =>
    unfold takeS
    dsimp only
    split
    · exact h2.tail
    · rw [ts_fail]; exact h2
theorem FineS.word {ws : List (List UInt8)} {σ : RdS} (h : FineS σ) : FineS (wordS ws σ).2 := FineS.ite (h.take (by decide)) (h.take (by decide)).fail
theorem FineS.num {σ : RdS} (h : FineS σ) : FineS (numS σ).2.2 := h.take (by decide)
theorem FineS.pos {σ : RdS} (h : FineS σ) : FineS (posS σ).2 := FineS.ite h.num.fail h.num
theorem FineS.thk {σ : RdS} (h : FineS σ) : FineS (thkS σ).2 := FineS.ite h.num.fail h.num
theorem FineS.gls {G : List (List UInt8)} {σ : RdS} (h : FineS σ) : FineS (glsS G σ).2 := FineS.ite (h.take (by decide)) (h.take (by decide)).fail
theorem FineS.trm {w : List UInt8} {σ : RdS} (h : FineS σ) : FineS (trmS w σ).2 := by
  unfold trmS
  split
  · exact FineS.ite (h.take (by decide)).num.fail (h.take (by decide)).num
  · exact h
theorem FineS.rch {r : Dec} {t : Tk} {a : Dec} {σ : RdS} (h : FineS σ) : FineS (rchS r t a σ) := FineS.ite h h.fail
theorem FineS.face {G : List (List UInt8)} {σ : RdS} (h : FineS σ) : FineS (faceS G σ).2 := show FineS (fS8 G σ) from h.num.pos.rch.thk.gls.trm.trm.trm
theorem FineS.stop {σ : RdS} (h : FineS σ) : FineS (stopS σ).2 := h.pos.thk
theorem FineS.big {n : Nat} {t : Tk} {σ : RdS} (h : FineS σ) : FineS (bigS n t σ) := FineS.ite h.fail h
theorem FineS.body {G : List (List UInt8)} {t : Tk} {σ : RdS} (h : FineS σ) : FineS (bodyS G t σ).2 := by
  unfold bodyS
  split
  · exact h.stop
  · exact h.face
theorem fine_line (G : List (List UInt8)) (n : Nat) {σ : RdS} (h : FineS σ) : Fine (lineS G n σ).2.ts := h.word.big.body.take3
/-! ### It comes to the same -/
/-- What is told token by token, and what the state tells. -/
def Sim {α : Type} (x : Ex (α × List Tk)) (a : α) (σ' σ : RdS) : Prop :=
  match x with
  | .ok p => p = (a, σ'.ts) ∧ σ'.err = 0 ∧ σ'.line = σ.line ∧ σ'.col = σ.col
  | .error f => f.err ≠ 0 ∧ fl σ' = f
theorem Sim.bnd {α β : Type} {x : Ex (α × List Tk)} {a : α} {σ σ1 σ2 : RdS} {f : α × List Tk → Ex (β × List Tk)} {b : β} (h : Sim x a σ1 σ) (hs : Stk σ1 σ2)
    (hk : x = .ok (a, σ1.ts) → σ1.err = 0 → Sim (f (a, σ1.ts)) b σ2 σ1) : Sim (bnd x f) b σ2 σ := by
  cases x with
  | error e =>
    obtain ⟨h1, h2⟩ := h
    refine ⟨h1, ?_⟩
    have h3 : σ1.err ≠ 0 := by
      have : σ1.err = e.err := congrArg Flt.err h2
      omega
    exact (hs.fl h3).trans h2
  | ok p =>
    obtain ⟨rfl, h2, e1, e2⟩ := h
    have h3 := hk rfl h2
    show Sim (f (a, σ1.ts)) b σ2 σ
    cases hf : f (a, σ1.ts) with
    | error e => rw [hf] at h3; exact h3
    | ok q =>
      rw [hf] at h3
      obtain ⟨g1, g2, g3, g4⟩ := h3
      exact ⟨g1, g2, g3.trans e1, g4.trans e2⟩
theorem fail_new {e l c : Nat} {σ : RdS} (h : σ.err = 0) : fl (failS e l c σ) = ⟨l, c, e⟩ := by unfold failS; rw [if_pos h]; rfl
theorem sim_fail {α : Type} {t : Tk} {e : Nat} {a : α} {σ : RdS} (h : σ.err = 0) (he : e ≠ 0) : Sim (failAt t e) a (failS e t.line t.col σ) σ := ⟨he, fail_new h⟩
theorem sim_ok {α : Type} {a : α} {σ : RdS} (h : σ.err = 0) : Sim (.ok (a, σ.ts)) a σ σ := ⟨rfl, h, rfl, rfl⟩
/-- Behind an error all is the same. -/
theorem Sim.stay {α : Type} {t : Tk} {e : Nat} {a b : α} {σ σ1 σ2 : RdS} (h : Sim (failAt t e) a σ1 σ) (hs : Stk σ1 σ2) : Sim (failAt t e) b σ2 σ := by
  obtain ⟨g1, g2⟩ := h
  refine ⟨g1, ?_⟩
  have h3 : σ1.err ≠ 0 := by
    have : σ1.err = e := congrArg Flt.err g2
    rw [this]
    exact g1
  exact (hs.fl h3).trans g2
theorem sim_take (k : Nat) {σ : RdS} (h : σ.err = 0) (hf : FineS σ) : Sim (takeK k σ.ts) (takeS k σ).1 (takeS k σ).2 σ := by
  obtain ⟨ts, L, C, e⟩ := σ
  subst h
  cases ts with
  | nil => exact absurd rfl hf.1
  | cons t r =>
    unfold takeK takeS
    dsimp only
    by_cases hk : t.kind = k
    · rw [if_pos hk, if_pos hk]
      exact ⟨rfl, rfl, rfl, rfl⟩
    · rw [if_neg hk, if_neg hk]
      exact sim_fail rfl (by decide)
def numK (ts : List Tk) : Ex ((Dec × Tk) × List Tk) := bnd (takeK 2 ts) fun p => .ok (((readP p.1.text).1, p.1), p.2)
theorem decK_num {α : Type} (ts : List Tk) (f : Dec × Tk × List Tk → Ex α) : bnd (decK ts) f = bnd (numK ts) fun p => f (p.1.1, p.1.2, p.2) := by
  unfold decK numK
  cases takeK 2 ts <;> rfl
theorem sim_num {σ : RdS} (h : σ.err = 0) (hf : FineS σ) : Sim (numK σ.ts) ((numS σ).1, (numS σ).2.1) (numS σ).2.2 σ :=
  Sim.bnd (sim_take 2 h hf) (.refl _) fun _ h1 => sim_ok h1
theorem sim_pos {σ : RdS} (h : σ.err = 0) (hf : FineS σ) : Sim (posK σ.ts) (posS σ).1 (posS σ).2 σ := by
  unfold posK
  rw [decK_num]
  refine Sim.bnd (sim_num h hf) (stk_if ..) fun _ h1 => ?_
  dsimp only
  unfold posS
  by_cases hc : (numS σ).1.c ≤ 0
  · rw [if_pos hc, if_pos hc]
    exact sim_fail h1 (by decide)
  · rw [if_neg hc, if_neg hc]
    exact sim_ok h1
theorem sim_thk {σ : RdS} (h : σ.err = 0) (hf : FineS σ) : Sim (thickK σ.ts) (thkS σ).1 (thkS σ).2 σ := by
  unfold thickK
  rw [decK_num]
  refine Sim.bnd (sim_num h hf) (stk_if ..) fun _ h1 => ?_
  dsimp only
  unfold thkS
  by_cases hc : (numS σ).1.c < 0
  · rw [if_pos hc, if_pos hc]
    exact sim_fail h1 (by decide)
  · rw [if_neg hc, if_neg hc]
    exact sim_ok h1
theorem head_word {w : List UInt8} (hw : OkName w) {σ : RdS} (hf : FineS σ) : atWord w σ.ts = decide (headX σ = w) := by
  obtain ⟨ts, L, C, e⟩ := σ
  cases ts with
  | nil => exact absurd rfl hf.1
  | cons t r =>
    unfold atWord headX
    dsimp only
    by_cases hk : t.kind = 1
    · rw [decide_eq_true hk, Bool.true_and]
    · rw [decide_eq_false hk, Bool.false_and]
      symm
      rw [decide_eq_false_iff_not]
      intro ht
      obtain ⟨c, v, e, hc, -⟩ := hw
      rcases hf.2.lead t (by simp) with h1 | h1
      · exact hk h1
      · rw [h1 c v (ht.trans e)] at hc
        cases hc
theorem sim_trm {w : List UInt8} (hw : OkName w) {σ : RdS} (h : σ.err = 0) (hf : FineS σ) : Sim (termK w σ.ts) (trmS w σ).1 (trmS w σ).2 σ := by
  unfold termK trmS
  rw [head_word hw hf]
  by_cases hx : headX σ = w
  · rw [decide_eq_true hx, if_pos rfl, if_pos hx]
    have hkd : ∃ t r, σ.ts = t :: r ∧ t.kind = 1 := by
      have h1 := head_word hw hf
      rw [decide_eq_true hx] at h1
      unfold atWord at h1
      split at h1
      · cases h1
      · rename_i t r heq
        simp only [Bool.and_eq_true, decide_eq_true_eq] at h1
        exact ⟨t, r, heq, h1.1⟩
    obtain ⟨t, r, e1, e2⟩ := hkd
    have e3 : (takeS 1 σ).2 = ⟨r, σ.line, σ.col, σ.err⟩ := by
      unfold takeS
      rw [e1]
      dsimp only
      rw [if_pos e2]
    have hf2 := hf.take (k := 1) (by decide)
    have h2 : (takeS 1 σ).2.err = 0 := by rw [e3]; exact h
    have h3 : (takeS 1 σ).2.line = σ.line ∧ (takeS 1 σ).2.col = σ.col := by rw [e3]; exact ⟨rfl, rfl⟩
    have h4 : σ.ts.tail = (takeS 1 σ).2.ts := by rw [e1, e3]; rfl
    rw [h4]
    generalize (takeS 1 σ).2 = τ at hf2 h2 h3 ⊢
    have key : Sim (bnd (decK τ.ts) fun p => if p.1.c = 0 then failAt p.2.1 1 else .ok (p.1, p.2.2)) (numS τ).1 (if (numS τ).1.c = 0 then failS 1 (numS τ).2.1.line (numS τ).2.1.col (numS τ).2.2 else (numS τ).2.2) τ := by
      rw [decK_num]
      refine Sim.bnd (sim_num h2 hf2) (stk_if ..) fun _ h1 => ?_
      dsimp only
      by_cases hc : (numS τ).1.c = 0
      · rw [if_pos hc, if_pos hc]
        exact sim_fail h1 (by decide)
      · rw [if_neg hc, if_neg hc]
        exact sim_ok h1
    generalize (bnd (decK τ.ts) fun p => if p.1.c = 0 then failAt p.2.1 1 else Except.ok (p.1, p.2.2)) = x at key ⊢
    cases x with
    | error f => exact key
    | ok p =>
      obtain ⟨g1, g2, g3, g4⟩ := key
      exact ⟨g1, g2, g3.trans h3.1, g4.trans h3.2⟩
  · rw [decide_eq_false hx, if_neg (by simp), if_neg hx]
    exact sim_ok h
theorem reach_same {r a : Dec} (hr : decRight r = true) (ha : decRight a = true) : reachB r a = true ↔ ¬ (r.c ≠ 0 ∧ sizeLess r a = true) := by
  obtain ⟨c, s⟩ := r
  obtain ⟨hb, h0, h6, hz⟩ := decRight_bd hr
  have hm : max c (-c) = (c.natAbs : Int) := by omega
  have hR : decRight ⟨max c (-c), s⟩ = true := decRight_mk (by omega) (by omega) (by omega) (by omega) (by
    rcases hz with h | h
    · exact .inl h
    · right
      rcases Int.le_total 0 c with h1 | h1
      · rw [show max c (-c) = c by omega]; exact h
      · rw [show max c (-c) = -c by omega, Int.neg_tmod]; omega)
  unfold reachB lessD
  rw [hR, ha, hm]
  unfold sizeLess
  by_cases hc : c = 0
  · subst hc
    simp
  · simp [hc]
theorem num_right (σ : RdS) : decRight (numS σ).1 = true := readP_right _
theorem pos_right (σ : RdS) : decRight (posS σ).1 = true := readP_right _
theorem sim_face (G : List (List UInt8)) {σ : RdS} (h : σ.err = 0) (hf : FineS σ) : Sim (faceK G σ.ts) (faceS G σ).1 (takeS 3 (faceS G σ).2).2 σ := by
  have s8 : Stk (fS8 G σ) (takeS 3 (fS8 G σ)).2 := stk_take 3 _
  have s7 : Stk (fS7 G σ) (takeS 3 (fS8 G σ)).2 := (stk_trm a6T (fS7 G σ)).trans s8
  have s6 : Stk (fS6 G σ) (takeS 3 (fS8 G σ)).2 := (stk_trm a4T (fS6 G σ)).trans s7
  have s5 : Stk (fS5 G σ) (takeS 3 (fS8 G σ)).2 := (stk_trm conicT (fS5 G σ)).trans s6
  have s4 : Stk (fS4 σ) (takeS 3 (fS8 G σ)).2 := (stk_gls G (fS4 σ)).trans s5
  have s3 : Stk (fS3 σ) (takeS 3 (fS8 G σ)).2 := (stk_thk (fS3 σ)).trans s4
  have s2 : Stk (fS2 σ) (takeS 3 (fS8 G σ)).2 := (stk_rch _ _ _ (fS2 σ)).trans s3
  have s1 : Stk (fS1 σ) (takeS 3 (fS8 G σ)).2 := (stk_pos (fS1 σ)).trans s2
  have g1 : FineS (fS1 σ) := hf.num
  have g2 : FineS (fS2 σ) := g1.pos
  have g3 : FineS (fS3 σ) := g2.rch
  have g4 : FineS (fS4 σ) := g3.thk
  have g5 : FineS (fS5 G σ) := g4.gls
  have g6 : FineS (fS6 G σ) := g5.trm
  have g7 : FineS (fS7 G σ) := g6.trm
  have g8 : FineS (fS8 G σ) := g7.trm
  unfold faceK
  rw [decK_num]
  refine Sim.bnd (σ1 := fS1 σ) (sim_num h hf) s1 fun _ e1 => ?_
  refine Sim.bnd (σ1 := fS2 σ) (sim_pos e1 g1) s2 fun _ e2 => ?_
  have hr := reach_same (num_right σ) (pos_right (fS1 σ))
  dsimp only
  by_cases hc : (numS σ).1.c ≠ 0 ∧ sizeLess (numS σ).1 (posS (fS1 σ)).1 = true
  · rw [if_pos hc]
    refine Sim.stay (a := (faceS G σ).1) (σ1 := fS3 σ) ?_ s3
    have : fS3 σ = failS 1 (numS σ).2.1.line (numS σ).2.1.col (fS2 σ) := by
      unfold fS3 rchS
      rw [if_neg (fun h => hr.1 h hc)]
    rw [this]
    exact sim_fail e2 (by decide)
  · rw [if_neg hc]
    have e : fS3 σ = fS2 σ := by
      unfold fS3 rchS
      rw [if_pos (hr.2 hc)]
    have e3 : (fS3 σ).err = 0 := by rw [e]; exact e2
    show Sim (bnd (thickK (fS2 σ).ts) _) _ _ (fS2 σ)
    rw [← e]
    refine Sim.bnd (σ1 := fS4 σ) (sim_thk e3 g3) s4 fun _ e4 => ?_
    have s4' : Stk (takeS 1 (fS4 σ)).2 (fS5 G σ) := stk_if' ..
    refine Sim.bnd (sim_take 1 e4 g4) (s4'.trans s5) fun _ e5 => ?_
    dsimp only
    cases hk : knownG G (takeS 1 (fS4 σ)).1.text with
    | false =>
      rw [if_pos rfl]
      refine Sim.stay (a := (faceS G σ).1) (σ1 := fS5 G σ) ?_ s5
      have : fS5 G σ = failS 4 (takeS 1 (fS4 σ)).1.line (takeS 1 (fS4 σ)).1.col (takeS 1 (fS4 σ)).2 := by
        unfold fS5 glsS
        dsimp only
        rw [if_neg (by rw [hk]; simp)]
      rw [this]
      exact sim_fail e5 (by decide)
    | true =>
      rw [if_neg (by simp)]
      have e' : fS5 G σ = (takeS 1 (fS4 σ)).2 := by
        unfold fS5 glsS
        dsimp only
        rw [if_pos hk]
      have e6 : (fS5 G σ).err = 0 := by rw [e']; exact e5
      rw [← e']
      refine Sim.bnd (σ1 := fS6 G σ) (sim_trm conic_name e6 g5) s6 fun _ e7 => ?_
      refine Sim.bnd (σ1 := fS7 G σ) (sim_trm a4_name e7 g6) s7 fun _ e8 => ?_
      refine Sim.bnd (σ1 := fS8 G σ) (sim_trm a6_name e8 g7) s8 fun _ e9 => ?_
      refine Sim.bnd (sim_take 3 e9 g8) (.refl _) fun _ e10 => ?_
      exact sim_ok e10
theorem sim_stop {σ : RdS} (h : σ.err = 0) (hf : FineS σ) : Sim (stopK σ.ts) (stopS σ).1 (takeS 3 (stopS σ).2).2 σ := by
  have s2 : Stk (stopS σ).2 (takeS 3 (stopS σ).2).2 := stk_take 3 _
  have s1 : Stk (posS σ).2 (takeS 3 (stopS σ).2).2 := (stk_thk (posS σ).2).trans s2
  unfold stopK
  refine Sim.bnd (sim_pos h hf) s1 fun _ e1 => ?_
  refine Sim.bnd (sim_thk e1 hf.pos) s2 fun _ e2 => ?_
  refine Sim.bnd (sim_take 3 e2 hf.pos.thk) (.refl _) fun _ e3 => ?_
  exact sim_ok e3
theorem sim_line (G : List (List UInt8)) {n : Nat} (hn : n ≤ 12) {σ : RdS} (h : σ.err = 0) (hf : FineS σ) : Sim (lineK1 G n σ.ts) (lineS G n σ).1 (lineS G n σ).2 σ := by
  have s3 : Stk (lS2 G n σ) (takeS 3 (lS2 G n σ)).2 := stk_take 3 _
  have s2 : Stk (lS1 n σ) (takeS 3 (lS2 G n σ)).2 := (stk_body G _ (lS1 n σ)).trans s3
  have s1 : Stk (wordS [faceT, stopT] σ).2 (takeS 3 (lS2 G n σ)).2 := (stk_big _ _ _).trans s2
  have s0 : Stk (takeS 1 σ).2 (wordS [faceT, stopT] σ).2 := stk_if' ..
  have g1 : FineS (wordS [faceT, stopT] σ).2 := hf.word
  have g2 : FineS (lS1 n σ) := g1.big
  unfold lineK1
  refine Sim.bnd (sim_take 1 h hf) (s0.trans s1) fun _ e1 => ?_
  dsimp only
  by_cases hw : (takeS 1 σ).1.text ≠ faceT ∧ (takeS 1 σ).1.text ≠ stopT
  · rw [if_pos hw]
    refine Sim.stay (a := (lineS G n σ).1) (σ1 := (wordS [faceT, stopT] σ).2) ?_ s1
    have : (wordS [faceT, stopT] σ).2 = failS 2 (takeS 1 σ).1.line (takeS 1 σ).1.col (takeS 1 σ).2 := by
      unfold wordS
      dsimp only
      rw [if_neg (by simpa using hw)]
    rw [this]
    exact sim_fail e1 (by decide)
  · rw [if_neg hw]
    have e : (wordS [faceT, stopT] σ).2 = (takeS 1 σ).2 := by
      unfold wordS
      dsimp only
      rw [if_pos (by
        simp only [List.mem_cons, List.not_mem_nil, or_false]
        by_cases hx : (takeS 1 σ).1.text = faceT
        · exact .inl hx
        · by_cases hy : (takeS 1 σ).1.text = stopT
          · exact .inr hy
          · exact absurd ⟨hx, hy⟩ hw)]
    by_cases h12 : 12 ≤ n
    · rw [if_pos h12]
      refine Sim.stay (a := (lineS G n σ).1) (σ1 := lS1 n σ) ?_ s2
      have : lS1 n σ = failS 3 (takeS 1 σ).1.line (takeS 1 σ).1.col (takeS 1 σ).2 := by
        unfold lS1 bigS
        rw [if_pos (show n = 12 by omega), e]
        rfl
      rw [this]
      exact sim_fail e1 (by decide)
    · rw [if_neg h12]
      have e2 : lS1 n σ = (takeS 1 σ).2 := by
        unfold lS1 bigS
        rw [if_neg (show ¬ n = 12 by omega), e]
      have e3 : (lS1 n σ).err = 0 := by rw [e2]; exact e1
      rw [← e2]
      by_cases hs : (takeS 1 σ).1.text = stopT
      · rw [if_neg (show ¬ (takeS 1 σ).1.text = faceT by rw [hs]; decide)]
        have key := sim_stop e3 g2
        have e4 : bodyS G (wordS [faceT, stopT] σ).1 (lS1 n σ) = stopS (lS1 n σ) := by
          unfold bodyS
          rw [if_pos (show (wordS [faceT, stopT] σ).1.text = stopT from hs)]
        unfold lineS lS2
        rw [e4]
        exact key
      · have hx : (takeS 1 σ).1.text = faceT := by
          refine Classical.byContradiction fun hx => hw ⟨hx, hs⟩
        rw [if_pos hx]
        have key := sim_face G e3 g2
        have e4 : bodyS G (wordS [faceT, stopT] σ).1 (lS1 n σ) = faceS G (lS1 n σ) := by
          unfold bodyS
          rw [if_neg (show ¬ (wordS [faceT, stopT] σ).1.text = stopT from hs)]
        unfold lineS lS2
        rw [e4]
        exact key
/-- One round of the loop over lines: what is left to be told. -/
theorem lines_step (G : List (List UInt8)) {n : Nat} {σ : RdS} {acc : List Fc} {R : Ex (List Fc)} (hn : acc.length ≤ 12) (h : σ.err = 0) (h0 : σ.ts ≠ []) (hf : Fine σ.ts) (hR : facesK G (n + 1) σ.ts acc = R) :
    (lineS G acc.length σ).2.err = 0 ∧ (lineS G acc.length σ).2.line = σ.line ∧ (lineS G acc.length σ).2.col = σ.col ∧ acc.length < 12 ∧ (lineS G acc.length σ).2.ts.length < σ.ts.length ∧ facesK G n (lineS G acc.length σ).2.ts (acc ++ [(lineS G acc.length σ).1]) = R ∨
      ∃ f, f.err ≠ 0 ∧ fl (lineS G acc.length σ).2 = f ∧ R = .error f := by
  have key := sim_line G hn h ⟨h0, hf⟩
  have e : facesK G (n + 1) σ.ts acc = bnd (lineK1 G acc.length σ.ts) fun p => facesK G n p.2 (acc ++ [p.1]) := by
    conv => lhs; unfold facesK
    rw [if_neg (by cases hts : σ.ts with
      | nil => exact absurd hts h0
      | cons => simp)]
  rw [e] at hR
  subst hR
  cases hx : lineK1 G acc.length σ.ts with
  | error f =>
    rw [hx] at key
    exact .inr ⟨f, key.1, key.2, rfl⟩
  | ok p =>
    rw [hx] at key
    obtain ⟨rfl, k2, k3, k4⟩ := key
    refine .inl ⟨k2, k3, k4, ?_, ?_, rfl⟩
    · refine Nat.lt_of_not_le fun h12 => ?_
      unfold lineK1 at hx
      cases ht : takeK 1 σ.ts with
      | error f => rw [ht] at hx; cases hx
      | ok q =>
        rw [ht] at hx
        have hx : (if q.1.text ≠ faceT ∧ q.1.text ≠ stopT then failAt q.1 2 else if 12 ≤ acc.length then failAt q.1 3 else if q.1.text = faceT then faceK G q.2 else stopK q.2) = .ok _ := hx
        by_cases hw : q.1.text ≠ faceT ∧ q.1.text ≠ stopT
        · rw [if_pos hw] at hx
          cases hx
        · rw [if_neg hw, if_pos h12] at hx
          cases hx
    · have c1 : Stk (takeS 1 σ).2 (lineS G acc.length σ).2 := (stk_if' ..).trans <| (stk_big _ _ _).trans <| (stk_body G _ (lS1 acc.length σ)).trans (stk_take _ (lS2 G acc.length σ))
      have c2 : (takeS 1 σ).2.err = 0 := by
        refine Classical.byContradiction fun hne => ?_
        have : (lineS G acc.length σ).2.err = (takeS 1 σ).2.err := congrArg Flt.err (c1.fl hne)
        omega
      have := c1.len
      have := take_less h0 c2 h
      omega
theorem lines_none (G : List (List UInt8)) {n : Nat} {acc : List Fc} : facesK G (n + 1) [] acc = .ok acc := rfl
/-- What stands ahead of the lines. -/
theorem sim_head (G : List (List UInt8)) {σ : RdS} (h : σ.err = 0) (hf : FineS σ) :
    (hS4 σ).err = 0 ∧ (hS4 σ).line = σ.line ∧ (hS4 σ).col = σ.col ∧
      readToks G σ.ts = bnd (facesK G ((hS4 σ).ts.length + 1) (hS4 σ).ts []) (fun l => if l.all Fc.stop = true then .error ⟨0, 0, 1⟩ else .ok ⟨(takeS 1 (hS1 σ)).1.text, (posS (hS2 σ)).1, l⟩) ∨
    ∃ f, f.err ≠ 0 ∧ fl (hS4 σ) = f ∧ readToks G σ.ts = .error f := by
  have s4 : Stk (hS3 σ) (hS4 σ) := stk_take 3 _
  have s3 : Stk (hS2 σ) (hS4 σ) := (stk_pos (hS2 σ)).trans s4
  have s2 : Stk (hS1 σ) (hS4 σ) := (stk_take 1 (hS1 σ)).trans s3
  have g1 : FineS (hS1 σ) := hf.word
  have g2 : FineS (hS2 σ) := g1.take (by decide)
  have g3 : FineS (hS3 σ) := g2.pos
  have key : Sim (bnd (takeK 1 σ.ts) fun h => if h.1.text ≠ lensT then failAt h.1 2 else bnd (takeK 1 h.2) fun m => bnd (posK m.2) fun b => bnd (takeK 3 b.2) fun z => .ok ((m.1.text, b.1), z.2)) ((takeS 1 (hS1 σ)).1.text, (posS (hS2 σ)).1) (hS4 σ) σ := by
    have s0 : Stk (takeS 1 σ).2 (hS1 σ) := stk_if' ..
    refine Sim.bnd (sim_take 1 h hf) (s0.trans s2) fun _ e1 => ?_
    dsimp only
    by_cases hw : (takeS 1 σ).1.text = lensT
    · rw [if_neg (by simpa using hw)]
      have e : hS1 σ = (takeS 1 σ).2 := by
        unfold hS1 wordS
        dsimp only
        rw [if_pos (by simpa using hw)]
      have e2 : (hS1 σ).err = 0 := by rw [e]; exact e1
      rw [← e]
      refine Sim.bnd (sim_take 1 e2 g1) s3 fun _ e3 => ?_
      refine Sim.bnd (sim_pos e3 g2) s4 fun _ e4 => ?_
      refine Sim.bnd (sim_take 3 e4 g3) (.refl _) fun _ e5 => ?_
      exact sim_ok e5
    · rw [if_pos hw]
      refine Sim.stay (a := ((takeS 1 (hS1 σ)).1.text, (posS (hS2 σ)).1)) (σ1 := hS1 σ) ?_ s2
      have : hS1 σ = failS 2 (takeS 1 σ).1.line (takeS 1 σ).1.col (takeS 1 σ).2 := by
        unfold hS1 wordS
        dsimp only
        rw [if_neg (by simpa using hw)]
      rw [this]
      exact sim_fail e1 (by decide)
  have e : readToks G σ.ts = bnd (bnd (takeK 1 σ.ts) fun h => if h.1.text ≠ lensT then failAt h.1 2 else bnd (takeK 1 h.2) fun m => bnd (posK m.2) fun b => bnd (takeK 3 b.2) fun z => .ok ((m.1.text, b.1), z.2)) fun p => bnd (facesK G (p.2.length + 1) p.2 []) fun l => if l.all Fc.stop = true then .error ⟨0, 0, 1⟩ else .ok ⟨p.1.1, p.1.2, l⟩ := by
    unfold readToks
    cases takeK 1 σ.ts with
    | error f => rfl
    | ok q =>
      dsimp only [bnd]
      split
      · rfl
      · cases takeK 1 q.2 with
        | error f => rfl
        | ok m =>
          dsimp only
          cases posK m.2 with
          | error f => rfl
          | ok b =>
            dsimp only
            cases takeK 3 b.2 <;> rfl
  rw [e]
  generalize (bnd (takeK 1 σ.ts) fun h => if h.1.text ≠ lensT then failAt h.1 2 else bnd (takeK 1 h.2) fun m => bnd (posK m.2) fun b => bnd (takeK 3 b.2) fun z => Except.ok ((m.1.text, b.1), z.2)) = x at key ⊢
  cases x with
  | error f => exact .inr ⟨f, key.1, key.2, rfl⟩
  | ok p =>
    obtain ⟨rfl, k2, k3, k4⟩ := key
    exact .inl ⟨k2, k3, k4, rfl⟩
theorem num_len {k : Nat} {σ : RdS} (h : FineS σ) : (takeS k σ).1.text.length ≤ 4000 := by
  obtain ⟨ts, L, C, e⟩ := σ
  obtain ⟨h1, h2⟩ := h
  cases ts with
  | nil => exact absurd rfl h1
  | cons t r =>
    unfold takeS
    dsimp only
    split
    · exact h2.len t (by simp)
    · simp [Z0T]
end Go.Proofs.YtekhhekkepijoaaGreatDoor

