/-
  A lens's reader as a state that goes on behind its first error: it comes to what is read token by token. Plain lists.
-/
import Derived.Test.YtggohceeeggnmaaGreatGj
import Derived.Test.YtggohceeeggnmaaGreatGg
import Derived.Test.YtggohceeeggnmaaGreatGd
namespace Go.Proofs.YtggohceeeggnmaaGreat
set_option linter.unusedVariables false
open Go.RowKit

/-! ### Tokens: a word alone begins with a letter -/
def Lead (t : Tk) : Prop := t.kind = 1 ∨ ∀ c w, t.text = c :: w → isLet c = false
/-- What is known of the tokens that are still to be taken. -/
structure Fine (ts : List Tk) : Prop where
  ends : unended ts = false
  len : ∀ t ∈ ts, t.text.length ≤ 4000
  lead : ∀ t ∈ ts, Lead t
theorem Fine.tail {t : Tk} {r : List Tk} (h : Fine (t :: r)) : Fine r := by
  refine ⟨?_, fun u hu => h.len u (by simp [hu]), fun u hu => h.lead u (by simp [hu])⟩
  have := unended_drop h.ends 1
  exact this
theorem Fine.more {t : Tk} {r : List Tk} (h : Fine (t :: r)) (hk : t.kind ≠ 3) : r ≠ [] := by
  rintro rfl
  have := h.ends
  simp [unended] at this
  exact hk this

/-! ### Decimals that are read are right -/
/-! ### The state -/
structure RdS where
  ts : List Tk
  line : Nat
  col : Nat
  err : Nat
def fl (σ : RdS) : Flt := ⟨σ.line, σ.col, σ.err⟩
def Z0T : Tk := ⟨0, [], 0, 0⟩
def failS (e l c : Nat) (σ : RdS) : RdS := if σ.err = 0 then ⟨σ.ts, l, c, e⟩ else σ
def takeS (k : Nat) (σ : RdS) : Tk × RdS :=
  match σ.ts with
  | [] => (Z0T, σ)
  | t :: r => if t.kind = k then (t, ⟨r, σ.line, σ.col, σ.err⟩) else (Z0T, failS 2 t.line t.col σ)
def wordS (ws : List (List UInt8)) (σ : RdS) : Tk × RdS := ((takeS 1 σ).1, if (takeS 1 σ).1.text ∈ ws then (takeS 1 σ).2 else failS 2 (takeS 1 σ).1.line (takeS 1 σ).1.col (takeS 1 σ).2)
def numS (σ : RdS) : Dec × Tk × RdS := ((readP (takeS 2 σ).1.text).1, (takeS 2 σ).1, (takeS 2 σ).2)
def posS (σ : RdS) : Dec × RdS := ((numS σ).1, if (numS σ).1.c ≤ 0 then failS 1 (numS σ).2.1.line (numS σ).2.1.col (numS σ).2.2 else (numS σ).2.2)
def thkS (σ : RdS) : Dec × RdS := ((numS σ).1, if (numS σ).1.c < 0 then failS 1 (numS σ).2.1.line (numS σ).2.1.col (numS σ).2.2 else (numS σ).2.2)
def glsS (G : List (List UInt8)) (σ : RdS) : List UInt8 × RdS := ((takeS 1 σ).1.text, if knownG G (takeS 1 σ).1.text = true then (takeS 1 σ).2 else failS 4 (takeS 1 σ).1.line (takeS 1 σ).1.col (takeS 1 σ).2)
def headX (σ : RdS) : List UInt8 := match σ.ts with | [] => [] | t :: _ => t.text
def trmS (w : List UInt8) (σ : RdS) : Dec × RdS :=
  if headX σ = w then ((numS (takeS 1 σ).2).1, if (numS (takeS 1 σ).2).1.c = 0 then failS 1 (numS (takeS 1 σ).2).2.1.line (numS (takeS 1 σ).2).2.1.col (numS (takeS 1 σ).2).2.2 else (numS (takeS 1 σ).2).2.2)
  else (D0, σ)
def lessD (a b : Dec) : Bool := decRight a && decRight b && decide (a.c * 10 ^ b.s.toNat < b.c * 10 ^ a.s.toNat)
def reachB (r a : Dec) : Bool := decide (r.c = 0) || !(lessD ⟨max r.c (-r.c), r.s⟩ a)
def rchS (r : Dec) (t : Tk) (a : Dec) (σ : RdS) : RdS := if reachB r a = true then σ else failS 1 t.line t.col σ
def fS1 (σ : RdS) : RdS := (numS σ).2.2
def fS2 (σ : RdS) : RdS := (posS (fS1 σ)).2
def fS3 (σ : RdS) : RdS := rchS (numS σ).1 (numS σ).2.1 (posS (fS1 σ)).1 (fS2 σ)
def fS4 (σ : RdS) : RdS := (thkS (fS3 σ)).2
def fS5 (G : List (List UInt8)) (σ : RdS) : RdS := (glsS G (fS4 σ)).2
def fS6 (G : List (List UInt8)) (σ : RdS) : RdS := (trmS conicT (fS5 G σ)).2
def fS7 (G : List (List UInt8)) (σ : RdS) : RdS := (trmS a4T (fS6 G σ)).2
def fS8 (G : List (List UInt8)) (σ : RdS) : RdS := (trmS a6T (fS7 G σ)).2
def faceS (G : List (List UInt8)) (σ : RdS) : Fc × RdS :=
  (⟨false, (numS σ).1, (posS (fS1 σ)).1, (thkS (fS3 σ)).1, (trmS conicT (fS5 G σ)).1, (trmS a4T (fS6 G σ)).1, (trmS a6T (fS7 G σ)).1, (glsS G (fS4 σ)).1⟩, fS8 G σ)
def stopS (σ : RdS) : Fc × RdS := (⟨true, D0, (posS σ).1, (thkS (posS σ).2).1, D0, D0, D0, []⟩, (thkS (posS σ).2).2)
def bodyS (G : List (List UInt8)) (t : Tk) (σ : RdS) : Fc × RdS := if t.text = stopT then stopS σ else faceS G σ
def hS1 (σ : RdS) : RdS := (wordS [lensT] σ).2
def hS2 (σ : RdS) : RdS := (takeS 1 (hS1 σ)).2
def hS3 (σ : RdS) : RdS := (posS (hS2 σ)).2
def hS4 (σ : RdS) : RdS := (takeS 3 (hS3 σ)).2
/-! ### An error that is told stays; tokens are taken alone -/
structure Stk (σ σ' : RdS) : Prop where
  fl : σ.err ≠ 0 → fl σ' = fl σ
  len : σ'.ts.length ≤ σ.ts.length
theorem Stk.refl (σ : RdS) : Stk σ σ := ⟨fun _ => rfl, Nat.le_refl _⟩
theorem Stk.trans {a b c : RdS} (h : Stk a b) (k : Stk b c) : Stk a c := by
  refine ⟨fun h0 => ?_, Nat.le_trans k.len h.len⟩
  have h1 := h.fl h0
  have h2 : b.err ≠ 0 := by
    have : b.err = a.err := congrArg Flt.err h1
    omega
  exact (k.fl h2).trans h1
theorem ts_fail (e l c : Nat) (σ : RdS) : (failS e l c σ).ts = σ.ts := by unfold failS; split <;> rfl
/-! ### There is always a token more -/
def FineS (σ : RdS) : Prop := σ.ts ≠ [] ∧ Fine σ.ts
theorem FineS.fail {e l c : Nat} {σ : RdS} (h : FineS σ) : FineS (failS e l c σ) := by unfold FineS; rw [ts_fail]; exact h
theorem FineS.ite {p : Prop} [Decidable p] {a b : RdS} (h : FineS a) (k : FineS b) : FineS (if p then a else b) := by split <;> assumption
theorem FineS.take {k : Nat} (hk : k ≠ 3) {σ : RdS} (h : FineS σ) : FineS (takeS k σ).2 := by
  obtain ⟨ts, L, C, e⟩ := σ
  obtain ⟨h1, h2⟩ := h
  cases ts with
  | nil => exact absurd rfl h1
  | cons t r =>
    unfold takeS
    dsimp only
    split
    · rename_i h3
      exact ⟨h2.more (fun h4 => hk (h3.symm.trans h4)), h2.tail⟩
    · exact FineS.fail ⟨h1, h2⟩
theorem FineS.word {ws : List (List UInt8)} {σ : RdS} (h : FineS σ) : FineS (wordS ws σ).2 := FineS.ite (h.take (by decide)) (h.take (by decide)).fail
theorem FineS.num {σ : RdS} (h : FineS σ) : FineS (numS σ).2.2 := h.take (by decide)
theorem FineS.pos {σ : RdS} (h : FineS σ) : FineS (posS σ).2 := FineS.ite h.num.fail h.num
theorem FineS.thk {σ : RdS} (h : FineS σ) : FineS (thkS σ).2 := FineS.ite h.num.fail h.num
theorem FineS.gls {G : List (List UInt8)} {σ : RdS} (h : FineS σ) : FineS (glsS G σ).2 := FineS.ite (h.take (by decide)) (h.take (by decide)).fail
theorem FineS.trm {w : List UInt8} {σ : RdS} (h : FineS σ) : FineS (trmS w σ).2 := by
  unfold trmS
  split
  · exact FineS.ite (h.take (by decide)).num.fail (h.take (by decide)).num
  · exact h
theorem FineS.rch {r : Dec} {t : Tk} {a : Dec} {σ : RdS} (h : FineS σ) : FineS (rchS r t a σ) := FineS.ite h h.fail
theorem FineS.face {G : List (List UInt8)} {σ : RdS} (h : FineS σ) : FineS (faceS G σ).2 := show FineS (fS8 G σ) from h.num.pos.rch.thk.gls.trm.trm.trm
theorem FineS.stop {σ : RdS} (h : FineS σ) : FineS (stopS σ).2 := h.pos.thk
theorem FineS.body {G : List (List UInt8)} {t : Tk} {σ : RdS} (h : FineS σ) : FineS (bodyS G t σ).2 := by
  unfold bodyS
  split
  · exact h.stop
  · exact h.face
/-! ### It comes to the same -/
end Go.Proofs.YtggohceeeggnmaaGreat

