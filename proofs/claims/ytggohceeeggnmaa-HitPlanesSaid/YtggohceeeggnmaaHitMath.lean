/-
  Where a ray meets a face, in plain numbers.
-/
import Derived.Test.YtggohceeeggnmaaGy5
import Derived.Test.YtggohceeeggnmaaVec
import Derived.Test.YtggohceeeggnmaaGq5
import Derived.Test.YtggohceeeggnmaaGb
namespace Go.Proofs.Ytggohceeeggnmaa
set_option linter.unusedVariables false

def nonePl : Pl := ⟨ivNone, ivNone, ivNone⟩
/-- A ray from the face's vertex on. -/
def hitR (s : Sf) (r : Wy) : Wy := ⟨⟨r.o.x, r.o.y, ivSub r.o.z s.place⟩, r.d⟩
def hitV (s : Sf) (x y z : Iv) : Iv := ivMul s.curve (ivAdd (ivAdd x y) (ivMul s.conic z))
def hitA (s : Sf) (r : Wy) : Iv := hitV s (ivSqr r.d.x) (ivSqr r.d.y) (ivSqr r.d.z)
def hitB (s : Sf) (r : Wy) : Iv := ivSub (hitV s (ivMul r.o.x r.d.x) (ivMul r.o.y r.d.y) (ivMul r.o.z r.d.z)) r.d.z
def hitC (s : Sf) (r : Wy) : Iv := ivSub (hitV s (ivSqr r.o.x) (ivSqr r.o.y) (ivSqr r.o.z)) (ivTimes r.o.z 2)
def hitT0 (s : Sf) (r : Wy) : Iv := qNear (hitA s r) (hitB s r) (hitC s r)
def hitI0 (s : Sf) (r : Wy) : Int := qIs (hitA s r) (hitB s r) (hitC s r)
def hitR2 (p : Pl) : Iv := ivAdd (ivSqr p.x) (ivSqr p.y)
def hitAc (r : Wy) (p : Pl) : Iv := ivAdd (ivMul p.x r.d.x) (ivMul p.y r.d.y)
/-- How far beyond the face the ray is, and the slope of that. -/
def hitF (s : Sf) (r : Wy) : Enc := fun t => (ivSub (plAlong r t).z (sagZ s (hitR2 (plAlong r t))), ivSub r.d.z (ivMul (sagM s (hitR2 (plAlong r t))) (ivTimes (hitAc r (plAlong r t)) 2)))
def hitW (t : Iv) : Iv := ivOf (t.lo - 65536) (t.hi + 65536)
def hitN (F : Enc) (t : Iv) : Iv × Int := ((nSolve F (hitW t) 20).1, if (nSolve F (hitW t) 20).2 = 2 then 0 else (nSolve F (hitW t) 20).2)
/-- The face is met there (its vertex where the ray is told from). -/
def hitS (s : Sf) (r : Wy) : Iv × Int := if s.bent = true ∧ hitI0 s r = 1 then hitN (hitF s r) (hitT0 s r) else (hitT0 s r, hitI0 s r)
def hitEnd (r : Wy) (t : Iv) (i : Int) : Iv × Pl × Int := if i = 1 then (if plRight (plAlong r t) = true then (t, plAlong r t, 1) else (ivNone, nonePl, 0)) else (ivNone, nonePl, i)
def hitP (s : Sf) (r : Wy) : Iv × Pl × Int := hitEnd (hitR s r) (hitS s (hitR s r)).1 (hitS s (hitR s r)).2

theorem loop_cases (F : Enc) : ∀ (k : Nat) (y : Bool) (t : Iv), ivRight t = true → ((nLoop F k y t).2 = 1 ∧ ivRight (nLoop F k y t).1 = true) ∨ ((nLoop F k y t).2 = 2 ∧ (nLoop F k y t).1 = ivNone) ∨ ((nLoop F k y t).2 = 0 ∧ (nLoop F k y t).1 = ivNone)
  | 0, y, t, ht => by
    unfold nLoop nEnd
    cases y
    · exact .inr (.inr ⟨rfl, rfl⟩)
    · exact .inl ⟨rfl, ht⟩
  | k + 1, y, t, ht => by
    unfold nLoop
    split
    · split
      · split
        · unfold nEnd
          split
          · exact .inl ⟨rfl, ht⟩
          · exact .inr (.inr ⟨rfl, rfl⟩)
        · exact loop_cases F k _ _ (by assumption)
      · exact .inr (.inl ⟨rfl, rfl⟩)
    · split
      · exact loop_cases F k _ _ (by assumption)
      · exact .inr (.inr ⟨rfl, rfl⟩)
theorem solve_cases (F : Enc) (t : Iv) (most : Int) : ((nSolve F t most).2 = 1 ∧ ivRight (nSolve F t most).1 = true) ∨ ((nSolve F t most).2 = 2 ∧ (nSolve F t most).1 = ivNone) ∨ ((nSolve F t most).2 = 0 ∧ (nSolve F t most).1 = ivNone) := by
  unfold nSolve
  split
  · exact loop_cases F _ _ _ (by assumption)
  · exact .inr (.inr ⟨rfl, rfl⟩)
theorem near_cases (a b c : Iv) : (qIs a b c = 1 ∧ ivRight (qNear a b c) = true) ∨ (qIs a b c = 2 ∧ qNear a b c = ivNone) ∨ (qIs a b c = 0 ∧ qNear a b c = ivNone) := by
  rcases quad_cases a b c with ⟨h1, h2, h3, -, -⟩ | ⟨h1, h2, -, -⟩ | h
  · exact .inl ⟨h1, by rw [h2]; exact h3⟩
  · exact .inr (.inl ⟨h1, h2⟩)
  · exact .inr (.inr h)
theorem hitN_cases (F : Enc) (t : Iv) : ((hitN F t).2 = 1 ∧ ivRight (hitN F t).1 = true) ∨ ((hitN F t).2 = 0 ∧ (hitN F t).1 = ivNone) := by
  unfold hitN
  rcases solve_cases F (hitW t) 20 with ⟨h1, h2⟩ | ⟨h1, h2⟩ | ⟨h1, h2⟩
  · rw [h1]; exact .inl ⟨rfl, h2⟩
  · rw [h1]; exact .inr ⟨rfl, h2⟩
  · rw [h1]; exact .inr ⟨rfl, h2⟩
/-- What is told where a face is met: three ways, or not at all. -/
theorem hitS_cases (s : Sf) (r : Wy) : ((hitS s r).2 = 1 ∧ ivRight (hitS s r).1 = true) ∨ ((hitS s r).2 = 2 ∧ (hitS s r).1 = ivNone) ∨ ((hitS s r).2 = 0 ∧ (hitS s r).1 = ivNone) := by
  unfold hitS
  split
  · rcases hitN_cases (hitF s r) (hitT0 s r) with h | h
    · exact .inl h
    · exact .inr (.inr h)
  · exact near_cases _ _ _
theorem hitEnd_yes {r : Wy} {t : Iv} (h : plRight (plAlong r t) = true) : hitEnd r t 1 = (t, plAlong r t, 1) := by
  unfold hitEnd; rw [if_pos rfl, if_pos h]
theorem hitEnd_un {r : Wy} {t : Iv} (h : plRight (plAlong r t) = false) : hitEnd r t 1 = (ivNone, nonePl, 0) := by
  unfold hitEnd; rw [if_pos rfl, h]; rfl
theorem hitEnd_no {r : Wy} {t : Iv} {i : Int} (h : ¬ i = 1) : hitEnd r t i = (ivNone, nonePl, i) := by
  unfold hitEnd; rw [if_neg h]
theorem hitS_flat {s : Sf} {r : Wy} (h : s.bent = false) : hitS s r = (hitT0 s r, hitI0 s r) := by unfold hitS; rw [h]; simp
theorem hitS_off {s : Sf} {r : Wy} (h : ¬ hitI0 s r = 1) : hitS s r = (hitT0 s r, hitI0 s r) := by unfold hitS; rw [if_neg (fun e => h e.2)]
theorem hitS_bent {s : Sf} {r : Wy} (h : s.bent = true) (k : hitI0 s r = 1) : hitS s r = hitN (hitF s r) (hitT0 s r) := by unfold hitS; rw [if_pos ⟨h, k⟩]
end Go.Proofs.Ytggohceeeggnmaa

