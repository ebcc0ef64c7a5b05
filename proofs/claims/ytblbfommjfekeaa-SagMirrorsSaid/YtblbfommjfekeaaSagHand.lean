/-
  The faces of the systems that are handed in are mild: what is on the axis is nothing deep.
-/
import Derived.Test.YtblbfommjfekeaaSagMath
import Derived.Test.YtblbfommjfekeaaHandSys
namespace Go.Proofs.Ytblbfommjfekeaa
set_option linter.unusedVariables false

def smallB (x : Iv) : Bool := ivRight x && (decide (-1310720 ≤ x.lo) && decide (x.hi ≤ 1313720))
def tinyB (x : Iv) : Bool := ivRight x && (decide (-8192 ≤ x.lo) && decide (x.hi ≤ 8192))
theorem small_of {x : Iv} (h : smallB x = true) : Small x := by
  unfold smallB at h
  simp only [Bool.and_eq_true, decide_eq_true_eq] at h
  exact ⟨h.1, h.2.1, h.2.2⟩
theorem tiny_of {x : Iv} (h : tinyB x = true) : ivRight x = true ∧ -8192 ≤ x.lo ∧ x.hi ≤ 8192 := by
  unfold tinyB at h
  simp only [Bool.and_eq_true, decide_eq_true_eq] at h
  exact ⟨h.1, h.2.1, h.2.2⟩
theorem curve_all : ∀ k : Fin 900, (tinyB (curveP (decH (150 + k.val) 1)) && tinyB (curveP (decH (-150 - k.val) 1))) = true := by decide +kernel
theorem conic_all : ∀ k : Fin 30, smallB (ivAdd oneI (decIv (decH (k.val - 15) 1))) = true := by decide +kernel
theorem a4_all : ∀ k : Fin 400, smallB (decIv (decH (k.val - 200) 2)) = true := by decide +kernel
theorem a6_all : ∀ k : Fin 400, smallB (decIv (decH (k.val - 200) 1)) = true := by decide +kernel
theorem zero_small : Small (decIv D0) := small_of (by decide +kernel)
theorem one_small : Small (ivAdd oneI (decIv D0)) := small_of (by decide +kernel)
theorem zero_tiny : ivRight (curveP D0) = true ∧ -8192 ≤ (curveP D0).lo ∧ (curveP D0).hi ≤ 8192 := tiny_of (by decide +kernel)
theorem curve_hand (n : Int) : ivRight (curveP (handRadius n)) = true ∧ -8192 ≤ (curveP (handRadius n)).lo ∧ (curveP (handRadius n)).hi ≤ 8192 := by
  obtain ⟨h0, h1⟩ := mod_bd n (show (0 : Int) < 900 by omega)
  have h := curve_all ⟨(n % 900).toNat, by omega⟩
  dsimp only at h
  rw [show (((n % 900).toNat : Nat) : Int) = n % 900 by omega, Bool.and_eq_true] at h
  unfold handRadius
  split
  · split
    · exact tiny_of h.2
    · exact tiny_of h.1
  · exact zero_tiny
theorem hand_mild (G : List Gl) (l : List RawF) (most : Nat) (w p a : Iv) : ∀ f ∈ handFaces G l most, Mild (sfP G w f p a) := by
  intro f hf
  have key : ∀ f : Fc, (ivRight (curveP f.radius) = true ∧ -8192 ≤ (curveP f.radius).lo ∧ (curveP f.radius).hi ≤ 8192) → Small (ivAdd oneI (decIv f.conic)) → Small (decIv f.a4) → Small (decIv f.a6) → Mild (sfP G w f p a) := fun f h1 h2 h3 h4 => ⟨h1, h2, h3, h4⟩
  rcases handFaces_mem hf with rfl | ⟨i, r, rfl⟩
  · exact key _ (tiny_of (by decide +kernel)) one_small zero_small zero_small
  · unfold handF
    split
    · exact key _ zero_tiny one_small zero_small zero_small
    · refine key _ (curve_hand _) ?_ ?_ ?_
      · dsimp only
        split
        · obtain ⟨h0, h1⟩ := mod_bd (r.k.tdiv 6) (show (0 : Int) < 30 by omega)
          have h := conic_all ⟨(r.k.tdiv 6 % 30).toNat, by omega⟩
          dsimp only at h
          rw [show (((r.k.tdiv 6 % 30).toNat : Nat) : Int) = r.k.tdiv 6 % 30 by omega] at h
          exact small_of h
        · exact one_small
      · dsimp only
        split
        · obtain ⟨h0, h1⟩ := mod_bd (r.k.tdiv 6) (show (0 : Int) < 400 by omega)
          have h := a4_all ⟨(r.k.tdiv 6 % 400).toNat, by omega⟩
          dsimp only at h
          rw [show (((r.k.tdiv 6 % 400).toNat : Nat) : Int) = r.k.tdiv 6 % 400 by omega] at h
          exact small_of h
        · exact zero_small
      · dsimp only
        split
        · obtain ⟨h0, h1⟩ := mod_bd (r.k.tdiv 12) (show (0 : Int) < 400 by omega)
          have h := a6_all ⟨(r.k.tdiv 12 % 400).toNat, by omega⟩
          dsimp only at h
          rw [show (((r.k.tdiv 12 % 400).toNat : Nat) : Int) = r.k.tdiv 12 % 400 by omega] at h
          exact small_of h
        · exact zero_small
theorem hsP_mild (back : Int) (l : List RawF) (raw : List Int) (most : Nat) : ∀ s ∈ (hsP back l raw most).rows, Mild s := by
  intro s hs
  obtain ⟨f, hf, p, a, rfl⟩ := hsP_face back l raw most s hs
  exact hand_mild _ l most _ _ _ f hf
end Go.Proofs.Ytblbfommjfekeaa

