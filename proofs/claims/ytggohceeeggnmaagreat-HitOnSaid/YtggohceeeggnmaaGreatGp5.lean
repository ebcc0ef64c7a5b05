/-
  The faces of the systems that are handed in are mild: what is on the axis is nothing deep.
  A ray that is turned by quarters, or mirrored; a face and a ray that are moved along the axis.
  An array of six numbers among a statement's parameters: opened, and shut.
  A raw ray (a struct of six numbers) among a statement's parameters: opened, and shut.
-/
import Derived.Test.YtggohceeeggnmaaGreatSagMath
import Derived.Test.YtggohceeeggnmaaGreatHandSys
import Derived.Test.YtggohceeeggnmaaGreatHitMath
import Derived.Test.YtggohceeeggnmaaGreatGq5
import Derived.Test.YtggohceeeggnmaaGreatGa
import Derived.OpenShut
import Derived.Test.YtggohceeeggnmaaGreatGl

namespace Go.Proofs.YtggohceeeggnmaaGreat
set_option linter.unusedVariables false

def smallB (x : Iv) : Bool := ivRight x && (decide (-1310720 ≤ x.lo) && decide (x.hi ≤ 1313720))
def tinyB (x : Iv) : Bool := ivRight x && (decide (-8192 ≤ x.lo) && decide (x.hi ≤ 8192))
theorem small_of {x : Iv} (h : smallB x = true) : Small x := by
  unfold smallB at h
  simp only [Bool.and_eq_true, decide_eq_true_eq] at h
  exact ⟨h.1, h.2.1, h.2.2⟩
theorem tiny_of {x : Iv} (h : tinyB x = true) : ivRight x = true ∧ -8192 ≤ x.lo ∧ x.hi ≤ 8192 := by
  unfold tinyB at h
  simp only [Bool.and_eq_true, decide_eq_true_eq] at h
  exact ⟨h.1, h.2.1, h.2.2⟩
theorem curve_all : ∀ k : Fin 900, (tinyB (curveP (decH (150 + k.val) 1)) && tinyB (curveP (decH (-150 - k.val) 1))) = true := by decide +kernel
theorem conic_all : ∀ k : Fin 30, smallB (ivAdd oneI (decIv (decH (k.val - 15) 1))) = true := by decide +kernel
theorem a4_all : ∀ k : Fin 400, smallB (decIv (decH (k.val - 200) 2)) = true := by decide +kernel
theorem a6_all : ∀ k : Fin 400, smallB (decIv (decH (k.val - 200) 1)) = true := by decide +kernel
theorem zero_small : Small (decIv D0) := small_of (by decide +kernel)
theorem one_small : Small (ivAdd oneI (decIv D0)) := small_of (by decide +kernel)
theorem zero_tiny : ivRight (curveP D0) = true ∧ -8192 ≤ (curveP D0).lo ∧ (curveP D0).hi ≤ 8192 := tiny_of (by decide +kernel)
theorem curve_hand (n : Int) : ivRight (curveP (handRadius n)) = true ∧ -8192 ≤ (curveP (handRadius n)).lo ∧ (curveP (handRadius n)).hi ≤ 8192 := by
  obtain ⟨h0, h1⟩ := mod_bd n (show (0 : Int) < 900 by omega)
  have h := curve_all ⟨(n % 900).toNat, by omega⟩
  dsimp only at h
  rw [show (((n % 900).toNat : Nat) : Int) = n % 900 by omega, Bool.and_eq_true] at h
  unfold handRadius
  split
  · split
    · exact tiny_of h.2
    · exact tiny_of h.1
  · exact zero_tiny
theorem hand_mild (G : List Gl) (l : List RawF) (most : Nat) (w p a : Iv) : ∀ f ∈ handFaces G l most, Mild (sfP G w f p a) := by
  intro f hf
  have key : ∀ f : Fc, (ivRight (curveP f.radius) = true ∧ -8192 ≤ (curveP f.radius).lo ∧ (curveP f.radius).hi ≤ 8192) → Small (ivAdd oneI (decIv f.conic)) → Small (decIv f.a4) → Small (decIv f.a6) → Mild (sfP G w f p a) := fun f h1 h2 h3 h4 => ⟨h1, h2, h3, h4⟩
  rcases handFaces_mem hf with rfl | ⟨i, r, rfl⟩
  · exact key _ (tiny_of (by decide +kernel)) one_small zero_small zero_small
  · unfold handF
    split
    · exact key _ zero_tiny one_small zero_small zero_small
    · refine key _ (curve_hand _) ?_ ?_ ?_
      · dsimp only
        split
        · obtain ⟨h0, h1⟩ := mod_bd (r.k.tdiv 6) (show (0 : Int) < 30 by omega)
          have h := conic_all ⟨(r.k.tdiv 6 % 30).toNat, by omega⟩
          dsimp only at h
          rw [show (((r.k.tdiv 6 % 30).toNat : Nat) : Int) = r.k.tdiv 6 % 30 by omega] at h
          exact small_of h
        · exact one_small
      · dsimp only
        split
        · obtain ⟨h0, h1⟩ := mod_bd (r.k.tdiv 6) (show (0 : Int) < 400 by omega)
          have h := a4_all ⟨(r.k.tdiv 6 % 400).toNat, by omega⟩
          dsimp only at h
          rw [show (((r.k.tdiv 6 % 400).toNat : Nat) : Int) = r.k.tdiv 6 % 400 by omega] at h
          exact small_of h
        · exact zero_small
      · dsimp only
        split
        · obtain ⟨h0, h1⟩ := mod_bd (r.k.tdiv 12) (show (0 : Int) < 400 by omega)
          have h := a6_all ⟨(r.k.tdiv 12 % 400).toNat, by omega⟩
          dsimp only at h
          rw [show (((r.k.tdiv 12 % 400).toNat : Nat) : Int) = r.k.tdiv 12 % 400 by omega] at h
          exact small_of h
        · exact zero_small
theorem hsP_mild (back : Int) (l : List RawF) (raw : List Int) (most : Nat) : ∀ s ∈ (hsP back l raw most).rows, Mild s := by
  intro s hs
  obtain ⟨f, hf, p, a, rfl⟩ := hsP_face back l raw most s hs
  exact hand_mild _ l most _ _ _ f hf
end Go.Proofs.YtggohceeeggnmaaGreat

namespace Go.Proofs.YtggohceeeggnmaaGreat
set_option linter.unusedVariables false

/-! ### Moved along the axis -/
def placeOk (x : Iv) : Bool := ivRight x && (decide (0 ≤ x.lo) && decide (x.hi ≤ 6553600))
def thickOk (x : Iv) : Bool := ivRight x && (decide (0 ≤ x.lo) && decide (x.hi ≤ 655360))
theorem back_all : ∀ k : Fin 600, placeOk (decIv (decH (200 + k.val) 1)) = true := by decide +kernel
theorem thick_all : ∀ k : Fin 80, thickOk (decIv (decH k.val 1)) = true := by decide +kernel
theorem place_of {x : Iv} (h : placeOk x = true) : ivRight x = true ∧ 0 ≤ x.lo ∧ x.hi ≤ 6553600 := by
  unfold placeOk at h
  simp only [Bool.and_eq_true, decide_eq_true_eq] at h
  exact ⟨h.1, h.2.1, h.2.2⟩
theorem thick_of {x : Iv} (h : thickOk x = true) : ivRight x = true ∧ 0 ≤ x.lo ∧ x.hi ≤ 655360 := by
  unfold thickOk at h
  simp only [Bool.and_eq_true, decide_eq_true_eq] at h
  exact ⟨h.1, h.2.1, h.2.2⟩
theorem thick_hand {G : List Gl} {l : List RawF} {most : Nat} : ∀ f ∈ handFaces G l most, ivRight (decIv f.thick) = true ∧ 0 ≤ (decIv f.thick).lo ∧ (decIv f.thick).hi ≤ 655360 := by
  intro f hf
  rcases handFaces_mem hf with rfl | ⟨i, r, rfl⟩
  · exact thick_of (by decide +kernel)
  · have h := thick_all ⟨(r.t % 80).toNat, by omega⟩
    dsimp only at h
    rw [show (((r.t % 80).toNat : Nat) : Int) = r.t % 80 by omega] at h
    unfold handF
    split <;> exact thick_of h
theorem places (G : List Gl) (w : Iv) (back : Dec) {l : List Fc} (hb : ivRight (decIv back) = true ∧ 0 ≤ (decIv back).lo ∧ (decIv back).hi ≤ 6553600) (ht : ∀ f ∈ l, ivRight (decIv f.thick) = true ∧ 0 ≤ (decIv f.thick).lo ∧ (decIv f.thick).hi ≤ 655360) :
    ∀ k, k ≤ l.length → k ≤ 12 → ivRight (stP G w back (l.take k)).place = true ∧ 0 ≤ (stP G w back (l.take k)).place.lo ∧ (stP G w back (l.take k)).place.hi ≤ 6553600 + k * 655360
  | 0, _, _ => ⟨hb.1, hb.2.1, by have := hb.2.2; show (decIv back).hi ≤ _; omega⟩
  | k + 1, hk, h12 => by
    obtain ⟨f, hf⟩ : ∃ f, l[k]? = some f := ⟨_, List.getElem?_eq_getElem (by omega)⟩
    obtain ⟨h1, h2, h3⟩ := places G w back hb ht k (by omega) (by omega)
    obtain ⟨t1, t2, t3⟩ := ht f (List.mem_of_getElem? hf)
    rw [stP_take G w back hf]
    unfold stepP
    dsimp only
    obtain ⟨-, -, b1⟩ := right_bd h1
    obtain ⟨-, -, b2⟩ := right_bd t1
    have e : ivAdd (stP G w back (l.take k)).place (decIv f.thick) = ⟨(stP G w back (l.take k)).place.lo + (decIv f.thick).lo, (stP G w back (l.take k)).place.hi + (decIv f.thick).hi, false⟩ := by
      unfold ivAdd
      rw [both_iff.2 ⟨h1, t1⟩, if_pos rfl]
      exact of_yes (by omega)
    rw [e]
    refine ⟨right_of.2 (by omega), ?_, ?_⟩
    · dsimp only; omega
    · dsimp only; omega
theorem hsP_place (back : Int) (l : List RawF) (raw : List Int) {most : Nat} (hm : most ≤ 12) : ∀ s ∈ (hsP back l raw most).rows, ivRight s.place = true ∧ 0 ≤ s.place.lo ∧ s.place.hi ≤ 20000000 := by
  intro s hs
  unfold hsP bq at hs
  rw [if_pos rfl] at hs
  split at hs
  · obtain ⟨k, hk⟩ := List.getElem?_of_mem hs
    have hlt := (List.getElem?_eq_some_iff.1 hk).1
    have hlen : (stP (glassesG raw) (lineP (back % 3)) (handLn back l (glassesG raw) most).back (handFaces (glassesG raw) l most)).rows.length = (handFaces (glassesG raw) l most).length := stP_len _ _ _ _
    have hlt' : k < (handFaces (glassesG raw) l most).length := by rw [← hlen]; exact hlt
    have h12 := (handFaces_len (glassesG raw) l hm).1
    obtain ⟨f, hf⟩ : ∃ f, (handFaces (glassesG raw) l most)[k]? = some f := ⟨_, List.getElem?_eq_getElem hlt'⟩
    have h2 := rows_at (glassesG raw) (lineP (back % 3)) (handLn back l (glassesG raw) most).back hf
    have h3 := Option.some.inj (hk.symm.trans h2)
    have hb := back_all ⟨(back % 600).toNat, by omega⟩
    dsimp only at hb
    rw [show (((back % 600).toNat : Nat) : Int) = back % 600 by omega] at hb
    have hlt3 := hlt'
    have h4 := places (glassesG raw) (lineP (back % 3)) (handLn back l (glassesG raw) most).back (place_of hb) thick_hand k (Nat.le_of_lt hlt3) (Nat.le_trans (Nat.le_of_lt hlt3) h12)
    rw [h3]
    show ivRight (stP _ _ _ _).place = true ∧ 0 ≤ (stP _ _ _ _).place.lo ∧ (stP _ _ _ _).place.hi ≤ 20000000
    exact ⟨h4.1, h4.2.1, by have := h4.2.2; have := Nat.lt_of_lt_of_le hlt3 h12; omega⟩
  · cases hs
end Go.Proofs.YtggohceeeggnmaaGreat

namespace Go.Proofs.YtggohceeeggnmaaGreat
set_option linter.unusedVariables false
open Go.ChangeShapes Go.WideShapes Go.ChangeAt Go.RowKit

section
variable {H : Type} {enc : TypeId × Value → H} {P : Program} {w : World} {base : Nat} {spare : Nat → Bool} {held : Bool} {r : Reach} {b0 : Nat} {t e : TypeId} {v : Value} {d : DataW H} {ps : List MemPlace}

theorem wf_in64 {n : Int} (h : In64 n) : (Lit.int .i64 n).wf = true := by
  simp [Lit.wf, IntKind.min, IntKind.max, IntKind.signed, IntKind.bits]
  have := h.1
  have := h.2
  omega

end

end Go.Proofs.YtggohceeeggnmaaGreat

namespace Go.Proofs.YtggohceeeggnmaaGreat
set_option linter.unusedVariables false
open Go.ChangeShapes Go.WideShapes Go.ChangeAt Go.RowKit

section
variable {H : Type} {enc : TypeId × Value → H} {P : Program} {w : World} {base : Nat} {spare : Nat → Bool} {held : Bool} {r : Reach} {b0 : Nat} {t e : TypeId} {fs : Array Field} {v : Value} {d : DataW H} {ps : List MemPlace}

theorem open_ray (ht : P.underlying t = some (.struct fs)) (he : P.underlying e = some (.int .i64)) (hc : P.cellsOf e = 1) (hC : P.cellsOf t = 6)
    (hfs : ∀ i, i < 6 → ∃ f, fs[i]? = some f ∧ f.type = e ∧ f.offset = i) (hsz : fs.size = 6) (hval : Value.okWide P w r b0 t v) (hd : DataW.Trod enc P w base spare held t v d ps) :
    ∃ s : Six, OkSix s ∧ v = sixV s ∧ d = .agg [.lit (.int .i64 s.a), .lit (.int .i64 s.b), .lit (.int .i64 s.c), .lit (.int .i64 s.d), .lit (.int .i64 s.e), .lit (.int .i64 s.f)] ∧ ps = [] := by
  obtain ⟨cs, rfl, hsz'⟩ : ∃ cs : Array Value, v = .agg cs ∧ cs.size = 6 := by
    simp only [Value.okWide, ht] at hval
    obtain ⟨cs, h1, h2, _⟩ := hval
    exact ⟨cs, h1, by rw [h2, hC]⟩
  obtain ⟨fuel, hf⟩ := hd
  obtain ⟨xs, m, rfl, hx, hl, hlen, hf⟩ := DataW.trod_struct ht hf
  have one : ∀ i, i < 6 → DataW.trod enc P w base spare held m e ((cs.toList.drop i).take 1) = xs[i]? := by
    intro i hi
    obtain ⟨f, h1, h2, h3⟩ := hfs i hi
    have h4 := hf i f h1
    rw [h2, h3, hc] at h4
    exact h4
  rw [hsz] at hlen
  obtain ⟨l⟩ := cs
  match l, hsz', xs, hlen with
  | [c0, c1, c2, c3, c4, c5], _, [y0, y1, y2, y3, y4, y5], _ =>
    have h0 := one 0 (by omega)
    have h1 := one 1 (by omega)
    have h2 := one 2 (by omega)
    have h3 := one 3 (by omega)
    have h4 := one 4 (by omega)
    have h5 := one 5 (by omega)
    simp at h0 h1 h2 h3 h4 h5
    obtain ⟨n0, e0, rfl, w0⟩ := DataW.trod_int he h0
    obtain ⟨n1, e1, rfl, w1⟩ := DataW.trod_int he h1
    obtain ⟨n2, e2, rfl, w2⟩ := DataW.trod_int he h2
    obtain ⟨n3, e3, rfl, w3⟩ := DataW.trod_int he h3
    obtain ⟨n4, e4, rfl, w4⟩ := DataW.trod_int he h4
    obtain ⟨n5, e5, rfl, w5⟩ := DataW.trod_int he h5
    simp at e0 e1 e2 e3 e4 e5
    subst e0 e1 e2 e3 e4 e5
    simp only [Prod.mk.injEq] at hx
    exact ⟨⟨n0, n1, n2, n3, n4, n5⟩, ⟨bounds_i64 w0, bounds_i64 w1, bounds_i64 w2, bounds_i64 w3, bounds_i64 w4, bounds_i64 w5⟩, rfl, by rw [hx.1]; rfl, by rw [hx.2]; rfl⟩

theorem shut_ray (ht : P.underlying t = some (.struct fs)) (he : P.underlying e = some (.int .i64)) (hc : P.cellsOf e = 1) (hC : P.cellsOf t = 6)
    (hfs : ∀ i, i < 6 → ∃ f, fs[i]? = some f ∧ f.type = e ∧ f.offset = i) (hsz : fs.size = 6) {s : Six} (h : OkSix s) :
    DataW.Trod enc P w base spare held t (sixV s) (.agg [.lit (.int .i64 s.a), .lit (.int .i64 s.b), .lit (.int .i64 s.c), .lit (.int .i64 s.d), .lit (.int .i64 s.e), .lit (.int .i64 s.f)]) [] := by
  obtain ⟨h0, h1, h2, h3, h4, h5⟩ := h
  obtain ⟨l⟩ := fs
  match l, hsz with
  | [f0, f1, f2, f3, f4, f5], _ =>
    obtain ⟨g0, z0, t0, o0⟩ := hfs 0 (by omega)
    obtain ⟨g1, z1, t1, o1⟩ := hfs 1 (by omega)
    obtain ⟨g2, z2, t2, o2⟩ := hfs 2 (by omega)
    obtain ⟨g3, z3, t3, o3⟩ := hfs 3 (by omega)
    obtain ⟨g4, z4, t4, o4⟩ := hfs 4 (by omega)
    obtain ⟨g5, z5, t5, o5⟩ := hfs 5 (by omega)
    simp at z0 z1 z2 z3 z4 z5
    subst z0 z1 z2 z3 z4 z5
    have one : ∀ n : Int, In64 n → DataW.trod enc P w base spare held 1 e [.int .i64 n] = some (.lit (.int .i64 n), []) := fun n hn => trod_int_mk 0 he (wf_in64 hn)
    have one0 := one _ h0
    have one1 := one _ h1
    have one2 := one _ h2
    have one3 := one _ h3
    have one4 := one _ h4
    have one5 := one _ h5
    refine ⟨2, trod_struct_mk (xs := [(.lit (.int .i64 s.a), []), (.lit (.int .i64 s.b), []), (.lit (.int .i64 s.c), []), (.lit (.int .i64 s.d), []), (.lit (.int .i64 s.e), []), (.lit (.int .i64 s.f), [])]) ht (by rw [hC]; rfl) ?_⟩
    simp [t0, t1, t2, t3, t4, t5, o0, o1, o2, o3, o4, o5, hc, Value.cells, one0, one1, one2, one3, one4, one5]
end
end Go.Proofs.YtggohceeeggnmaaGreat
