/-
  A lens in one light: plain lists.
-/
import Derived.Test.YtekhhekkepijoaaGreatDoorGj
import Derived.Test.YtekhhekkepijoaaGreatDoorGg
import Derived.Test.YtekhhekkepijoaaGreatDoorGlass

namespace Go.Proofs.YtekhhekkepijoaaGreatDoor
set_option linter.unusedVariables false
open Go.RowKit

structure Sf where
  stop : Bool
  bent : Bool
  curve : Iv
  conic : Iv
  a4 : Iv
  a6 : Iv
  place : Iv
  open2 : Iv
  ratio : Iv
def oneI : Iv := ivPoint 65536
def faceIx (G : List Gl) (w : Iv) (t : List UInt8) : Iv := if t = airT then oneI else ixG (findG t G) w
def curveP (d : Dec) : Iv := if d.c = 0 then ivPoint 0 else ivDiv oneI (decIv d)
def bentP (f : Fc) : Bool := !isZ f.a4 || !isZ f.a6
/-- As if there were the same ahead of it and behind it. -/
def sfBase (f : Fc) (p : Iv) : Sf := ⟨f.stop, bentP f, curveP f.radius, ivAdd oneI (decIv f.conic), decIv f.a4, decIv f.a6, p, ivSqr (decIv f.aperture), oneI⟩
def ratioP (G : List Gl) (w : Iv) (f : Fc) (ahead : Iv) : Iv := if f.stop = true then oneI else ivDiv ahead (faceIx G w f.glass)
def sfP (G : List Gl) (w : Iv) (f : Fc) (p ahead : Iv) : Sf := { sfBase f p with ratio := ratioP G w f ahead }
structure St where
  place : Iv
  ahead : Iv
  rows : List Sf
def stepP (G : List Gl) (w : Iv) (s : St) (f : Fc) : St := ⟨ivAdd s.place (decIv f.thick), if f.stop = true then s.ahead else faceIx G w f.glass, s.rows ++ [sfP G w f s.place s.ahead]⟩
def stP (G : List Gl) (w : Iv) (back : Dec) (l : List Fc) : St := l.foldl (stepP G w) ⟨decIv back, oneI, []⟩
theorem stP_snoc (G : List Gl) (w : Iv) (back : Dec) (l : List Fc) (f : Fc) : stP G w back (l ++ [f]) = stepP G w (stP G w back l) f := by
  unfold stP
  rw [List.foldl_append]
  rfl
theorem stP_take (G : List Gl) (w : Iv) (back : Dec) {l : List Fc} {k : Nat} {f : Fc} (h : l[k]? = some f) : stP G w back (l.take (k + 1)) = stepP G w (stP G w back (l.take k)) f := by
  rw [List.take_add_one, h]
  exact stP_snoc G w back _ f
theorem stP_len (G : List Gl) (w : Iv) (back : Dec) (l : List Fc) : (stP G w back l).rows.length = l.length := by
  have key : ∀ (l : List Fc) (s : St), (l.foldl (stepP G w) s).rows.length = s.rows.length + l.length := by
    intro l
    induction l with
    | nil => intro s; rfl
    | cons f r ih =>
      intro s
      rw [List.foldl_cons, ih]
      simp [stepP]
      omega
  have := key l ⟨decIv back, oneI, []⟩
  unfold stP
  simpa using this
def sfRight (s : Sf) : Bool := ivRight s.curve && ivRight s.conic && ivRight s.a4 && ivRight s.a6 && ivRight s.place && ivRight s.open2 && ivRight s.ratio
def rowsRight (l : List Sf) (o : Iv) : Bool := l.all sfRight && ivRight o
def zeroIv : Iv := ⟨0, 0, false⟩
structure Sy where
  rows : List Sf
  wide : Iv
def noSy : Sy := ⟨[], zeroIv⟩
def openP (x : Ln) : Iv := decIv (x.faces.headD ⟨false, D0, D0, D0, D0, D0, D0, []⟩).aperture
def allSy (x : Ln) (G : List Gl) (w : Iv) : Sy := ⟨(stP G w x.back x.faces).rows, openP x⟩
/-! ### A number is right, or None -/
def Can (x : Iv) : Prop := ivRight x = true ∨ x = ivNone
theorem can_of (a b : Int) : Can (ivOf a b) := by
  unfold ivOf
  split
  · rename_i h
    exact .inl h
  · exact .inr rfl
theorem can_none : Can ivNone := .inr rfl
theorem can_point (n : Int) : Can (ivPoint n) := can_of n n
theorem can_add (a b : Iv) : Can (ivAdd a b) := by
  unfold ivAdd
  split
  · exact can_of _ _
  · exact can_none
theorem can_dec (d : Dec) : Can (decIv d) := by
  unfold decIv
  split
  · exact can_of _ _
  · exact can_none
theorem can_out (a b : Int) : Can (ivOut a b) := can_of _ _
theorem can_sqr (a : Iv) : Can (ivSqr a) := by
  unfold ivSqr
  split
  · split <;> exact can_out _ _
  · exact can_none
theorem can_ends (d u : Int → Int → Int × Bool) (a b : Iv) : Can (ivEnds d u a b) := by
  unfold ivEnds
  split
  · exact can_of _ _
  · exact can_none
theorem can_div (a b : Iv) : Can (ivDiv a b) := by
  unfold ivDiv
  split
  · exact can_ends _ _ _ _
  · exact can_none
def ivEq (a b : Iv) : Bool := a.lo == b.lo && (a.hi == b.hi && a.no == b.no)
theorem ivEq_iff {a b : Iv} : ivEq a b = true ↔ a = b := by
  obtain ⟨a1, a2, a3⟩ := a
  obtain ⟨b1, b2, b3⟩ := b
  simp [ivEq, Iv.mk.injEq]
theorem can_eq {a : Iv} (h : Can a) : ivEq ivNone a = !ivRight a := by
  rcases h with h | rfl
  · rw [h]
    have : ¬ ivEq ivNone a = true := by
      rw [ivEq_iff]
      rintro rfl
      exact absurd h (by decide)
    simpa using this
  · rfl
theorem can_curve (d : Dec) : Can (curveP d) := by
  unfold curveP
  split
  · exact can_point _
  · exact can_div _ _
theorem can_ratio (G : List Gl) (w : Iv) (f : Fc) (a : Iv) : Can (ratioP G w f a) := by
  unfold ratioP
  split
  · exact can_point _
  · exact can_div _ _
structure CanS (s : Sf) : Prop where
  curve : Can s.curve
  conic : Can s.conic
  a4 : Can s.a4
  a6 : Can s.a6
  place : Can s.place
  open2 : Can s.open2
  ratio : Can s.ratio
theorem can_sf (G : List Gl) (w : Iv) (f : Fc) {p : Iv} (a : Iv) (hp : Can p) : CanS (sfP G w f p a) := ⟨can_curve _, can_add _ _, can_dec _, can_dec _, hp, can_sqr _, can_ratio _ _ _ _⟩
theorem can_rows (G : List Gl) (w : Iv) (back : Dec) (l : List Fc) : ∀ s ∈ (stP G w back l).rows, CanS s := by
  have key : ∀ (l : List Fc) (s : St), Can s.place → (∀ y ∈ s.rows, CanS y) → ∀ y ∈ (l.foldl (stepP G w) s).rows, CanS y := by
    intro l
    induction l with
    | nil => intro s _ h; exact h
    | cons f r ih =>
      intro s hp h
      rw [List.foldl_cons]
      refine ih _ (can_add _ _) fun y hy => ?_
      rcases List.mem_append.1 hy with hy | hy
      · exact h y hy
      · rw [List.mem_singleton.1 hy]
        exact can_sf G w f _ hp
  exact key l ⟨decIv back, oneI, []⟩ (can_dec _) (fun y hy => by cases hy)
/-- The seven numbers of a face. -/
def nums (s : Sf) : List Iv := [s.curve, s.conic, s.a4, s.a6, s.place, s.open2, s.ratio]
theorem nums_right {s : Sf} (h : CanS s) : (nums s).any (fun y => ivEq ivNone y) = !sfRight s := by
  unfold nums sfRight
  simp only [List.any_cons, List.any_nil, can_eq h.curve, can_eq h.conic, can_eq h.a4, can_eq h.a6, can_eq h.place, can_eq h.open2, can_eq h.ratio]
  cases ivRight s.curve <;> cases ivRight s.conic <;> cases ivRight s.a4 <;> cases ivRight s.a6 <;> cases ivRight s.place <;> cases ivRight s.open2 <;> cases ivRight s.ratio <;> rfl
end Go.Proofs.YtekhhekkepijoaaGreatDoor
