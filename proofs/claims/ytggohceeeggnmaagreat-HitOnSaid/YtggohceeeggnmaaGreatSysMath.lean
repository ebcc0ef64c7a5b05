/-
  A lens in one light: plain lists.
-/
import Derived.Test.YtggohceeeggnmaaGreatGj
import Derived.Test.YtggohceeeggnmaaGreatGg
import Derived.Test.YtggohceeeggnmaaGreatGlass
namespace Go.Proofs.YtggohceeeggnmaaGreat
set_option linter.unusedVariables false
open Go.RowKit

structure Sf where
  stop : Bool
  bent : Bool
  curve : Iv
  conic : Iv
  a4 : Iv
  a6 : Iv
  place : Iv
  open2 : Iv
  ratio : Iv
def oneI : Iv := ivPoint 65536
def faceIx (G : List Gl) (w : Iv) (t : List UInt8) : Iv := if t = airT then oneI else ixG (findG t G) w
def curveP (d : Dec) : Iv := if d.c = 0 then ivPoint 0 else ivDiv oneI (decIv d)
def bentP (f : Fc) : Bool := !isZ f.a4 || !isZ f.a6
/-- As if there were the same ahead of it and behind it. -/
def sfBase (f : Fc) (p : Iv) : Sf := ⟨f.stop, bentP f, curveP f.radius, ivAdd oneI (decIv f.conic), decIv f.a4, decIv f.a6, p, ivSqr (decIv f.aperture), oneI⟩
def ratioP (G : List Gl) (w : Iv) (f : Fc) (ahead : Iv) : Iv := if f.stop = true then oneI else ivDiv ahead (faceIx G w f.glass)
def sfP (G : List Gl) (w : Iv) (f : Fc) (p ahead : Iv) : Sf := { sfBase f p with ratio := ratioP G w f ahead }
structure St where
  place : Iv
  ahead : Iv
  rows : List Sf
def stepP (G : List Gl) (w : Iv) (s : St) (f : Fc) : St := ⟨ivAdd s.place (decIv f.thick), if f.stop = true then s.ahead else faceIx G w f.glass, s.rows ++ [sfP G w f s.place s.ahead]⟩
def stP (G : List Gl) (w : Iv) (back : Dec) (l : List Fc) : St := l.foldl (stepP G w) ⟨decIv back, oneI, []⟩
theorem stP_snoc (G : List Gl) (w : Iv) (back : Dec) (l : List Fc) (f : Fc) : stP G w back (l ++ [f]) = stepP G w (stP G w back l) f := by
  unfold stP
  rw [List.foldl_append]
  rfl
theorem stP_take (G : List Gl) (w : Iv) (back : Dec) {l : List Fc} {k : Nat} {f : Fc} (h : l[k]? = some f) : stP G w back (l.take (k + 1)) = stepP G w (stP G w back (l.take k)) f := by
  rw [List.take_add_one, h]
  exact stP_snoc G w back _ f
theorem stP_len (G : List Gl) (w : Iv) (back : Dec) (l : List Fc) : (stP G w back l).rows.length = l.length := by
  have key : ∀ (l : List Fc) (s : St), (l.foldl (stepP G w) s).rows.length = s.rows.length + l.length := by
    intro l
    induction l with
    | nil => intro s; rfl
    | cons f r ih =>
      intro s
      rw [List.foldl_cons, ih]
      simp [stepP]
      omega
  have := key l ⟨decIv back, oneI, []⟩
  unfold stP
  simpa using this
def sfRight (s : Sf) : Bool := ivRight s.curve && ivRight s.conic && ivRight s.a4 && ivRight s.a6 && ivRight s.place && ivRight s.open2 && ivRight s.ratio
def rowsRight (l : List Sf) (o : Iv) : Bool := l.all sfRight && ivRight o
def zeroIv : Iv := ⟨0, 0, false⟩
structure Sy where
  rows : List Sf
  wide : Iv
def noSy : Sy := ⟨[], zeroIv⟩
def openP (x : Ln) : Iv := decIv (x.faces.headD ⟨false, D0, D0, D0, D0, D0, D0, []⟩).aperture
def allSy (x : Ln) (G : List Gl) (w : Iv) : Sy := ⟨(stP G w x.back x.faces).rows, openP x⟩
/-! ### A number is right, or None -/
def ivEq (a b : Iv) : Bool := a.lo == b.lo && (a.hi == b.hi && a.no == b.no)
theorem ivEq_iff {a b : Iv} : ivEq a b = true ↔ a = b := by
  obtain ⟨a1, a2, a3⟩ := a
  obtain ⟨b1, b2, b3⟩ := b
  simp [ivEq, Iv.mk.injEq]
end Go.Proofs.YtggohceeeggnmaaGreat

