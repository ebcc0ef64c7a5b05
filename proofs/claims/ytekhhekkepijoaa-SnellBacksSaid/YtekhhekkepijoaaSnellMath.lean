/-
  Bent, in plain numbers: of less it is less; turned; mirrored; across a known normal.
-/
import Derived.Test.YtekhhekkepijoaaGy5
import Derived.Test.YtekhhekkepijoaaGq5
import Derived.Test.YtekhhekkepijoaaGv5
namespace Go.Proofs.Ytekhhekkepijoaa
set_option linter.unusedVariables false

def bendK (g r : Iv) : Iv := ivSub oneI (ivMul (ivSqr r) (ivSub oneI (ivSqr g)))
def bendO (d n : Pl) (g r k : Iv) : Pl := plAdd (plScale d r) (plScale n (ivSub (ivRoot k) (ivMul r g)))
def bendE (O : Pl) : Pl × Int := if plRight O = true then (O, 1) else (nonePl, 0)
def bendH (d n : Pl) (g r k : Iv) : Pl × Int := if ivRight k = true then (if k.hi < 0 then (nonePl, 2) else if k.lo < 0 then (nonePl, 0) else bendE (bendO d n g r k)) else (nonePl, 0)
def bendP (d n : Pl) (r : Iv) : Pl × Int := if ivRight (plDot d n) = true ∧ 0 < (plDot d n).lo then bendH d n (plDot d n) r (bendK (plDot d n) r) else (nonePl, 0)

theorem bendE_cases (O : Pl) : (plRight O = true ∧ bendE O = (O, 1)) ∨ (plRight O = false ∧ bendE O = (nonePl, 0)) := by
  unfold bendE
  cases h : plRight O
  · exact .inr ⟨rfl, rfl⟩
  · exact .inl ⟨rfl, rfl⟩
theorem bendH_cases (d n : Pl) (g r k : Iv) : (ivRight k = true ∧ 0 ≤ k.lo ∧ plRight (bendO d n g r k) = true ∧ bendH d n g r k = (bendO d n g r k, 1)) ∨ (ivRight k = true ∧ k.hi < 0 ∧ bendH d n g r k = (nonePl, 2)) ∨ bendH d n g r k = (nonePl, 0) := by
  unfold bendH
  split
  · rename_i hk
    split
    · exact .inr (.inl ⟨hk, by assumption, rfl⟩)
    · split
      · exact .inr (.inr rfl)
      · rcases bendE_cases (bendO d n g r k) with ⟨h1, h2⟩ | ⟨h1, h2⟩
        · exact .inl ⟨hk, by omega, h1, h2⟩
        · exact .inr (.inr h2)
  · exact .inr (.inr rfl)
theorem bend_parts (d n : Pl) (r : Iv) :
    (ivRight (plDot d n) = true ∧ 0 < (plDot d n).lo ∧ ivRight (bendK (plDot d n) r) = true ∧ 0 ≤ (bendK (plDot d n) r).lo ∧ plRight (bendO d n (plDot d n) r (bendK (plDot d n) r)) = true ∧ bendP d n r = (bendO d n (plDot d n) r (bendK (plDot d n) r), 1)) ∨
    (ivRight (plDot d n) = true ∧ 0 < (plDot d n).lo ∧ ivRight (bendK (plDot d n) r) = true ∧ (bendK (plDot d n) r).hi < 0 ∧ bendP d n r = (nonePl, 2)) ∨ bendP d n r = (nonePl, 0) := by
  unfold bendP
  split
  · rename_i h
    rcases bendH_cases d n (plDot d n) r (bendK (plDot d n) r) with ⟨a, b, c, e⟩ | ⟨a, b, e⟩ | e
    · exact .inl ⟨h.1, h.2, a, b, c, e⟩
    · exact .inr (.inl ⟨h.1, h.2, a, b, e⟩)
    · exact .inr (.inr e)
  · exact .inr (.inr rfl)
/-- What is told: a right place, or none. -/
theorem bend_cases (d n : Pl) (r : Iv) : ((bendP d n r).2 = 1 ∧ plRight (bendP d n r).1 = true) ∨ (((bendP d n r).2 = 0 ∨ (bendP d n r).2 = 2) ∧ (bendP d n r).1 = nonePl) := by
  rcases bend_parts d n r with ⟨-, -, -, -, h, e⟩ | ⟨-, -, -, -, e⟩ | e
  · rw [e]; exact .inl ⟨rfl, h⟩
  · rw [e]; exact .inr ⟨.inr rfl, rfl⟩
  · rw [e]; exact .inr ⟨.inl rfl, rfl⟩

/-! ### Of less -/
theorem dot_rights {d n : Pl} (h : ivRight (plDot d n) = true) : PRight d ∧ PRight n := by
  obtain ⟨⟨h1, h2, h3⟩, -⟩ := sum_right h
  have a := rights_mul h1
  have b := rights_mul h2
  have c := rights_mul h3
  exact ⟨⟨a.1, b.1, c.1⟩, a.2, b.2, c.2⟩
theorem bendK_rights {g r : Iv} (h : ivRight (bendK g r) = true) : ivRight r = true ∧ ivRight g = true := by
  have h1 := rights_mul (sub_ends h).1.2
  exact ⟨rights_sqr h1.1, rights_sqr (sub_ends h1.2).1.2⟩
theorem bendK_less {g r g' r' : Iv} (hg : Part g' g) (hr : Part r' r) : ivLess (bendK g' r') (bendK g r) = true :=
  lessSub (lessSelf _) (lessMul (less_sqr hr) (lessSub (lessSelf _) (less_sqr hg)))
/-- Of less it is less: what is bent stays bent, within the answer; what is thrown back stays so. -/
theorem bend_less {d n d' n' : Pl} {r r' : Iv} (hd : PRight d → PPart d' d) (hn : PRight n → PPart n' n) (hr : Part r' r) :
    ((bendP d n r).2 = 1 → (bendP d' n' r').2 = 1 ∧ plInside (bendP d' n' r').1 (bendP d n r).1 = true) ∧ ((bendP d n r).2 = 2 → (bendP d' n' r').2 = 2) := by
  have key : ivRight (plDot d n) = true → 0 < (plDot d n).lo → ivRight (bendK (plDot d n) r) = true → Part (plDot d' n') (plDot d n) ∧ Part (bendK (plDot d' n') r') (bendK (plDot d n) r) ∧ bendP d' n' r' = bendH d' n' (plDot d' n') r' (bendK (plDot d' n') r') := by
    intro g g0 k
    obtain ⟨rd, rn⟩ := dot_rights g
    have pg := lessPart (less_dot (hd rd) (hn rn)) g
    have pk := lessPart (bendK_less pg hr) k
    refine ⟨pg, pk, ?_⟩
    unfold bendP
    rw [if_pos ⟨pg.1, by have := pg.2.2; omega⟩]
  rcases bend_parts d n r with ⟨g, g0, k, k0, o, e⟩ | ⟨g, g0, k, k0, e⟩ | e
  · obtain ⟨pg, pk, e'⟩ := key g g0 k
    obtain ⟨rd, rn⟩ := dot_rights g
    obtain ⟨o1, o2, o3⟩ := plRight_iff.1 o
    have lf : ivLess (ivSub (ivRoot (bendK (plDot d' n') r')) (ivMul r' (plDot d' n'))) (ivSub (ivRoot (bendK (plDot d n) r)) (ivMul r (plDot d n))) = true := lessSub (lessRoot (partLess pk)) (less_mul hr pg)
    have pd := hd rd
    have pn := hn rn
    have l1 : ivLess (bendO d' n' (plDot d' n') r' (bendK (plDot d' n') r')).x (bendO d n (plDot d n) r (bendK (plDot d n) r)).x = true := lessAdd (less_mul pd.1 hr) (lessMul (partLess pn.1) lf)
    have l2 : ivLess (bendO d' n' (plDot d' n') r' (bendK (plDot d' n') r')).y (bendO d n (plDot d n) r (bendK (plDot d n) r)).y = true := lessAdd (less_mul pd.2.1 hr) (lessMul (partLess pn.2.1) lf)
    have l3 : ivLess (bendO d' n' (plDot d' n') r' (bendK (plDot d' n') r')).z (bendO d n (plDot d n) r (bendK (plDot d n) r)).z = true := lessAdd (less_mul pd.2.2 hr) (lessMul (partLess pn.2.2) lf)
    have r1 := less_rights l1 o1
    have r2 := less_rights l2 o2
    have r3 := less_rights l3 o3
    have e2 : bendP d' n' r' = (bendO d' n' (plDot d' n') r' (bendK (plDot d' n') r'), 1) := by
      rw [e']
      unfold bendH
      have := pk.2.2
      rw [if_pos pk.1, if_neg (by have := (right_bd pk.1).2.2; omega), if_neg (by omega)]
      unfold bendE
      rw [if_pos (plRight_iff.2 ⟨r1.1, r2.1, r3.1⟩)]
    rw [e, e2]
    refine ⟨fun _ => ⟨rfl, ?_⟩, fun h => by cases h⟩
    unfold plInside
    rw [r1.2, r2.2, r3.2]
    rfl
  · obtain ⟨pg, pk, e'⟩ := key g g0 k
    rw [e]
    refine ⟨fun h => (by cases h), fun _ => ?_⟩
    rw [e']
    unfold bendH
    have := pk.2.2
    rw [if_pos pk.1, if_pos (by omega)]
  · rw [e]
    exact ⟨fun h => (by cases h), fun h => by cases h⟩

/-! ### Turned, mirrored -/
theorem sn_mul_neg (a b : Iv) : ivMul (ivNeg a) (ivNeg b) = ivMul a b := by
  cases h : ivRight a
  · rw [neg_bad h]
    unfold ivMul ivBoth
    rw [h]
    rfl
  · cases k : ivRight b
    · rw [neg_bad k]
      unfold ivMul ivBoth
      rw [k, right_none, Bool.and_false, Bool.and_false]
      rfl
    · exact mul_neg_neg h k
theorem sn_right_one (p : Pl) : plRight (plOne p) = plRight p := by
  unfold plRight plOne
  dsimp only
  rw [right_neg_eq, Bool.and_comm (ivRight p.y)]
theorem sn_right_mir (p : Pl) : plRight (plMirror p) = plRight p := by
  unfold plRight plMirror
  dsimp only
  rw [right_neg_eq]
theorem bend_one (d n : Pl) (r : Iv) : bendP (plOne d) (plOne n) r = (plOne (bendP d n r).1, (bendP d n r).2) := by
  have hg : plDot (plOne d) (plOne n) = plDot d n := by
    unfold plDot plOne
    dsimp only
    rw [sn_mul_neg, sum_swap]
  have ho : ∀ g k, bendO (plOne d) (plOne n) g r k = plOne (bendO d n g r k) := by
    intro g k
    unfold bendO plScale plAdd plOne
    dsimp only
    rw [negMul, negMul, add_neg]
  have hn : plOne nonePl = nonePl := rfl
  have he : ∀ O, bendE (plOne O) = (plOne (bendE O).1, (bendE O).2) := by
    intro O
    unfold bendE
    rw [sn_right_one]
    split
    · rfl
    · rw [hn]
  unfold bendP
  rw [hg]
  split
  · unfold bendH
    rw [ho, he]
    split
    · split
      · rw [hn]
      · split
        · rw [hn]
        · rfl
    · rw [hn]
  · rw [hn]
theorem bend_mir (d n : Pl) (r : Iv) : bendP (plMirror d) (plMirror n) r = (plMirror (bendP d n r).1, (bendP d n r).2) := by
  have hg : plDot (plMirror d) (plMirror n) = plDot d n := by
    unfold plDot plMirror
    dsimp only
    rw [sn_mul_neg]
  have ho : ∀ g k, bendO (plMirror d) (plMirror n) g r k = plMirror (bendO d n g r k) := by
    intro g k
    unfold bendO plScale plAdd plMirror
    dsimp only
    rw [negMul, negMul, add_neg]
  have hn : plMirror nonePl = nonePl := rfl
  have he : ∀ O, bendE (plMirror O) = (plMirror (bendE O).1, (bendE O).2) := by
    intro O
    unfold bendE
    rw [sn_right_mir]
    split
    · rfl
    · rw [hn]
  unfold bendP
  rw [hg]
  split
  · unfold bendH
    rw [ho, he]
    split
    · split
      · rw [hn]
      · split
        · rw [hn]
        · rfl
    · rw [hn]
  · rw [hn]
/-- Turned by quarters with its normal it is turned. -/
theorem bend_turn (d n : Pl) (r : Iv) (k : Int) : bendP (plTurn d k) (plTurn n k) r = (plTurn (bendP d n r).1 k, (bendP d n r).2) := by
  have h1 := bend_one d n r
  have h2 := bend_one (plOne d) (plOne n) r
  have h3 := bend_one (plOne (plOne d)) (plOne (plOne n)) r
  rw [h1] at h2
  rw [h2] at h3
  have hk : k % 4 = 0 ∨ k % 4 = 1 ∨ k % 4 = 2 ∨ k % 4 = 3 := by omega
  rcases hk with h | h | h | h
  · rw [turn_of h, turn_of h, turn_of h]; rfl
  · rw [turn_of h, turn_of h, turn_of h]; exact h1
  · rw [turn_of h, turn_of h, turn_of h]; exact h2
  · rw [turn_of h, turn_of h, turn_of h]; exact h3
end Go.Proofs.Ytekhhekkepijoaa

