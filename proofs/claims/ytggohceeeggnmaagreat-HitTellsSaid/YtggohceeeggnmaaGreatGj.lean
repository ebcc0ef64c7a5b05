/-
  Lenses, and what is read of a lens's tokens, one by one: plain lists.
  The lenses that are handed in: of raw faces, right; their texts' length; which glasses they ask for.
  LensBack in plain lists: with a glass less, a lens is read if it doesn't ask for it.
-/
import Derived.Test.YtggohceeeggnmaaGreatGg

namespace Go.Proofs.YtggohceeeggnmaaGreat
set_option linter.unusedVariables false
open Go.RowKit

structure Fc where
  stop : Bool
  radius : Dec
  aperture : Dec
  thick : Dec
  conic : Dec
  a4 : Dec
  a6 : Dec
  glass : List UInt8
structure Ln where
  name : List UInt8
  back : Dec
  faces : List Fc
def lensT : List UInt8 := [108, 101, 110, 115]
def stopT : List UInt8 := [115, 116, 111, 112]
def conicT : List UInt8 := [99, 111, 110, 105, 99]
def a4T : List UInt8 := [97, 52]
def a6T : List UInt8 := [97, 54]
def isZ (d : Dec) : Bool := decide (d.c = 0) && decide (d.s = 0)
/-- Is a number's size below another number? -/
def sizeLess (r a : Dec) : Bool := decide ((r.c.natAbs : Int) * 10 ^ a.s.toNat < a.c * 10 ^ r.s.toNat)

/-! ### A lens's lines -/
/-! ### What is read -/
structure Flt where
  line : Nat
  col : Nat
  err : Nat
def knownG (G : List (List UInt8)) (t : List UInt8) : Bool := decide (t ∈ G) || decide (t = airT)
/-! ### Lenses that may be -/
structure OkFc (f : Fc) : Prop where
  a : OkDec f.aperture
  apos : 0 < f.aperture.c
  t : OkDec f.thick
  tpos : 0 ≤ f.thick.c
  radius : f.stop = false → OkDec f.radius ∧ (f.radius.c = 0 ∨ sizeLess f.radius f.aperture = false)
  glass : f.stop = false → OkName f.glass
  conic : f.stop = false → OkDec f.conic
  a4 : f.stop = false → OkDec f.a4
  a6 : f.stop = false → OkDec f.a6
  bare : f.stop = true → f.radius = ⟨0, 0⟩ ∧ f.conic = ⟨0, 0⟩ ∧ f.a4 = ⟨0, 0⟩ ∧ f.a6 = ⟨0, 0⟩ ∧ f.glass = []
structure OkLn (x : Ln) : Prop where
  name : OkName x.name
  back : OkDec x.back
  bpos : 0 < x.back.c
  faces : ∀ f ∈ x.faces, OkFc f
  most : x.faces.length ≤ 12
  some : x.faces.all Fc.stop = false
/-- Are a face's glasses known? -/
def knownF (G : List (List UInt8)) (f : Fc) : Bool := f.stop || knownG G f.glass

/-! ### Token by token, of a lens's own lines -/
end Go.Proofs.YtggohceeeggnmaaGreat

namespace Go.Proofs.YtggohceeeggnmaaGreat
set_option linter.unusedVariables false
open Go.RowKit

/-! ### Decimals of one scale -/
theorem decH_val : ∀ (s : Nat) (c : Int), ∃ k, k ≤ s ∧ (decH c s).s = ((s - k : Nat) : Int) ∧ (decH c s).c * 10 ^ k = c
  | 0, c => ⟨0, by omega, rfl, by simp [decH]⟩
  | s + 1, c => by
    unfold decH
    split
    · rename_i h
      obtain ⟨k, h1, h2, h3⟩ := decH_val s (c.tdiv 10)
      refine ⟨k + 1, by omega, by rw [h2]; congr 1; omega, ?_⟩
      rw [Int.pow_succ, ← Int.mul_assoc, h3]
      have := Int.tmod_add_mul_tdiv c 10
      omega
    · exact ⟨0, by omega, rfl, by simp⟩
theorem ten_pos (k : Nat) : (0 : Int) < 10 ^ k := Int.pow_pos (by decide)
theorem decH_sign (s : Nat) (c : Int) : (0 < (decH c s).c ↔ 0 < c) ∧ ((decH c s).c = 0 ↔ c = 0) := by
  obtain ⟨k, -, -, h⟩ := decH_val s c
  have hp := ten_pos k
  constructor
  · constructor
    · intro h1
      have := Int.mul_pos h1 hp
      omega
    · intro h1
      rw [← h] at h1
      exact Int.pos_of_mul_pos_left h1 hp
  · constructor
    · intro h1
      rw [← h, h1, Int.zero_mul]
    · intro h1
      rcases Int.mul_eq_zero.1 (h.trans h1) with h | h
      · exact h
      · omega
theorem decH_nonneg (s : Nat) (c : Int) (h : 0 ≤ c) : 0 ≤ (decH c s).c := by
  have := decH_sign s c
  omega
theorem decH_not_less {s : Nat} {c a : Int} (h : a ≤ c.natAbs) : sizeLess (decH c s) (decH a s) = false := by
  obtain ⟨k, hk, hs, hc⟩ := decH_val s c
  obtain ⟨j, hj, ht, ha⟩ := decH_val s a
  unfold sizeLess
  rw [decide_eq_false_iff_not, hs, ht, Int.toNat_natCast, Int.toNat_natCast]
  intro hlt
  have hp := ten_pos k
  have hq := ten_pos j
  have h1 := Int.mul_lt_mul_of_pos_right (Int.mul_lt_mul_of_pos_right hlt hp) hq
  have e1 : (10 : Int) ^ (s - j) * 10 ^ j = 10 ^ s := by rw [← Int.pow_add, Nat.sub_add_cancel hj]
  have e2 : (10 : Int) ^ (s - k) * 10 ^ k = 10 ^ s := by rw [← Int.pow_add, Nat.sub_add_cancel hk]
  have e3 : ((decH c s).c.natAbs : Int) * 10 ^ k = c.natAbs := by
    have h9 : ((decH c s).c * 10 ^ k).natAbs = c.natAbs := by rw [hc]
    rw [Int.natAbs_mul] at h9
    have h10 : ((10 : Int) ^ k).natAbs = 10 ^ k := by rw [Int.natAbs_pow]; rfl
    rw [h10] at h9
    rw [← h9, Int.natCast_mul, Int.natCast_pow]
    rfl
  have l1 : ((decH c s).c.natAbs : Int) * 10 ^ (s - j) * 10 ^ k * 10 ^ j = c.natAbs * 10 ^ s := by
    rw [Int.mul_assoc, Int.mul_assoc, Int.mul_left_comm (10 ^ (s - j)), e1, ← Int.mul_assoc, e3]
  have l2 : (decH a s).c * 10 ^ (s - k) * 10 ^ k * 10 ^ j = a * 10 ^ s := by
    rw [Int.mul_assoc (decH a s).c, e2, Int.mul_assoc, Int.mul_comm (10 ^ s), ← Int.mul_assoc, ha]
  rw [l1, l2] at h1
  have h2 := Int.mul_le_mul_of_nonneg_right h (Int.le_of_lt (ten_pos s))
  omega

/-! ### The lens of raw faces -/
structure RawF where
  kind : Int
  r : Int
  a : Int
  t : Int
  g : Int
  k : Int
def D0 : Dec := ⟨0, 0⟩
def handGlass (G : List Gl) (n : Int) : List UInt8 := if n % (G.length + 2 : Int) < G.length then ((G.map Gl.name).getD (n % (G.length + 2 : Int)).toNat []) else airT
def handRadius (n : Int) : Dec := if 0 < n % 7 then (if n.tdiv 7 % 2 = 0 then decH (-150 - n % 900) 1 else decH (150 + n % 900) 1) else D0
def handF (G : List Gl) (i : Nat) (f : RawF) : Fc :=
  if f.kind % 6 = 5 ∧ 0 < i then ⟨true, D0, decH (30 + f.a % 70) 1, decH (f.t % 80) 1, D0, D0, D0, []⟩
  else ⟨false, handRadius f.r, decH (30 + f.a % 70) 1, decH (f.t % 80) 1, if f.k % 6 = 3 then decH (f.k.tdiv 6 % 30 - 15) 1 else D0, if f.k % 6 = 4 ∨ f.k % 6 = 5 then decH (f.k.tdiv 6 % 400 - 200) 2 else D0, if f.k % 6 = 5 then decH (f.k.tdiv 12 % 400 - 200) 1 else D0, handGlass G f.g⟩
def R0 : RawF := ⟨0, 0, 0, 0, 0, 0⟩
/-- Of the first k of l. -/
def handFs (G : List Gl) (l : List RawF) (k : Nat) : List Fc := (List.range k).map fun i => handF G i (l.getD i R0)
def plainFc : Fc := ⟨false, ⟨40, 0⟩, ⟨8, 0⟩, ⟨3, 0⟩, D0, D0, D0, [99, 114, 111, 119, 110]⟩
def handFaces (G : List Gl) (l : List RawF) (most : Nat) : List Fc := if min l.length most = 0 then [plainFc] else handFs G l (min l.length most)
def handLn (back : Int) (l : List RawF) (G : List Gl) (most : Nat) : Ln := ⟨120 :: Lib.decDigits (back % 100).toNat, decH (200 + back % 600) 1, handFaces G l most⟩
theorem handFs_succ (G : List Gl) (l : List RawF) (k : Nat) : handFs G l (k + 1) = handFs G l k ++ [handF G k (l.getD k R0)] := by simp [handFs, List.range_succ]
theorem handFs_len (G : List Gl) (l : List RawF) (k : Nat) : (handFs G l k).length = k := by simp [handFs]

theorem mod_bd (m : Int) {k : Int} (h : 0 < k) : 0 ≤ m % k ∧ m % k < k := ⟨Int.emod_nonneg _ (by omega), Int.emod_lt_of_pos _ h⟩
theorem ok_D0 : OkDec D0 := ⟨rfl, by decide⟩
theorem decH_ok1 {s : Nat} (hs : s ≤ 6) {c : Int} (h : -90000 ≤ c ∧ c ≤ 90000) : OkDec (decH c s) :=
  decH_ok hs (by omega) (Nat.le_trans (Nat.div_le_self _ _) (by omega))
theorem okName_of {g : Gl} (h : OkGl g) : OkName g.name := h.1
theorem air_name : OkName airT := ⟨97, [105, 114], rfl, rfl, rfl, by decide⟩
theorem handGlass_ok {G : List Gl} (hG : ∀ g ∈ G, OkGl g) (n : Int) : OkName (handGlass G n) ∧ (handGlass G n ∈ G.map Gl.name ∨ handGlass G n = airT) := by
  have h := mod_bd n (show (0 : Int) < (G.length + 2 : Int) by omega)
  unfold handGlass
  split
  · rename_i hl
    have hi : (n % (G.length + 2 : Int)).toNat < (G.map Gl.name).length := by rw [List.length_map]; omega
    rw [List.getD_eq_getElem?_getD, List.getElem?_eq_getElem hi, Option.getD_some]
    have hm := List.getElem_mem hi
    refine ⟨?_, .inl hm⟩
    obtain ⟨g, hg, he⟩ := List.mem_map.1 hm
    rw [← he]
    exact okName_of (hG g hg)
  · exact ⟨air_name, .inr rfl⟩
theorem handRadius_ok (n : Int) : OkDec (handRadius n) ∧ ∀ a : Int, 30 ≤ a ∧ a < 100 → (handRadius n).c = 0 ∨ sizeLess (handRadius n) (decH a 1) = false := by
  have h := mod_bd n (show (0 : Int) < 900 by omega)
  unfold handRadius
  split
  · split
    · exact ⟨decH_ok1 (by omega) (by omega), fun a ha => .inr (decH_not_less (by omega))⟩
    · exact ⟨decH_ok1 (by omega) (by omega), fun a ha => .inr (decH_not_less (by omega))⟩
  · exact ⟨ok_D0, fun _ _ => .inl rfl⟩
theorem handF_ok {G : List Gl} (hG : ∀ g ∈ G, OkGl g) (i : Nat) (f : RawF) : OkFc (handF G i f) := by
  have ha := mod_bd f.a (show (0 : Int) < 70 by omega)
  have ht := mod_bd f.t (show (0 : Int) < 80 by omega)
  have hk1 := mod_bd (f.k.tdiv 6) (show (0 : Int) < 30 by omega)
  have hk2 := mod_bd (f.k.tdiv 6) (show (0 : Int) < 400 by omega)
  have hk3 := mod_bd (f.k.tdiv 12) (show (0 : Int) < 400 by omega)
  unfold handF
  split
  · refine ⟨decH_ok1 (by omega) (by omega), (decH_sign _ _).1.2 (by omega), decH_ok1 (by omega) (by omega), decH_nonneg _ _ (by omega), ?_, ?_, ?_, ?_, ?_, fun _ => ⟨rfl, rfl, rfl, rfl, rfl⟩⟩ <;> (intro h; cases h)
  · refine ⟨decH_ok1 (by omega) (by omega), (decH_sign _ _).1.2 (by omega), decH_ok1 (by omega) (by omega), decH_nonneg _ _ (by omega), fun _ => ⟨(handRadius_ok _).1, (handRadius_ok _).2 _ (by omega)⟩, fun _ => (handGlass_ok hG _).1, fun _ => ?_, fun _ => ?_, fun _ => ?_, ?_⟩
    · show OkDec (if _ then _ else _)
      split
      · exact decH_ok1 (by omega) (by omega)
      · exact ok_D0
    · show OkDec (if _ then _ else _)
      split
      · exact decH_ok1 (by omega) (by omega)
      · exact ok_D0
    · show OkDec (if _ then _ else _)
      split
      · exact decH_ok1 (by omega) (by omega)
      · exact ok_D0
    · intro h
      cases h
theorem plainFc_ok : OkFc plainFc := by
  refine ⟨⟨rfl, by decide⟩, by decide, ⟨rfl, by decide⟩, by decide, fun _ => ⟨⟨rfl, by decide⟩, .inr (by decide)⟩, fun _ => ⟨99, [114, 111, 119, 110], rfl, rfl, rfl, by decide⟩, fun _ => ok_D0, fun _ => ok_D0, fun _ => ok_D0, ?_⟩
  intro h
  cases h
theorem handFaces_mem {G : List Gl} {l : List RawF} {most : Nat} {f : Fc} (h : f ∈ handFaces G l most) : f = plainFc ∨ ∃ i r, f = handF G i r := by
  unfold handFaces at h
  split at h
  · exact .inl (by simpa using h)
  · unfold handFs at h
    obtain ⟨i, -, rfl⟩ := List.mem_map.1 h
    exact .inr ⟨i, _, rfl⟩
theorem handFaces_some (G : List Gl) (l : List RawF) (most : Nat) : (handFaces G l most).all Fc.stop = false := by
  unfold handFaces
  split
  · rfl
  · rename_i h
    obtain ⟨k, e⟩ : ∃ k, min l.length most = k + 1 := ⟨min l.length most - 1, by omega⟩
    rw [e]
    unfold handFs
    rw [List.range_succ_eq_map, List.map_cons, List.all_cons]
    have : (handF G 0 (l.getD 0 R0)).stop = false := by
      unfold handF
      rw [if_neg (by omega)]
    rw [this]
    rfl
theorem handFaces_len (G : List Gl) (l : List RawF) {most : Nat} (h : most ≤ 12) : (handFaces G l most).length ≤ 12 ∧ 1 ≤ (handFaces G l most).length := by
  unfold handFaces
  split
  · simp
  · rw [handFs_len]
    omega
theorem handLn_ok (back : Int) (l : List RawF) {G : List Gl} (hG : ∀ g ∈ G, OkGl g) {most : Nat} (hm : most ≤ 12) : OkLn (handLn back l G most) := by
  have hb := mod_bd back (show (0 : Int) < 100 by omega)
  have hc := mod_bd back (show (0 : Int) < 600 by omega)
  refine ⟨⟨120, Lib.decDigits (back % 100).toNat, rfl, rfl, ?_, ?_⟩, decH_ok1 (by omega) (by omega), (decH_sign _ _).1.2 (by omega), fun f hf => ?_, (handFaces_len G l hm).1, handFaces_some G l most⟩
  · have := dig_all (back % 100).toNat
    rw [List.all_eq_true] at this ⊢
    exact fun b hb => isD_W (this b hb)
  · have := dig_len 1 (back % 100).toNat (by omega)
    omega
  · rcases handFaces_mem hf with rfl | ⟨i, r, rfl⟩
    · exact plainFc_ok
    · exact handF_ok hG i r
/-- Each face's glass is one of these, or air. -/
theorem handLn_known (back : Int) (l : List RawF) {G : List Gl} (hG : ∀ g ∈ G, OkGl g) (hc : [99, 114, 111, 119, 110] ∈ G.map Gl.name) (most : Nat) : (handLn back l G most).faces.all (knownF (G.map Gl.name)) = true := by
  rw [List.all_eq_true]
  intro f hf
  rcases handFaces_mem hf with rfl | ⟨i, r, rfl⟩
  · show (false || (decide _ || _)) = true
    rw [Bool.false_or, Bool.or_eq_true]
    exact .inl (decide_eq_true hc)
  · unfold handF
    split
    · rfl
    · unfold knownF knownG
      rcases (handGlass_ok hG r.g).2 with h | h
      · simp only
        rw [decide_eq_true h]
        rfl
      · simp only [h, decide_true, Bool.or_true]
/-! ### How long a lens's text is -/
/-! ### W7: what is printed is read -/
end Go.Proofs.YtggohceeeggnmaaGreat

namespace Go.Proofs.YtggohceeeggnmaaGreat
set_option linter.unusedVariables false
open Go.RowKit

theorem hand_known (back : Int) (l : List RawF) (raw : List Int) (most : Nat) : (handLn back l (glassesG raw) most).faces.all (knownF ((glassesG raw).map Gl.name)) = true := handLn_known back l (glassesG_ok raw) (by simp [glassesG, crownG]) most
end Go.Proofs.YtggohceeeggnmaaGreat
