/-
  Glasses in memory: a struct of thirteen cells; a slice of them; which one is found.
-/
import Derived.Test.YtekhhekkepijoaaGreatDoorGg
import Derived.Test.YtekhhekkepijoaaGreatDoorGe
import Derived.Test.YtekhhekkepijoaaGreatDoorGa
namespace Go.Proofs.YtekhhekkepijoaaGreatDoor
set_option linter.unusedVariables false
open Go.ChangeShapes Go.WideShapes Go.ChangeAt Go.RowKit

def cellsG (g : Gl) : List Value := [.string (bsOf g.name), .int .i64 g.b0.c, .int .i64 g.b0.s, .int .i64 g.b1.c, .int .i64 g.b1.s, .int .i64 g.b2.c, .int .i64 g.b2.s, .int .i64 g.c0.c, .int .i64 g.c0.s, .int .i64 g.c1.c, .int .i64 g.c1.s, .int .i64 g.c2.c, .int .i64 g.c2.s]
@[reducible] def glV (g : Gl) : Value := .agg #[.string (bsOf g.name), .int .i64 g.b0.c, .int .i64 g.b0.s, .int .i64 g.b1.c, .int .i64 g.b1.s, .int .i64 g.b2.c, .int .i64 g.b2.s, .int .i64 g.c0.c, .int .i64 g.c0.s, .int .i64 g.c1.c, .int .i64 g.c1.s, .int .i64 g.c2.c, .int .i64 g.c2.s]
theorem cellsG_len (g : Gl) : (cellsG g).length = 13 := rfl
theorem cellsG_one (g : Gl) : ∀ u ∈ cellsG g, u.oneCell' = true := by
  intro u hu
  simp only [cellsG, List.mem_cons, List.not_mem_nil, or_false] at hu
  rcases hu with rfl | rfl | rfl | rfl | rfl | rfl | rfl | rfl | rfl | rfl | rfl | rfl | rfl <;> rfl
abbrev Gls (w : World) (v : Value) (l : List Gl) : Prop := GRow cellsG 13 w v l
theorem gls_pos (g : Gl) : 0 < (cellsG g).length := by rw [cellsG_len]; decide
theorem und_gs : Tryz.prog.underlying 22 = some (.slice 46) := by kernel_rfl
theorem info_gs : (Tryz.prog.info? 46).map (fun i => (i.zero, i.size, i.bytes)) = some (some (.agg #[.string ⟨#[]⟩, .int .i64 0, .int .i64 0, .int .i64 0, .int .i64 0, .int .i64 0, .int .i64 0, .int .i64 0, .int .i64 0, .int .i64 0, .int .i64 0, .int .i64 0, .int .i64 0]), 13, 112) := by kernel_rfl

theorem agg_gl (w : World) : (isAgg 46).run Tryz.prog w = .ok true w := by kernel_rfl
theorem size_gl (w : World) : (sizeOf 46).run Tryz.prog w = .ok 13 w := by kernel_rfl
@[go_sem ↓ high] theorem storeVar_gl (a : Addr) (v : Value) : storeVar 46 a v = storeWhole 46 a v := rfl
@[go_sem ↓ high] theorem loadVar_gl (a : Addr) : loadVar 46 a = loadWhole 46 a := rfl
@[go_sem] theorem run_store_gl (w : World) (b : Nat) (s : ByteArray) (x1 x2 x3 x4 x5 x6 y1 y2 y3 y4 y5 y6 : Int) :
    (storeWhole 46 ⟨b, 0, none⟩ (.agg #[.string s, .int .i64 x1, .int .i64 x2, .int .i64 x3, .int .i64 x4, .int .i64 x5, .int .i64 x6, .int .i64 y1, .int .i64 y2, .int .i64 y3, .int .i64 y4, .int .i64 y5, .int .i64 y6])).run Tryz.prog w =
      if World.cellsIn w b = 13 then .ok () (w.setRow b #[.string s, .int .i64 x1, .int .i64 x2, .int .i64 x3, .int .i64 x4, .int .i64 x5, .int .i64 x6, .int .i64 y1, .int .i64 y2, .int .i64 y3, .int .i64 y4, .int .i64 y5, .int .i64 y6]) else (storeElse 46 ⟨b, 0, none⟩ (.agg #[.string s, .int .i64 x1, .int .i64 x2, .int .i64 x3, .int .i64 x4, .int .i64 x5, .int .i64 x6, .int .i64 y1, .int .i64 y2, .int .i64 y3, .int .i64 y4, .int .i64 y5, .int .i64 y6])).run Tryz.prog w := by
  split
  · rename_i h
    refine run_storeWhole (n := 13) (vs := [.string s, .int .i64 x1, .int .i64 x2, .int .i64 x3, .int .i64 x4, .int .i64 x5, .int .i64 x6, .int .i64 y1, .int .i64 y2, .int .i64 y3, .int .i64 y4, .int .i64 y5, .int .i64 y6]) (size_gl w) rfl (by decide) ?_ h
    (repeat (refine List.forall_mem_cons.2 ⟨rfl, ?_⟩))
    intro v hv
    cases hv
  · rfl
@[go_sem] theorem run_load_gl (w : World) (b : Nat) :
    (loadWhole 46 ⟨b, 0, none⟩).run Tryz.prog w = if World.cellsIn w b = 13 then .ok (.agg (World.cellsOf w b)) w else (loadElse 46 ⟨b, 0, none⟩).run Tryz.prog w := by
  split
  · rename_i h
    exact run_loadWhole (agg_gl w) (size_gl w) (by decide) h
  · rfl
/-- A glass of a slice comes out of its place at once. -/
theorem load_gl_at {w : World} {b o : Nat} {g : Gl} (h : ∀ j u, (cellsG g)[j]? = some u → w.cell? ⟨b, o + j, none⟩ = some u) : (loadWhole 46 ⟨b, o, none⟩).run Tryz.prog w = .ok (glV g) w := by
  have hl := run_loadCells_list (P := Tryz.prog) w ⟨b, o, none⟩ (cellsG g) (fun j v hj => by rw [Addr.add_lit]; exact h j v hj)
  unfold loadWhole loadVar
  rw [cellsG_len] at hl
  simp [hl]
  rfl
/-- What a slice of glasses says at one place, as a walk takes it. -/
theorem gls_at {w : World} {ao : Option Addr} {n c k : Nat} {l : List Gl} {g : Gl} (h : Gls w (.slice ao n c) l) (hk : l[k]? = some g) :
    ∃ b o, ao = some ⟨b, o, none⟩ ∧ b < w.heap.size ∧ (∀ r, (loadWhole 46 ⟨b, o + k * 13, none⟩).run Tryz.prog (more w r) = .ok (glV g) (more w r)) ∧ (loadWhole 46 ⟨b, o + k * 13, none⟩).run Tryz.prog w = .ok (glV g) w := by
  rcases h with ⟨-, rfl⟩ | ⟨b, o, c', hv, -, hc⟩
  · simp at hk
  · injection hv with h1 h2 h3
    subst h1
    have h0 := hc k g hk 0 _ rfl
    have hb := World.block_lt_of_cell? w _ h0
    have hc' : ∀ j u, (cellsG g)[j]? = some u → w.cell? ⟨b, o + k * 13 + j, none⟩ = some u := fun j u hj => by rw [Nat.add_assoc]; exact hc k g hk j u hj
    refine ⟨b, o, rfl, hb, fun r => load_gl_at fun j u hj => ?_, load_gl_at hc'⟩
    rw [cell_more _ _ _ _ hb]
    exact hc' j u hj

def zeroG : Gl := ⟨[], ⟨0, 0⟩, ⟨0, 0⟩, ⟨0, 0⟩, ⟨0, 0⟩, ⟨0, 0⟩, ⟨0, 0⟩⟩
def findG (t : List UInt8) (l : List Gl) : Gl := (l.find? fun g => g.name == t).getD zeroG
theorem find_no {t : List UInt8} {l : List Gl} (h : ∀ (j : Nat) (g : Gl), l[j]? = some g → g.name ≠ t) : findG t l = zeroG ∧ hasName t l = false := by
  have h1 : ∀ g ∈ l, ¬ (g.name == t) = true := fun g hg => by
    obtain ⟨j, hj⟩ := List.mem_iff_getElem?.1 hg
    simpa using h j g hj
  unfold findG hasName
  rw [List.find?_eq_none.2 h1]
  refine ⟨rfl, ?_⟩
  rw [List.any_eq_false]
  exact fun g hg => by simpa using h1 g hg
theorem find_yes {t : List UInt8} {l : List Gl} {k : Nat} {g : Gl} (h : ∀ (j : Nat) (g : Gl), j < k → l[j]? = some g → g.name ≠ t) (hk : l[k]? = some g) (he : g.name = t) : findG t l = g ∧ hasName t l = true := by
  have hm : g ∈ l := List.mem_of_getElem? hk
  refine ⟨?_, ?_⟩
  · unfold findG
    have e : l.find? (fun g => g.name == t) = some g := by
      rw [List.find?_eq_some_iff_getElem]
      obtain ⟨hkl, hkg⟩ := List.getElem?_eq_some_iff.1 hk
      refine ⟨by simp [he], k, hkl, hkg, fun j hj => ?_⟩
      have := h j l[j] hj (List.getElem?_eq_getElem _)
      simpa using this
    rw [e]
    rfl
  · unfold hasName
    rw [List.any_eq_true]
    exact ⟨g, hm, by simp [he]⟩
theorem up_to {α : Type} {l : List α} {p : α → Prop} {k : Nat} {g : α} (h : ∀ (j : Nat) (x : α), j < k → l[j]? = some x → p x) (hk : l[k]? = some g) (hg : p g) : ∀ (j : Nat) (x : α), j < k + 1 → l[j]? = some x → p x := by
  intro j x hj hx
  rcases Nat.lt_or_ge j k with h1 | h1
  · exact h j x h1 hx
  · obtain rfl : j = k := by omega
    rw [hk] at hx
    cases hx
    exact hg

set_option maxHeartbeats 8000000 in
set_option maxRecDepth 100000 in
theorem find_c (v : Value) (l : List Gl) (t : List UInt8) (W : World) (hv : Gls W v l) (hl : l.length ≤ 1000000) (ht : t.length ≤ 1000000) :
    Calls Tryz.prog 65 #[v, .string (bsOf t)] W fun e w' => e = .returned (.tuple #[glV (findG t l), .bool (hasName t l)]) ∧ More W w' := by
  obtain ⟨ao, c, rfl, -⟩ := grow_form gls_pos hv
  go_enter Tryz.func65, Tryz.ntmps65
  go_wp2_with (first | (go_at_call 72; (with_reducible refine (clone_c _ (by (try simp only [size_bs]); omega) _).mono ?_); rintro e w' ⟨rfl, r, rfl⟩))
  go_loopw [10] (fun x wr => ∃ k : Nat, k ≤ l.length ∧ x = .int .i64 k ∧ (∀ (j : Nat) (g : Gl), j < k → l[j]? = some g → g.name ≠ t) ∧ Gls wr (.slice ao l.length c) l ∧ More (W.alloc (.cells #[.string ⟨#[]⟩, .int .i64 0, .int .i64 0, .int .i64 0, .int .i64 0, .int .i64 0, .int .i64 0, .int .i64 0, .int .i64 0, .int .i64 0, .int .i64 0, .int .i64 0, .int .i64 0] 46)) wr) (fun x _ => l.length - (intOf x).toNat)
  case atStart => exact ⟨0, by omega, rfl, fun j g h => by omega, hv.up (by repeat (first | exact More.refl _ | refine More.alloc ?_ _ | refine More.more ?_ _ | refine More.drew ?_ | refine More.drewN ?_ _)), More.refl _⟩
  case round =>
    obtain ⟨k, hk, rfl, hno, hG, s, rfl⟩ := hrel
    have HN := Lib.hid hno
    have HG := Lib.hid hG
    clear hno hv
    by_cases hkl : k < l.length
    · obtain ⟨g, hg⟩ : ∃ g, l[k]? = some g := ⟨l[k], List.getElem?_eq_getElem hkl⟩
      obtain ⟨b, o, rfl, hb, hL, hL0⟩ := gls_at hG hg
      clear hG
      have HK := Lib.hid hg
      clear hg
      rw [size_more] at hb
      by_cases he : g.name = t
      · have hq : (g.name == t) = true := by simpa using he
        have HE := Lib.hid he
        clear he
        go_wp2_with (first | (go_at_call 72; (with_reducible refine (clone_c _ (by (try simp only [size_bs]); omega) _).mono ?_); rintro e w' ⟨rfl, r, rfl⟩))
        go_returns
        refine ⟨?_, (by repeat (first | exact More.refl _ | refine More.alloc ?_ _ | refine More.more ?_ _ | refine More.drew ?_ | refine More.drewN ?_ _))⟩
        obtain ⟨e1, e2⟩ := find_yes HN.out HK.out HE.out
        rw [e1, e2, ← HE.out]
      · have hq : (g.name == t) = false := by simpa using he
        have HE := Lib.hid he
        clear he
        go_wp2_with (first | (go_at_call 72; (with_reducible refine (clone_c _ (by (try simp only [size_bs]); omega) _).mono ?_); rintro e w' ⟨rfl, r, rfl⟩))
        go_roundw
        case rel => exact ⟨k + 1, by omega, rfl, up_to (p := fun g => g.name ≠ t) HN.out HK.out HE.out, HG.out.up (by repeat (first | exact More.refl _ | refine More.alloc ?_ _ | refine More.more ?_ _ | refine More.drew ?_ | refine More.drewN ?_ _)), (by repeat (first | exact More.refl _ | refine More.alloc ?_ _ | refine More.more ?_ _ | refine More.drew ?_ | refine More.drewN ?_ _))⟩
        case measure => simp [intOf] <;> omega
    · obtain rfl : k = l.length := by omega
      go_wp2_with (first | (go_at_call 72; (with_reducible refine (clone_c _ (by (try simp only [size_bs]); omega) _).mono ?_); rintro e w' ⟨rfl, r, rfl⟩))
      go_returns
      refine ⟨?_, (by repeat (first | exact More.refl _ | refine More.alloc ?_ _ | refine More.more ?_ _ | refine More.drew ?_ | refine More.drewN ?_ _))⟩
      obtain ⟨e1, e2⟩ := find_no (t := t) (l := l) fun j g hj => HN.out j g (List.getElem?_eq_some_iff.1 hj).1 hj
      rw [e1, e2]
      rfl

end Go.Proofs.YtekhhekkepijoaaGreatDoor

