/-
  A lens is read: Read.
-/
import Derived.Test.YtekhhekkepijoaaGreatDoorLensLn
namespace Go.Proofs.YtekhhekkepijoaaGreatDoor
set_option linter.unusedVariables false
open Go.ChangeShapes Go.WideShapes Go.ChangeAt Go.RowKit

def okL : Ex Ln → Ln
  | .ok x => x
  | .error _ => ⟨[], D0, []⟩
def flO : Ex Ln → Flt
  | .ok _ => ⟨0, 0, 0⟩
  | .error f => f

/-- A row of faces lies in no block that has none. -/
theorem fcs_far {w w' : World} {v : Value} {l : List Fc} (h : Fcs w v l) (b : Nat) (hb : ∀ o s, w.cell? ⟨b, o, none⟩ ≠ some (.bool s)) (hk : ∀ k, k < w.heap.size → k ≠ b → w'.heap[k]? = w.heap[k]?) : Fcs w' v l := by
  rcases h with h | ⟨g, o, c, rfl, hcap, hc⟩
  · exact .inl h
  · refine .inr ⟨g, o, c, rfl, hcap, fun k a ha j u hu => ?_⟩
    have h0 := hc k a ha 0 _ rfl
    have h1 := hc k a ha j u hu
    have hg : g ≠ b := by
      rintro rfl
      exact hb _ _ h0
    rw [World.cell?_of_block (hk g (World.block_lt_of_cell? w _ h1) hg)]
    exact h1
theorem zL_none (w : World) (b : Nat) (h : w.heap[b]? = some zL) : ∀ o s, w.cell? ⟨b, o, none⟩ ≠ some (.bool s) := by
  intro o s hc
  simp only [World.cell?, h] at hc
  match o with
  | 0 => simp at hc
  | 1 => simp at hc
  | 2 => simp at hc
  | 3 => simp at hc
  | n + 4 => simp at hc
theorem heap_under (W : World) (o1 o2 o3 o4 : Obj) (r r2 : Rest) (k : Nat) (hk : k < (more ((more (W.alloc o1) r).alloc o3) r2).heap.size) (h : k ≠ W.heap.size) : ((more ((more (W.alloc o2) r).alloc o3) r2).alloc o4).heap[k]? = (more ((more (W.alloc o1) r).alloc o3) r2).heap[k]? := by
  rw [Below.heap_alloc _ _ _ (by simpa using hk)]
  simp only [more, World.alloc, Array.getElem?_append, Array.getElem?_push, Array.size_append, Array.size_push, h, if_false]
theorem heap_zL (W : World) (o3 : Obj) (r r2 : Rest) : (more ((more (W.alloc zL) r).alloc o3) r2).heap[W.heap.size]? = some zL := by
  rw [heap_more _ _ _ (by simp; omega), Below.heap_alloc _ _ _ (by simp; omega), heap_more _ _ _ (by simp), heap_alloc_new]
theorem lens_z (g : Value) (G : List Gl) (X : World) (p : Nat) (hp : p = X.heap.size) (v : Value) (ts : List Tk) (hg : Gls X g G) (hG : G.length ≤ 1000000) (hf : FineS ⟨ts, 0, 0, 0⟩) (hv : GRow tk3 3 X v ts) :
    Calls Tryz.prog 22 #[.pointer (some ⟨p, 0, none⟩), g] (X.alloc (.cells #[v, .complex .f64 0 0, .int .i64 0] 66)) fun en w' => ∃ v' σ' lv x, en = .returned (lnV x lv) ∧ More (X.alloc (rdO v' σ')) w' ∧ Fcs w' lv x.faces ∧ LensPost (readToks (G.map Gl.name) ts) x σ' := by
  subst hp
  have h := lens_m g G X v ⟨ts, 0, 0, 0⟩ ⟨#[], X.drawn⟩ hg hG rfl ⟨rfl, rfl⟩ hf hv
  have e : ∀ o : Obj, more (X.alloc o) ⟨#[], X.drawn⟩ = X.alloc o := fun o => more_self (X.alloc o)
  rw [e] at h
  have e2 : X.alloc (rdO v ⟨ts, 0, 0, 0⟩) = X.alloc (.cells #[v, .complex .f64 0 0, .int .i64 0] 66) := by
    show X.alloc (.cells #[v, .complex .f64 (nw 0) (nw 0), .int .i64 ((0 : Nat) : Int)] 66) = _
    rw [nw_zero]
    rfl
  rw [e2] at h
  refine h.mono ?_
  rintro en w' ⟨v', σ', lv, x, rfl, hM, hF, hP⟩
  rw [e] at hM
  exact ⟨v', σ', lv, x, rfl, hM, hF, hP⟩

set_option maxHeartbeats 800000 in
set_option maxRecDepth 100000 in
theorem readl_c (s : List UInt8) (g : Value) (G : List Gl) (W : World) (hz : s.length ≤ 9223372036854775807) (hg : Gls W g G) (hG : G.length ≤ 1000000) :
    Calls Tryz.prog 6 #[.string (bsOf s), g] W fun en w' => ∃ lv, en = .returned (.tuple #[lnV (okL (readLn (G.map Gl.name) s)) lv, plV2 (flO (readLn (G.map Gl.name) s)).line (flO (readLn (G.map Gl.name) s)).col, .int .i64 (flO (readLn (G.map Gl.name) s)).err]) ∧ More W w' ∧ Fcs w' lv (okL (readLn (G.map Gl.name) s)).faces := by
  obtain ⟨T, hT⟩ : ∃ T, readLn (G.map Gl.name) s = T := ⟨_, rfl⟩
  rw [hT]
  unfold readLn at hT
  have hfine := lexP_fine s
  obtain ⟨⟨tk, L, C, E⟩, hx⟩ : ∃ x, lexP s = x := ⟨_, rfl⟩
  rw [hx] at hT hfine
  dsimp only at hT hfine
  have HFI := Lib.hid hfine
  have HG := Lib.hid hg
  obtain ⟨ga, gc, rfl, -⟩ := grow_form gls_pos hg
  clear hfine hg
  go_enter Tryz.func6, Tryz.ntmps6
  go_wp2_with fail
  go_at_call 21
  refine Calls.mono (tokens_x s hx hz _) ?_
  rintro e w' ⟨v', rfl, ⟨r, rfl⟩, hr⟩
  dsimp only at hr
  obtain ⟨ao, c, rfl, -⟩ := grow_form (fun _ => by rw [tk3_len]; decide) hr
  have HR := Lib.hid hr
  clear hr hx
  by_cases hE : E = 0
  · subst hE
    rw [if_pos rfl] at hT
    by_cases h0 : tk = []
    · subst h0
      have hT2 : T = .error ⟨0, 0, 2⟩ := hT.symm
      subst hT2
      clear hT
      go_wp2_with fail
      go_returns
      refine ⟨.slice none 0 0, ?_, (by repeat (first | exact More.refl _ | refine More.alloc ?_ _ | refine More.more ?_ _ | refine More.drew ?_ | refine More.drewN ?_ _)), .inl ⟨rfl, rfl⟩⟩
      show _ = Ending.returned (.tuple #[_, plV2 0 0, _])
      rw [plV2_zero]
      rfl
    · have hpos : 0 < tk.length := List.length_pos_iff.2 h0
      have hq : ((tk.length : Int) == 0) = false := by simp; exact h0
      have HT := Lib.hid hT
      have HFS : FineS ⟨tk, 0, 0, 0⟩ := ⟨h0, HFI.out⟩
      clear hT h0
      go_wp2_with fail
      go_at_call 22
      refine Calls.mono (lens_z _ G (more (W.alloc zL) r) _ (by simp [Nat.add_assoc]) _ tk (GRow.more (GRow.alloc HG.out)) hG HFS HR.out) ?_
      rintro en w' ⟨v2, σ2, lv, x, rfl, ⟨r2, rfl⟩, hF, hP⟩
      obtain ⟨nm, ⟨bc, bs⟩, fcs⟩ := x
      obtain ⟨ts2, L2, C2, E2⟩ := σ2
      rw [HT.out] at hP
      obtain ⟨la, lc, rfl, -⟩ := grow_form fcs_pos hF
      have HF := Lib.hid hF
      clear hF
      cases T with
      | error f =>
        obtain ⟨g1, g2⟩ := hP
        subst g2
        have hq2 : ((E2 : Int) != 0) = true := by
          have : E2 ≠ 0 := g1
          simp; omega
        have hq3 : ((E2 : Int) == 0) = false := by
          have : E2 ≠ 0 := g1
          simp; omega
        clear g1 HT
        go_wp2_with fail
        go_region
        all_goals go_wp2_with fail
        all_goals go_returns
        refine ⟨.slice none 0 0, rfl, (by repeat (first | exact More.refl _ | refine More.alloc ?_ _ | refine More.more ?_ _ | refine More.drew ?_ | refine More.drewN ?_ _)), .inl ⟨rfl, rfl⟩⟩
      | ok y =>
        obtain ⟨rfl, g2⟩ := hP
        have g3 : E2 = 0 := congrArg Flt.err g2
        subst g3
        clear g2 HT
        go_wp2_with fail
        go_returns
        refine ⟨.slice la fcs.length lc, ?_, (by repeat (first | exact More.refl _ | refine More.alloc ?_ _ | refine More.more ?_ _ | refine More.drew ?_ | refine More.drewN ?_ _)), ?_⟩
        · show _ = Ending.returned (.tuple #[_, plV2 0 0, _])
          rw [plV2_zero]
          rfl
        · exact fcs_far HF.out W.heap.size (zL_none _ _ (heap_zL _ _ _ _)) fun k h1 h2 => heap_under _ _ _ _ _ _ _ k h1 h2
  · rw [if_neg hE] at hT
    have hq : ((E : Int) != 0) = true := by simp; omega
    have hq3 : ((E : Int) == 0) = false := by simp; omega
    subst hT
    go_wp2_with fail
    go_returns
    exact ⟨.slice none 0 0, rfl, (by repeat (first | exact More.refl _ | refine More.alloc ?_ _ | refine More.more ?_ _ | refine More.drew ?_ | refine More.drewN ?_ _)), .inl ⟨rfl, rfl⟩⟩

end Go.Proofs.YtekhhekkepijoaaGreatDoor

