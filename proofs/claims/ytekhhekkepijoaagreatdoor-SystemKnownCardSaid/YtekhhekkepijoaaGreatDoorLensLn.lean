/-
  A lens is read: the loop over its lines.
-/
import Derived.Test.YtekhhekkepijoaaGreatDoorLensRd3
import Derived.Test.YtekhhekkepijoaaGreatDoorGlassRdW
import Derived.Deep.RegionHeld3
import Derived.Deep.AppendLies
import Derived.Maps.AppendAt
import Derived.RegionTactic
import Derived.OwnWalk
namespace Go.Proofs.YtekhhekkepijoaaGreatDoor
set_option linter.unusedVariables false
open Go.ChangeShapes Go.WideShapes Go.ChangeAt Go.RowKit

set_option maxHeartbeats 4000000 in
theorem bends_c (f : Fc) (W : World) : Calls Tryz.prog 57 #[fcV f] W fun e w' => e = .returned (.bool (!f.stop)) ∧ More W w' := by
  obtain ⟨fs, ⟨fr1, fr2⟩, ⟨fa1, fa2⟩, ⟨ft1, ft2⟩, ⟨fk1, fk2⟩, ⟨fp1, fp2⟩, ⟨fq1, fq2⟩, fg⟩ := f
  go_enter Tryz.func57, Tryz.ntmps57
  go_wp2_with fail
  go_returns
  exact ⟨rfl, (by repeat (first | exact More.refl _ | refine More.alloc ?_ _ | refine More.more ?_ _ | refine More.drew ?_ | refine More.drewN ?_ _))⟩

set_option maxHeartbeats 4000000 in
theorem indexF_c (v : Value) (l : List Fc) (W : World) (hv : Fcs W v l) (hl : l.length ≤ 1000000) :
    Calls Tryz.prog 82 #[v, .func (.func 57) #[] #[]] W fun e w' => (∃ z : Int, e = .returned (.int .i64 z) ∧ (decide (0 ≤ z) = l.any fun f => !f.stop) ∧ -1 ≤ z ∧ z ≤ 1000000) ∧ More W w' := by
  obtain ⟨ao, c, rfl, -⟩ := grow_form fcs_pos hv
  go_enter Tryz.func82, Tryz.ntmps82
  go_wp2_with fail
  go_loopw [8] (fun x wr => ∃ k : Nat, k ≤ l.length ∧ x = .int .i64 k ∧ (l.take k).all Fc.stop = true ∧ More W wr) (fun x _ => l.length - (intOf x).toNat)
  case atStart => exact ⟨0, by omega, rfl, rfl, (by repeat (first | exact More.refl _ | refine More.alloc ?_ _ | refine More.more ?_ _ | refine More.drew ?_ | refine More.drewN ?_ _))⟩
  case round =>
    obtain ⟨k, hk, rfl, ha, s, rfl⟩ := hrel
    have HA := Lib.hid ha
    clear ha
    by_cases hkl : k < l.length
    · obtain ⟨f, hf⟩ : ∃ f, l[k]? = some f := ⟨l[k], List.getElem?_eq_getElem hkl⟩
      obtain ⟨b, o, rfl, hb, hL, hL0⟩ := fcs_at hv hf
      have HF := Lib.hid hf
      clear hf hv
      obtain ⟨fs, ⟨fr1, fr2⟩, ⟨fa1, fa2⟩, ⟨ft1, ft2⟩, ⟨fk1, fk2⟩, ⟨fp1, fp2⟩, ⟨fq1, fq2⟩, fg⟩ := f
      cases fs with
      | false =>
        go_wp2_with (first | (go_at_fn 57; (refine Calls.mono (bends_c ⟨false, ⟨fr1, fr2⟩, ⟨fa1, fa2⟩, ⟨ft1, ft2⟩, ⟨fk1, fk2⟩, ⟨fp1, fp2⟩, ⟨fq1, fq2⟩, fg⟩ _) ?_); rintro e w' ⟨rfl, r, rfl⟩) | (go_at_call 57; (refine Calls.mono (bends_c ⟨false, ⟨fr1, fr2⟩, ⟨fa1, fa2⟩, ⟨ft1, ft2⟩, ⟨fk1, fk2⟩, ⟨fp1, fp2⟩, ⟨fq1, fq2⟩, fg⟩ _) ?_); rintro e w' ⟨rfl, r, rfl⟩))
        go_returns
        refine ⟨⟨(k : Int), rfl, ?_, by omega, by omega⟩, (by repeat (first | exact More.refl _ | refine More.alloc ?_ _ | refine More.more ?_ _ | refine More.drew ?_ | refine More.drewN ?_ _))⟩
        rw [List.any_eq_true.2 ⟨_, List.mem_of_getElem? HF.out, rfl⟩, decide_eq_true_iff]
        omega
      | true =>
        go_wp2_with (first | (go_at_fn 57; (refine Calls.mono (bends_c ⟨true, ⟨fr1, fr2⟩, ⟨fa1, fa2⟩, ⟨ft1, ft2⟩, ⟨fk1, fk2⟩, ⟨fp1, fp2⟩, ⟨fq1, fq2⟩, fg⟩ _) ?_); rintro e w' ⟨rfl, r, rfl⟩) | (go_at_call 57; (refine Calls.mono (bends_c ⟨true, ⟨fr1, fr2⟩, ⟨fa1, fa2⟩, ⟨ft1, ft2⟩, ⟨fk1, fk2⟩, ⟨fp1, fp2⟩, ⟨fq1, fq2⟩, fg⟩ _) ?_); rintro e w' ⟨rfl, r, rfl⟩))
        go_roundw
        case rel =>
          refine ⟨k + 1, by omega, rfl, ?_, (by repeat (first | exact More.refl _ | refine More.alloc ?_ _ | refine More.more ?_ _ | refine More.drew ?_ | refine More.drewN ?_ _))⟩
          rw [List.take_add_one, HF.out, List.all_append, HA.out]
          rfl
        case measure => simp [intOf] <;> omega
    · obtain rfl : k = l.length := by omega
      go_wp2_with fail
      go_returns
      refine ⟨⟨-1, rfl, ?_, by omega, by omega⟩, (by repeat (first | exact More.refl _ | refine More.alloc ?_ _ | refine More.more ?_ _ | refine More.drew ?_ | refine More.drewN ?_ _))⟩
      have h1 := HA.out
      rw [List.take_length] at h1
      have : (l.any fun f => !f.stop) = false := by
        rw [List.any_eq_false]
        intro f hf
        simp [List.all_eq_true.1 h1 f hf]
      rw [this]
      rfl

set_option maxHeartbeats 4000000 in
theorem any_c (v : Value) (l : List Fc) (W : World) (hv : Fcs W v l) (hl : l.length ≤ 1000000) :
    Calls Tryz.prog 56 #[v, .func (.func 57) #[] #[]] W fun e w' => e = .returned (.bool (l.any fun f => !f.stop)) ∧ More W w' := by
  obtain ⟨V, hV⟩ : ∃ V, (l.any fun f => !f.stop) = V := ⟨_, rfl⟩
  rw [hV]
  have HV := Lib.hid hV
  have HF := Lib.hid hv
  obtain ⟨ao, c, rfl, -⟩ := grow_form fcs_pos hv
  clear hV hv
  go_enter Tryz.func56, Tryz.ntmps56
  go_wp2_with fail
  go_at_call 82
  refine Calls.mono (indexF_c _ l W HF.out hl) ?_
  rintro e w' ⟨⟨z, rfl, hz, hz1, hz2⟩, r, rfl⟩
  rw [HV.out] at hz
  go_wp2_with fail
  go_returns
  exact ⟨by rw [← hz]; rfl, (by repeat (first | exact More.refl _ | refine More.alloc ?_ _ | refine More.more ?_ _ | refine More.drew ?_ | refine More.drewN ?_ _))⟩

/-! ### The loop over lines -/
theorem step_append_w {P : Program} {W2 w1 : World} {ops : Array Oper} {o : Oper} {a : Act} {K : Act → World → Prop} {Q : Exit → Act → World → Prop} {E : Prop}
    (hg : o.guard = none) (sl x : Operand) (t : TypeId) (hop : o.op = Op.call { callee := Callee.builtin Builtin.append, args := #[sl, x], argTypes := #[t, t] })
    (e : TypeId) (i : TypeInfo) (z : Value) (size bytes : Nat) (h1 : P.underlying t = some (.slice e)) (h2 : P.info? e = some i) (h3 : i.zero = some z) (h4 : i.size = size) (h5 : i.bytes = bytes) (h6 : z.cells.size = size) (h7 : 0 < size)
    (v : Value) (n : Nat) (xs : List Value) (base : Nat) (hb : base = W2.heap.size) (hs : a.eval sl = v) (hown : OwnW W2 w1 base e size v n xs)
    (news : List Value) (c b : Nat) (hx : a.eval x = .slice (some ⟨b, 0, none⟩) 1 c) (hbx : b = w1.heap.size) (hn : news.length = size) (h1c : ∀ u ∈ news, u.oneCell' = true)
    (b1 : n + 1 ≤ maxLen) (b2 : (n + 1) * bytes ≤ 140737488355328)
    (hK : ∀ g cap w', OwnW W2 w' base e size (.slice (some ⟨g, 0, none⟩) (n + 1) cap) (n + 1) (xs ++ news) → K (a.put o.dst (.slice (some ⟨g, 0, none⟩) (n + 1) cap)) w') :
    if Region.wanted o (yielded ops a.tmps) = true then Oper.wp P o a (w1.alloc (.cells news.toArray e)) K Q else E := by
  subst hb hbx
  obtain ⟨s, rfl, h⟩ := hown
  have hw := owns_alloc (o := .cells news.toArray e) (h W2 rfl)
  refine step_append_lies _ hg sl x t hop W2.heap.size e i z size bytes h1 h2 h3 h4 h5 h6 h7 v n xs hs hw ⟨_, 0, none⟩ 1 c news hx (by rw [hn, Nat.one_mul]) (new_row news rfl) h1c (by decide) b1 b2 (by simp; omega) _ rfl ?_
  intro g cap w' ho hgr _ _
  have hbl : Below W2.heap.size W2 w' := by
    have h0 : Below W2.heap.size W2 (more W2 s) := (More.more (More.refl W2) s).below
    exact (h0.alloc (by simp) _).grown hgr (by simp; omega) (fun g hg => (hw.lt g hg).1)
  obtain ⟨s', rfl⟩ := more_of_below hbl
  exact hK g cap _ ⟨s', rfl, OwnS.of rfl ho⟩

abbrev zL : Obj := .cells #[.string ⟨#[]⟩, .int .i64 0, .int .i64 0, .slice none 0 0] 28
abbrev lensO (nm : List UInt8) (bk : Dec) (lv : Value) : Obj := .cells #[.string (bsOf nm), .int .i64 bk.c, .int .i64 bk.s, lv] 28
/-- The reader, what lies behind it, the lens that is made. -/
abbrev lnG (X : World) (R : Rest) (nm : List UInt8) (bk : Dec) (v : Value) (σ : RdS) (lv : Value) : World := ((more (X.alloc (rdO v σ)) R).alloc zL).alloc (lensO nm bk lv)
theorem lnG_size (X : World) (R : Rest) (nm : List UInt8) (bk : Dec) (v : Value) (σ : RdS) (lv : Value) : (lnG X R nm bk v σ lv).heap.size = X.heap.size + R.len + 3 := by simp; omega
/-- How many lines may still be taken, at most. -/
def numOf : Option Value → Int
  | some (.int _ e) => e
  | _ => 1
def rowOf : Option Value → Nat
  | some u => lenOf u
  | none => 0
def loopM (X : World) (w : World) : Nat := if numOf (w.cell? ⟨X.heap.size, 2, none⟩) = 0 then 1 + rowOf (w.cell? ⟨X.heap.size, 0, none⟩) else 0
theorem loopM_at (X : World) (R s : Rest) (nm : List UInt8) (bk : Dec) (v : Value) (σ : RdS) (lv : Value) : loopM X (more (lnG X R nm bk v σ lv) s) = if σ.err = 0 then 1 + lenOf v else 0 := by
  have h : (more (lnG X R nm bk v σ lv) s).heap[X.heap.size]? = some (rdO v σ) := by
    rw [heap_more _ _ _ (by rw [lnG_size]; omega), Below.heap_alloc _ _ _ (by simp; omega), Below.heap_alloc _ _ _ (by simp; omega), heap_more _ _ _ (by simp), heap_alloc_new]
  have h2 : (more (lnG X R nm bk v σ lv) s).cell? ⟨X.heap.size, 2, none⟩ = some (.int .i64 σ.err) := by simp [World.cell?, h]
  have h0 : (more (lnG X R nm bk v σ lv) s).cell? ⟨X.heap.size, 0, none⟩ = some v := by simp [World.cell?, h]
  unfold loopM
  rw [h2, h0]
  simp only [numOf, rowOf, Int.natCast_eq_zero]
theorem ex_more {A W : World} {p : Rest → Prop} (h : More A W) (hp : ∀ s, p s) : ∃ s, W = more A s ∧ p s := by
  obtain ⟨s, rfl⟩ := h
  exact ⟨s, rfl, hp s⟩
theorem field_tok (t : Tk) (w : World) : (Instr.field 89 (tokV t) 1).run Tryz.prog w = .ok (.string (bsOf t.text)) w := by kernel_rfl
theorem loop_less {X : World} {R s s' : Rest} {nm : List UInt8} {bk : Dec} {v v' : Value} {σ σ' : RdS} {lv lv' : Value} (h : σ.err = 0) (h1 : σ'.err = 0 → lenOf v' < lenOf v) : loopM X (more (lnG X R nm bk v' σ' lv') s') < loopM X (more (lnG X R nm bk v σ lv) s) := by
  rw [loopM_at, loopM_at, if_pos h]
  split
  · rename_i h2
    have := h1 h2
    omega
  · omega
theorem row_len {α : Type} {f : α → List Value} {m : Nat} {w : World} {v : Value} {l : List α} (h : GRow f m w v l) : lenOf v = l.length := by
  rcases h with ⟨rfl, rfl⟩ | ⟨b, o, c, rfl, -, -⟩
  · rfl
  · rfl
theorem fail_z (e : Nat) (X : World) (v : Value) (σ : RdS) {W W' : World} {R : Rest} (hm : Moved (X.alloc (rdO v σ)) (X.alloc (rdO v (failS e 0 0 σ))) W W' R) :
    Calls Tryz.prog 58 #[.pointer (some ⟨X.heap.size, 0, none⟩), .int .i64 e, .complex .f64 0 0] W fun en w' => en = .returned (.tuple #[]) ∧ w' = W' := by
  have h := fail_m e 0 0 X v σ hm
  rwa [nw_zero] at h
def finL (nm : List UInt8) (bk : Dec) (l : List Fc) : Ex Ln := if l.all Fc.stop = true then .error ⟨0, 0, 1⟩ else .ok ⟨nm, bk, l⟩
/-- Where the loop stands. -/
def LoopAt (names : List (List UInt8)) (T : List Tk) (nm : List UInt8) (bk : Dec) (σ : RdS) (acc : List Fc) : Prop :=
  σ.err = 0 ∧ acc.length ≤ 12 ∧ σ.line = 0 ∧ σ.col = 0 ∧ (∃ n, σ.ts.length < n ∧ readToks names T = bnd (facesK names n σ.ts acc) (finL nm bk)) ∨ σ.err ≠ 0 ∧ readToks names T = .error (fl σ)
/-- What is read, told by a reader's end. -/
def LensPost (T : Ex Ln) (x : Ln) (σ' : RdS) : Prop :=
  match T with
  | .ok y => x = y ∧ fl σ' = ⟨0, 0, 0⟩
  | .error f => f.err ≠ 0 ∧ fl σ' = f
theorem LoopAt.next {names : List (List UInt8)} {T : List Tk} {nm : List UInt8} {bk : Dec} {σ : RdS} {acc : List Fc} (h : LoopAt names T nm bk σ acc) (he : σ.err = 0) (h0 : σ.ts ≠ []) (hf : Fine σ.ts) :
    acc.length ≤ 12 ∧ LoopAt names T nm bk (lineS names acc.length σ).2 (acc ++ [(lineS names acc.length σ).1]) ∧ ((lineS names acc.length σ).2.err = 0 → (lineS names acc.length σ).2.ts.length < σ.ts.length) := by
  rcases h with ⟨-, h12, hl, hc, n, hn, hr⟩ | ⟨h, -⟩
  · obtain ⟨m, rfl⟩ : ∃ m, n = m + 1 := ⟨n - 1, by omega⟩
    rcases lines_step names h12 he h0 hf (n := m) rfl with ⟨e1, e2, e3, e4, e5, e6⟩ | ⟨f, e1, e2, e3⟩
    · refine ⟨h12, .inl ⟨e1, by rw [List.length_append, List.length_singleton]; omega, e2.trans hl, e3.trans hc, m, by omega, ?_⟩, fun _ => e5⟩
      rw [e6]
      exact hr
    · have e4 : (lineS names acc.length σ).2.err ≠ 0 := by
        have : (lineS names acc.length σ).2.err = f.err := congrArg Flt.err e2
        omega
      refine ⟨h12, .inr ⟨e4, ?_⟩, fun h => absurd h e4⟩
      rw [hr, e3, e2]
      rfl
  · exact absurd he h
theorem LoopAt.done {names : List (List UInt8)} {T : List Tk} {nm : List UInt8} {bk : Dec} {σ : RdS} {acc : List Fc} (h : LoopAt names T nm bk σ acc) (h0 : σ.err = 0 → σ.ts = []) : LensPost (readToks names T) ⟨nm, bk, acc⟩ (doneS acc σ) := by
  rcases h with ⟨he, -, hl, hc, n, hn, hr⟩ | ⟨he, hr⟩
  · rw [h0 he] at hr hn
    obtain ⟨m, rfl⟩ : ∃ m, n = m + 1 := ⟨n - 1, by omega⟩
    rw [lines_none] at hr
    rw [hr]
    show LensPost (finL nm bk acc) _ _
    unfold finL doneS
    by_cases ha : acc.all Fc.stop = true
    · rw [if_pos ha, if_pos ha]
      exact ⟨(by decide : (1 : Nat) ≠ 0), fail_new he⟩
    · rw [if_neg ha, if_neg ha]
      refine ⟨rfl, ?_⟩
      unfold fl
      rw [hl, hc, he]
  · rw [hr]
    exact ⟨he, by
      unfold doneS
      split
      · exact (stk_fail 1 0 0 σ).fl he
      · rfl⟩
set_option maxHeartbeats 4000000 in
set_option maxRecDepth 100000 in
theorem lens_m (g : Value) (G : List Gl) (X : World) (v : Value) (σ : RdS) (R : Rest) (hg : Gls X g G) (hG : G.length ≤ 1000000) (he : σ.err = 0) (hlc : σ.line = 0 ∧ σ.col = 0) (hf : FineS σ) (hv : GRow tk3 3 X v σ.ts) :
    Calls Tryz.prog 22 #[.pointer (some ⟨X.heap.size, 0, none⟩), g] (more (X.alloc (rdO v σ)) R) fun en w' => ∃ v' σ' lv x, en = .returned (.agg #[.string (bsOf x.name), .int .i64 x.back.c, .int .i64 x.back.s, lv]) ∧ More (more (X.alloc (rdO v' σ')) R) w' ∧ Fcs w' lv x.faces ∧ LensPost (readToks (G.map Gl.name) σ.ts) x σ' := by
  obtain ⟨i0, hi, hz0, hz1, hz2⟩ := info_parts info_fs
  have hstart := sim_head (G.map Gl.name) he hf
  obtain ⟨⟨⟨kd0, tx0, L0, C0⟩, σ1⟩, e1⟩ : ∃ x, wordS [lensT] σ = x := ⟨_, rfl⟩
  obtain ⟨⟨⟨kd1, nm, L1, C1⟩, σ2⟩, e2⟩ : ∃ x, takeS 1 σ1 = x := ⟨_, rfl⟩
  obtain ⟨⟨⟨bc, bs⟩, σ3⟩, e3⟩ : ∃ x, posS σ2 = x := ⟨_, rfl⟩
  obtain ⟨⟨⟨kd3, tx3, L3, C3⟩, σ4⟩, e4⟩ : ∃ x, takeS 3 σ3 = x := ⟨_, rfl⟩
  have q1 : FineS σ1 := by have := hf.word (ws := [lensT]); rwa [e1] at this
  have q2 : FineS σ2 := by have := q1.take (k := 1) (by decide); rwa [e2] at this
  have q3 : FineS σ3 := by have := q2.pos; rwa [e3] at this
  have q4 : Fine σ4.ts := by have := q3.take3; rwa [e4] at this
  have hat : LoopAt (G.map Gl.name) σ.ts nm ⟨bc, bs⟩ σ4 [] := by
    unfold hS4 hS3 hS2 hS1 at hstart
    simp only [e1, e2, e3, e4] at hstart
    rcases hstart with ⟨g1, g2, g3, g4⟩ | ⟨f, g1, g2, g3⟩
    · exact .inl ⟨g1, by simp, g2.trans hlc.1, g3.trans hlc.2, _, Nat.lt_succ_self _, g4⟩
    · refine .inr ⟨?_, by rw [g3, g2]⟩
      have : σ4.err = f.err := congrArg Flt.err g2
      omega
  have hfield : ∀ w, (Instr.field 89 (tokV ⟨kd1, nm, L1, C1⟩) 1).run Tryz.prog w = .ok (.string (bsOf nm)) w := field_tok ⟨kd1, nm, L1, C1⟩
  obtain ⟨T, hT⟩ : ∃ T, readToks (G.map Gl.name) σ.ts = T := ⟨_, rfl⟩
  have HTT := Lib.hid hT
  have HAT := Lib.hid hat
  have H1 := Lib.hid e1
  have H2 := Lib.hid e2
  have H3 := Lib.hid e3
  have H4 := Lib.hid e4
  rw [hT]
  clear hstart e1 e2 e3 e4 hat hT hlc he
  go_enter Tryz.func22, Tryz.ntmps22
  go_wp2_with (first | ((with_reducible show Code.wp _ (Code.region 7 _ true) _ _ _); (with_reducible refine wp_more_tailq_m (id := 7) 11 ?_ ?_ ?_); kernel_rfl; kernel_rfl; (try simp only [List.take_succ_cons, List.take_zero, List.drop_succ_cons, List.drop_zero]); (repeat (any_goals (first | go_big_quiet_step (fail) | quiet_step (fail)))); (with_reducible refine wpQuiet_nil ?_); intro r) | ((with_reducible show Code.wp _ (Code.region 7 _ true) _ _ _); (with_reducible refine wp_more_tailq (id := 7) 11 ?_ ?_ ?_); kernel_rfl; kernel_rfl; (try simp only [List.take_succ_cons, List.take_zero, List.drop_succ_cons, List.drop_zero]); (repeat (any_goals (first | go_big_quiet_step (fail) | quiet_step (fail)))); (with_reducible refine wpQuiet_nil ?_); intro r))
  go_at_call 52
  refine Calls.mono (word_m [lensT] _ X v σ (by intro v'; (repeat (first | exact Moved.self | apply Moved.alloc | apply Moved.more | apply Moved.drew))) (by intro v'; (repeat (first | exact Moved.self | apply Moved.alloc | apply Moved.more | apply Moved.drew))) (fun v' => strs_new [lensT] (by simp [Nat.add_assoc]) _ rfl _ rfl) (by decide) hf hv) ?_
  rintro en w' ⟨rfl, v1, ⟨r1, rfl⟩, h1⟩
  rw [H1.out] at h1 ⊢
  dsimp only at h1 ⊢
  go_wp2_with fail
  go_at_call 53
  refine Calls.mono (take_m 1 X v1 σ1 (by intro v'; (repeat (first | exact Moved.self | apply Moved.alloc | apply Moved.more | apply Moved.drew))) q1 h1) ?_
  rintro en w' ⟨rfl, v2, ⟨r2, rfl⟩, h2⟩
  rw [H2.out] at h2 ⊢
  dsimp only at h2 ⊢
  go_wp2_with fail
  go_at_call 54
  refine Calls.mono (above_m X v2 σ2 (by intro v'; (repeat (first | exact Moved.self | apply Moved.alloc | apply Moved.more | apply Moved.drew))) q2 h2) ?_
  rintro en w' ⟨rfl, v3, ⟨r3, rfl⟩, h3⟩
  rw [H3.out] at h3 ⊢
  dsimp only at h3 ⊢
  go_wp2_with fail
  go_at_call 53
  refine Calls.mono (take_m 3 X v3 σ3 (by intro v'; (repeat (first | exact Moved.self | apply Moved.alloc | apply Moved.more | apply Moved.drew))) q3 h3) ?_
  rintro en w' ⟨rfl, v4, ⟨r4, rfl⟩, h4⟩
  rw [H4.out] at h4 ⊢
  dsimp only at h4 ⊢
  have HV4 := Lib.hid h4
  have HG := Lib.hid hg
  clear h1 h2 h3 h4 H1 H2 H3 H4 hv q1 q2 q3 hf
  go_wp2_with fail
  go_loopw [] (fun wr => ∃ (vv : Value) (τ : RdS) (ao : Option Addr) (c : Nat) (acc : List Fc) (s : Rest), wr = more (lnG X R nm ⟨bc, bs⟩ vv τ (.slice ao acc.length c)) s ∧ OwnS (X.heap.size + R.len + 3) s 56 14 (.slice ao acc.length c) acc.length (flatC cellsF acc) ∧ GRow tk3 3 X vv τ.ts ∧ Fine τ.ts ∧ acc.length ≤ 13 ∧ LoopAt (G.map Gl.name) σ.ts nm ⟨bc, bs⟩ τ acc) (fun wr => loopM X wr)
  case atStart =>
    exact ⟨v4, σ4, none, 0, [], ex_more (by repeat (first | exact More.refl _ | refine plus_more ?_ | refine More.alloc ?_ _ | refine More.more ?_ _ | refine More.drew ?_ | refine More.drewN ?_ _)) fun s => ⟨OwnS.nil _ _ _ _, HV4.out, q4, by simp, HAT.out⟩⟩
  case round =>
    obtain ⟨vv, τ, ao, c, acc, s, rfl, hS, hvv, hft, h13, hla⟩ := hrel
    have HS := Lib.hid hS
    have HLA := Lib.hid hla
    have HVV := Lib.hid hvv
    obtain ⟨ta, tc, rfl, -⟩ := grow_form (fun _ => by rw [tk3_len]; decide) hvv
    clear hS hla hvv q4
    have hrow : ∀ vv' τ', Fcs (more (lnG X R nm ⟨bc, bs⟩ vv' τ' (.slice ao acc.length c)) s) (.slice ao acc.length c) acc := fun vv' τ' => GRow.of_owns cellsF_len (by decide) (HS.out _ (lnG_size _ _ _ _ _ _ _))
    have HROW := Lib.hid hrow
    clear hrow
    have out : ∀ V : Bool, (acc.any fun f => !f.stop) = V → acc.all Fc.stop = !V := by
      intro V hV
      rw [← hV, List.any_eq_not_all_not, Bool.not_not]
      simp
    have HOUT := Lib.hid out
    clear out
    by_cases hgo : τ.err = 0 ∧ τ.ts ≠ []
    · obtain ⟨he, h0⟩ := hgo
      obtain ⟨h12, hnext, hless⟩ := HLA.out.next he h0 hft
      have hpos : 0 < τ.ts.length := List.length_pos_iff.2 h0
      have hq1 : ((τ.err : Int) == 0) = true := by rw [he]; rfl
      have hq2 : (0 : Int) < ((τ.ts.length : Nat) : Int) := by omega
      have hfs : FineS τ := ⟨h0, hft⟩
      obtain ⟨⟨F, τ1⟩, hF⟩ : ∃ x, lineS (G.map Gl.name) acc.length τ = x := ⟨_, rfl⟩
      rw [hF] at hnext hless
      dsimp only at hnext hless
      have hf1 : Fine τ1.ts := by have := fine_line (G.map Gl.name) acc.length hfs; rwa [hF] at this
      have HF := Lib.hid hF
      have HN := Lib.hid hnext
      have HL := Lib.hid hless
      have HE := Lib.hid he
      clear hF hnext hless he h0 hpos
      have b1 : acc.length + 1 ≤ maxLen := by simp only [maxLen]; omega
      have b2 : (acc.length + 1) * 120 ≤ 140737488355328 := by omega
      have hO : ∀ (v5 : Value) (τ5 : RdS) (r5 : Rest), OwnW (lnG X R nm ⟨bc, bs⟩ v5 τ5 (.slice ao acc.length c)) (more (lnG X R nm ⟨bc, bs⟩ v5 τ5 (.slice ao acc.length c)) ((s.draw 1).plus r5)) (X.heap.size + R.len + 3) 56 14 (.slice ao acc.length c) acc.length (flatC cellsF acc) := fun v5 τ5 r5 => ⟨_, rfl, HS.out.draw.plus⟩
      have HO := Lib.hid hO
      clear hO
      go_wp2_with fail
      go_region_law (first | ((with_reducible show (if Region.wanted { dst := some 40, op := _, type := _, pos := _, after := _, guard := _ } _ = true then _ else _)); refine step_append_w (W2 := (((more (X.alloc (rdO v5 τ1)) R).alloc zL).alloc (.cells #[.string (bsOf nm), .int .i64 bc, .int .i64 bs, .slice ao acc.length c] 28))) rfl (.tmp 32) (.tmp 39) 26 rfl 56 i0 _ 14 120 und_fs hi hz0 hz1 hz2 rfl (by decide) (.slice ao acc.length c) acc.length (flatC cellsF acc) (X.heap.size + R.len + 3) (lnG_size X R nm ⟨bc, bs⟩ v5 τ1 (.slice ao acc.length c)).symm rfl (HO.out v5 τ1 r5) (cellsF F) 1 _ rfl (by simp [Nat.add_assoc]) rfl (cellsF_one _) b1 b2 ?_; rintro g6 c6 w6 ⟨s6, rfl, h6⟩) | (go_simp; go_at_call 55; (refine Calls.mono (line_m acc.length g G X _ τ (by intro v'; (repeat (first | exact Moved.self | apply Moved.alloc | apply Moved.more | apply Moved.drew))) hg hG hfs HVV.out) ?_); rintro en w' ⟨rfl, v5, ⟨r5, rfl⟩, h5⟩; rw [HF.out] at h5 ⊢; dsimp only at h5 ⊢))
      all_goals
        go_wp2_with fail
        go_roundw
        case rel => exact ⟨v5, τ1, some ⟨g6, 0, none⟩, c6, acc ++ [F], s6, by rw [List.length_append]; rfl, by rw [List.length_append, flatC_snoc]; exact h6, h5, hf1, by rw [List.length_append, List.length_singleton]; omega, HN.out⟩
        case measure => exact loop_less (X := X) (R := R) (s := s) (s' := s6) (nm := nm) (bk := ⟨bc, bs⟩) (v := .slice ta τ.ts.length tc) (v' := v5) (σ := τ) (σ' := τ1) (lv := .slice ao acc.length c) (lv' := .slice (some ⟨g6, 0, none⟩) (acc.length + 1) c6) HE.out (fun h => by rw [row_len h5, row_len HVV.out]; exact HL.out h)
    · have hdone := HLA.out.done (fun h => Classical.byContradiction fun h2 => hgo ⟨h, h2⟩)
      rw [HTT.out] at hdone
      have HD := Lib.hid hdone
      have hq : ((τ.err : Int) == 0) = true ∧ ¬ (0 : Int) < ((τ.ts.length : Nat) : Int) ∨ ((τ.err : Int) == 0) = false := by
        by_cases he : τ.err = 0
        · left
          refine ⟨by rw [he]; rfl, ?_⟩
          have : τ.ts = [] := Classical.byContradiction fun h2 => hgo ⟨he, h2⟩
          rw [this]
          simp
        · right
          simp; omega
      clear hdone hgo
      obtain ⟨V, hV⟩ : ∃ V, (acc.any fun f => !f.stop) = V := ⟨_, rfl⟩
      have hall := HOUT.out V hV
      have HV := Lib.hid hV
      clear hV
      cases V with
      | true =>
        have hd : doneS acc τ = τ := by
          unfold doneS
          rw [if_neg (by rw [hall]; simp)]
        have HDN := Lib.hid hd
        clear hd hall
        rcases hq with ⟨hq1, hq2⟩ | hq1
        all_goals
          go_wp2_with (first | (go_at_call 56; (refine Calls.mono (any_c _ acc _ (HROW.out _ _) (by omega)) ?_); rintro e w' ⟨rfl, r9, rfl⟩; rw [HV.out]))
          go_returns
          refine ⟨.slice ta τ.ts.length tc, doneS acc τ, .slice ao acc.length c, ⟨nm, ⟨bc, bs⟩, acc⟩, rfl, ?_, ?_, HD.out⟩
          · rw [HDN.out]
            exact (by repeat (first | exact More.refl _ | refine plus_more ?_ | refine More.alloc ?_ _ | refine More.more ?_ _ | refine More.drew ?_ | refine More.drewN ?_ _))
          · exact GRow.of_owns cellsF_len (by decide) (HS.out.plus _ (by simp; omega))
      | false =>
        have hd : doneS acc τ = failS 1 0 0 τ := by
          unfold doneS
          rw [if_pos (by rw [hall]; rfl)]
        have HDN := Lib.hid hd
        clear hd hall
        rcases hq with ⟨hq1, hq2⟩ | hq1
        all_goals
          go_wp2_with (first | (go_at_call 56; (refine Calls.mono (any_c _ acc _ (HROW.out _ _) (by omega)) ?_); rintro e w' ⟨rfl, r9, rfl⟩; rw [HV.out]) | (go_at_call 58; (refine Calls.mono (fail_z 1 X (.slice ta τ.ts.length tc) τ (by (repeat (first | exact Moved.self | apply Moved.alloc | apply Moved.more | apply Moved.drew)))) ?_); rintro e w' ⟨rfl, rfl⟩))
          go_returns
          refine ⟨.slice ta τ.ts.length tc, doneS acc τ, .slice ao acc.length c, ⟨nm, ⟨bc, bs⟩, acc⟩, rfl, ?_, ?_, HD.out⟩
          · rw [HDN.out]
            exact (by repeat (first | exact More.refl _ | refine plus_more ?_ | refine More.alloc ?_ _ | refine More.more ?_ _ | refine More.drew ?_ | refine More.drewN ?_ _))
          · exact GRow.of_owns cellsF_len (by decide) (HS.out.plus _ (by simp; omega))

end Go.Proofs.YtekhhekkepijoaaGreatDoor

