/-
  A lens's text: a line of words, a face's words.
-/
import Derived.Test.YtekhhekkepijoaaGreatDoorLensRd3
import Derived.Test.YtekhhekkepijoaaGreatDoorPrint
import Derived.Test.YtekhhekkepijoaaGreatDoorGf
import Derived.Test.YtekhhekkepijoaaGreatDoorGa
import Derived.Test.YtekhhekkepijoaaGreatDoorShelf
namespace Go.Proofs.YtekhhekkepijoaaGreatDoor
set_option linter.unusedVariables false
open Go.ChangeShapes Go.WideShapes Go.ChangeAt Go.RowKit

/-- Words with one blank between. -/
def joinT (ws : List (List UInt8)) : List UInt8 := Lib.join ws [32]
theorem und_str : Tryz.prog.underlying 124 = some (.slice 9) := by kernel_rfl
theorem info_str : (Tryz.prog.info? 9).map (fun i => (i.zero, i.size, i.bytes)) = some (some (.string ⟨#[]⟩), 1, 16) := by kernel_rfl
theorem str1_one (s : List UInt8) : ∀ u ∈ str1 s, u.oneCell' = true := by
  intro u hu
  simp only [str1, List.mem_cons, List.not_mem_nil, or_false] at hu
  subst hu
  rfl
theorem join_bs (ws : List (List UInt8)) : (ws.map bsOf).map (·.data.toList) = ws := by
  rw [List.map_map]
  conv => rhs; rw [← List.map_id ws]
  refine List.map_congr_left fun s _ => ?_
  simp [bsOf]

set_option maxHeartbeats 4000000 in
theorem join_c (ws : List (List UInt8)) (u : Value) (W : World) (hu : Strs W u ws) (h0 : 0 < ws.length) (hl : ws.length ≤ 1000) (hj : (joinT ws).length ≤ 1000000) :
    Calls Tryz.prog 101 #[u, .string ⟨#[32]⟩] W fun e w' => e = .returned (.string (bsOf (joinT ws))) ∧ More W w' := by
  rcases hu with ⟨-, rfl⟩ | ⟨b, o, c, rfl, hcap, hc⟩
  · simp at h0
  · have hb : b < W.heap.size := by
      obtain ⟨s, hs⟩ : ∃ s, ws[0]? = some s := ⟨ws[0], List.getElem?_eq_getElem h0⟩
      exact World.block_lt_of_cell? W _ (hc 0 s hs 0 _ rfl)
    have h := Tryz.strings_Join b o c (ws.map bsOf) ⟨#[32]⟩ W (fun j x hj => by
      rw [List.getElem?_map] at hj
      cases hw : ws[j]? with
      | none => rw [hw] at hj; cases hj
      | some s =>
        rw [hw] at hj
        cases hj
        have := hc j s hw 0 _ rfl
        simpa using this) hb (by rw [List.length_map]; omega) (by rw [List.length_map]; exact hcap) (by
          rw [join_bs]
          exact Nat.le_trans hj (by decide))
    rw [List.length_map] at h
    refine h.mono ?_
    rintro e w' ⟨rfl, hbl⟩
    rw [join_bs]
    exact ⟨rfl, more_of_below hbl⟩

set_option maxHeartbeats 4000000 in
theorem lline_c (ws : List (List UInt8)) (u : Value) (W : World) (hu : Strs W u ws) (h0 : 0 < ws.length) (hl : ws.length ≤ 1000) (hj : (joinT ws).length ≤ 1000000) :
    Calls Tryz.prog 83 #[u] W fun e w' => e = .returned (.string (bsOf (joinT ws ++ [10]))) ∧ More W w' := by
  have hj2 : ¬ 9223372036854775807 < (joinT ws).length + 1 := by omega
  go_enter Tryz.func83, Tryz.ntmps83
  go_wp2_with (first | (go_at_call 101; (refine Calls.mono (join_c ws u W hu h0 hl hj) ?_); rintro e w' ⟨rfl, r, rfl⟩))
  go_returns
  exact ⟨rfl, (by repeat (first | exact More.refl _ | refine More.alloc ?_ _ | refine More.more ?_ _ | refine More.drew ?_ | refine More.drewN ?_ _))⟩

theorem Tab.up {w w' : World} (hm : More w w') (h : Tab w) : Tab w' := by
  obtain ⟨r, rfl⟩ := hm
  exact h.more
/-- A term's words: none of a 0. -/
def trmP (w : List UInt8) (d : Dec) : List (List UInt8) := if d.c = 0 then [] else [w, printP d]

set_option maxHeartbeats 4000000 in
set_option maxRecDepth 100000 in
theorem lterm_c (wd : List UInt8) (d : Dec) (W : World) (ht : Tab W) :
    Calls Tryz.prog 104 #[.string (bsOf wd), decV d] W fun e w' => ∃ v', e = .returned v' ∧ More W w' ∧ Strs w' v' (trmP wd d) ∧ (trmP wd d = [] → v' = .slice none 0 0) ∧ ∀ b o c, v' = .slice (some ⟨b, o, none⟩) (trmP wd d).length c → o = 0 := by
  obtain ⟨c, s⟩ := d
  by_cases hc : c = 0
  · have hq : (c == 0) = true := by simpa using hc
    have e1 : trmP wd ⟨c, s⟩ = [] := by unfold trmP; rw [if_pos hc]
    rw [e1]
    clear e1 hc
    go_enter Tryz.func104, Tryz.ntmps104
    go_wp2_with (first | (go_at_call 84; (with_reducible refine Calls.mono (print_c _ _ (by (repeat (first | assumption | with_reducible apply Tab.more | with_reducible apply Tab.alloc | with_reducible apply Tab.drew | with_reducible apply Tab.drewN)))) ?_); rintro e w' ⟨rfl, r, rfl⟩) | (go_at_call 84; (with_reducible refine Calls.mono (print_c _ ⟨_, _⟩ (by (repeat (first | assumption | with_reducible apply Tab.more | with_reducible apply Tab.alloc | with_reducible apply Tab.drew | with_reducible apply Tab.drewN)))) ?_); rintro e w' ⟨rfl, r, rfl⟩))
    go_returns
    exact ⟨_, rfl, (by repeat (first | exact More.refl _ | refine More.alloc ?_ _ | refine More.more ?_ _ | refine More.drew ?_ | refine More.drewN ?_ _)), .inl ⟨rfl, rfl⟩, fun _ => rfl, fun b o c h => by cases h⟩
  · have hq : (c == 0) = false := by simpa using hc
    have e1 : trmP wd ⟨c, s⟩ = [wd, printP ⟨c, s⟩] := by unfold trmP; rw [if_neg hc]
    rw [e1]
    clear e1 hc
    go_enter Tryz.func104, Tryz.ntmps104
    go_wp2_with (first | (go_at_call 84; (refine Calls.mono (print_c _ ⟨c, s⟩ (Tab.alloc ht)) ?_); rintro e w' ⟨rfl, r, rfl⟩))
    go_returns
    refine ⟨_, rfl, (by repeat (first | exact More.refl _ | refine More.alloc ?_ _ | refine More.more ?_ _ | refine More.drew ?_ | refine More.drewN ?_ _)), ?_, fun h => (by cases h), fun b o c h => (by cases h; rfl)⟩
    exact strs_new [wd, printP ⟨c, s⟩] (by first | (simp; done) | (simp; omega)) _ rfl _ rfl

/-- A face's words, as the program has them. -/
def toksP (f : Fc) : List (List UInt8) := [faceT, printP f.radius, printP f.aperture, printP f.thick, f.glass] ++ trmP conicT f.conic ++ trmP a4T f.a4 ++ trmP a6T f.a6
theorem trm_cases (w : List UInt8) (d : Dec) : trmP w d = [] ∨ trmP w d = [w, printP d] := by
  unfold trmP
  split
  · exact .inl rfl
  · exact .inr rfl

/-- 'append' of some words, on a row of the call's own. -/
theorem wpList_append_strs {P : Program} {W2 w1 : World} {ops : Array Oper} {rest : List Oper} {o : Oper} {a : Act} {Q : Exit → Act → World → Prop}
    (hg : o.guard = none) (sl x : Operand) (t : TypeId) (hop : o.op = Op.call { callee := Callee.builtin Builtin.append, args := #[sl, x], argTypes := #[t, t] })
    (e : TypeId) (i : TypeInfo) (z : Value) (bytes : Nat) (h1 : P.underlying t = some (.slice e)) (h2 : P.info? e = some i) (h3 : i.zero = some z) (h4 : i.size = 1) (h5 : i.bytes = bytes) (h6 : z.cells.size = 1)
    (v : Value) (n : Nat) (xs : List Value) (base : Nat) (hb : base = W2.heap.size) (hs : a.eval sl = v) (hown : OwnW W2 w1 base e 1 v n xs)
    (ws : List (List UInt8)) (b c m : Nat) (hx : a.eval x = .slice (some ⟨b, 0, none⟩) m c) (hm : m = ws.length) (h0 : 0 < m) (hst : Strs w1 (.slice (some ⟨b, 0, none⟩) m c) ws)
    (b1 : n + m ≤ maxLen) (b2 : (n + m) * bytes ≤ 140737488355328)
    (hK : ∀ v' w', OwnW W2 w' base e 1 v' (n + m) (xs ++ flatC str1 ws) → wpList P ops Q rest (a.put o.dst v') w') :
    wpList P ops Q (o :: rest) a w1 := by
  subst hb hm
  obtain ⟨s, rfl, h⟩ := hown
  have hw := h W2 rfl
  refine wpList_append_row _ hg sl x t hop W2.heap.size e i z 1 bytes h1 h2 h3 h4 h5 h6 (by decide) v n xs hs hw ⟨b, 0, none⟩ ws.length c (flatC str1 ws) hx (flatC_length str1 1 str1_len ws) (fun j u hj => ?_) (fun u hu => ?_) h0 b1 b2 (by simp) ?_
  · have hlen := flatC_length str1 1 str1_len ws
    have hj' : j < ws.length := by
      have := (List.getElem?_eq_some_iff.1 hj).1
      omega
    obtain ⟨a', ha'⟩ : ∃ a', ws[j]? = some a' := ⟨ws[j], List.getElem?_eq_getElem hj'⟩
    have h9 := flatC_at str1 1 str1_len ws j a' ha' 0 _ rfl
    simp only [Nat.mul_one, Nat.add_zero] at h9
    rw [hj] at h9
    cases h9
    rcases hst with ⟨hv, -⟩ | ⟨b', o', c', hv, -, hc⟩
    · cases hv
    · cases hv
      have := hc j a' ha' 0 _ rfl
      rw [Addr.add_lit]
      simpa using this
  · unfold flatC at hu
    obtain ⟨s', -, hs'⟩ := List.mem_flatMap.1 hu
    exact str1_one s' u hs'
  intro v' w' ho hgr _
  have hbl : Below W2.heap.size W2 w' := by
    have h0 : Below W2.heap.size W2 (more W2 s) := (More.more (More.refl W2) s).below
    exact h0.grown hgr (by simp) (fun g hg => (hw.lt g hg).1)
  obtain ⟨s', rfl⟩ := more_of_below hbl
  exact hK v' _ ⟨s', rfl, OwnS.of rfl ho⟩

theorem flatC_app {α : Type} (f : α → List Value) (a b : List α) : flatC f (a ++ b) = flatC f a ++ flatC f b := by simp [flatC]
theorem run_append_none {P : Program} {w : World} (t ty : TypeId) (base : Nat) (e : TypeId) (i : TypeInfo) (h1 : P.underlying t = some (.slice e)) (h2 : P.info? e = some i) {v : Value} {n : Nat} {xs : List Value} (hown : w.ownsRow base e 1 v n xs) :
    (Builtin.append_ #[t, t] ty #[v, .slice none 0 0]).run P w = .ok v w := by
  rcases hown.2 with ⟨rfl, rfl⟩ | ⟨g, cap, cur, rfl, _, _, hnc, _⟩
  · simp [Builtin.append_, run_underlying h1, sizeOf, typeInfo, h2, Builtin.lenOf, Builtin.firstCells]
  · simp [Builtin.append_, run_underlying h1, sizeOf, typeInfo, h2, Builtin.lenOf, Builtin.firstCells, hnc, storeCells]
/-- 'append' of some words or none. -/
theorem wpList_append_words {P : Program} {W2 w1 : World} {ops : Array Oper} {rest : List Oper} {o : Oper} {a : Act} {Q : Exit → Act → World → Prop}
    (hg : o.guard = none) (sl x : Operand) (t : TypeId) (hop : o.op = Op.call { callee := Callee.builtin Builtin.append, args := #[sl, x], argTypes := #[t, t] })
    (e : TypeId) (i : TypeInfo) (z : Value) (bytes : Nat) (h1 : P.underlying t = some (.slice e)) (h2 : P.info? e = some i) (h3 : i.zero = some z) (h4 : i.size = 1) (h5 : i.bytes = bytes) (h6 : z.cells.size = 1)
    (v : Value) (n : Nat) (xs : List Value) (base : Nat) (hb : base = W2.heap.size) (hs : a.eval sl = v) (hown : OwnW W2 w1 base e 1 v n xs)
    (ws : List (List UInt8)) (u : Value) (hx : a.eval x = u) (hst : Strs w1 u ws) (hnil : ws = [] → u = .slice none 0 0) (h00 : ∀ b o c, u = .slice (some ⟨b, o, none⟩) ws.length c → o = 0)
    (b1 : n + ws.length ≤ maxLen) (b2 : (n + ws.length) * bytes ≤ 140737488355328)
    (hK : ∀ v' w', OwnW W2 w' base e 1 v' (n + ws.length) (xs ++ flatC str1 ws) → wpList P ops Q rest (a.put o.dst v') w') :
    wpList P ops Q (o :: rest) a w1 := by
  by_cases hw : ws = []
  · have hu := hnil hw
    subst hw hu
    have hr : ∀ ty, (Builtin.append_ #[t, t] ty #[v, .slice none 0 0]).run P w1 = .ok v w1 := by
      obtain ⟨s, rfl, h⟩ := hown
      exact fun ty => run_append_none t ty base e i h1 h2 (h W2 hb.symm)
    refine wpList_plain hg fun K hK' => ?_
    unfold Oper.wp execOp
    simp only [hop, resolve, invoke, builtin, Sem.run_bind, Sem.run_pure, Result.andThen_ok, List.map_toArray, List.map_cons, List.map_nil, hs, hx, hr]
    exact hK' _ _ (hK v w1 (by simpa [flatC] using hown))
  · have hpos : 0 < ws.length := List.length_pos_iff.2 hw
    rcases id hst with ⟨-, h⟩ | ⟨b, o', c, rfl, -, -⟩
    · exact absurd h hw
    · obtain rfl := h00 b o' c rfl
      exact wpList_append_strs hg sl x t hop e i z bytes h1 h2 h3 h4 h5 h6 v n xs base hb hs hown ws b c ws.length hx rfl hpos hst b1 b2 hK

/-- A new block that holds these words, not below B. -/
def RowAt (B : Nat) (ws : List (List UInt8)) (u : Value) (w : World) : Prop := ∃ b, B ≤ b ∧ u = .slice (some ⟨b, 0, none⟩) ws.length ws.length ∧ w.heap[b]? = some (.cells (flatC str1 ws).toArray 9 (0, 0))
theorem RowAt.up {B : Nat} {ws : List (List UInt8)} : ∀ u w w', More w w' → RowAt B ws u w → RowAt B ws u w' := by
  rintro u w w' ⟨r, rfl⟩ ⟨b, hB, rfl, h⟩
  exact ⟨b, hB, rfl, (heap_more w r b (Array.getElem?_eq_some_iff.1 h).1).trans h⟩
theorem RowAt.new {B : Nat} {ws : List (List UInt8)} {w : World} {b n : Nat} (hB : B ≤ w.heap.size) (hb : b = w.heap.size) (xs : Array Value) (hx : xs = (flatC str1 ws).toArray) (hn : n = ws.length) : RowAt B ws (.slice (some ⟨b, 0, none⟩) n n) (w.alloc (.cells xs 9)) := by
  subst hx hn hb
  exact ⟨_, hB, rfl, heap_alloc_new _ _⟩
theorem RowAt.own {B : Nat} {ws : List (List UInt8)} {u : Value} {w : World} (h : RowAt B ws u w) (hl : ws.length ≤ 1000) : w.ownsRow B 9 1 u ws.length (flatC str1 ws) := by
  obtain ⟨b, hB, rfl, h⟩ := h
  have e := flatC_length str1 1 str1_len ws
  refine ⟨e, .inr ⟨b, ws.length, _, rfl, hB, h, Nat.le_refl _, by simp only [maxLen]; omega, by simp [e], ?_⟩⟩
  rw [Nat.mul_one, List.take_of_length_le (by simp; omega)]

set_option maxHeartbeats 600000 in
set_option maxRecDepth 100000 in
theorem tokensOf_c (f : Fc) (W : World) (ht : Tab W) :
    Calls Tryz.prog 85 #[fcV f] W fun e w' => ∃ v', e = .returned v' ∧ More W w' ∧ Strs w' v' (toksP f) := by
  obtain ⟨i0, hi, hz0, hz1, hz2⟩ := info_parts info_str
  obtain ⟨fs, ⟨fr1, fr2⟩, ⟨fa1, fa2⟩, ⟨ft1, ft2⟩, ⟨fk1, fk2⟩, ⟨fp1, fp2⟩, ⟨fq1, fq2⟩, fg⟩ := f
  have hT : ∀ (o : Obj) (r : Rest), Tab (more (W.alloc o) r) := fun o r => Tab.more (Tab.alloc ht)
  have HT := Lib.hid hT
  clear hT
  go_enter Tryz.func85, Tryz.ntmps85
  go_wp2_with fail
  (first | (with_reducible refine wp_more_loose_tail_m (id := 1) 12 ?_ ?_ ?_ ?_ ?_) | (refine wp_more_loose_tail (id := 1) 12 ?_ ?_ ?_ ?_ ?_))
  · kernel_rfl
  · kernel_rfl
  · kernel_rfl
  · kernel_rfl
  simp only [List.take_succ_cons, List.take_zero, List.drop_succ_cons, List.drop_zero]
  (repeat (first | (refine loose_make 15 (RowAt (W.heap.size + 1) [faceT, printP ⟨fr1, fr2⟩, printP ⟨fa1, fa2⟩, printP ⟨ft1, ft2⟩, fg]) rfl rfl (by simp) rfl (RowAt.up) (fun r => ?_) ?_; (go_simp; exact ⟨More.alloc (More.refl _) _, RowAt.new (by first | (simp; done) | (simp; omega)) (by first | (simp; done) | (simp; omega)) _ rfl rfl⟩)) | (refine loose_step rfl (fun K9 hK9 => ?_); go_simp; first | (refine hK9 _ ?_; clear hK9 K9) | (apply Exists.intro; refine ⟨fun _ => ?_, hK9 _ ?_⟩; ((first | (go_at_call 84; with_reducible exact print_c _ ⟨fr1, fr2⟩ (HT.out _ _)) | (go_at_call 84; with_reducible exact print_c _ ⟨fa1, fa2⟩ (HT.out _ _)) | (go_at_call 84; with_reducible exact print_c _ ⟨ft1, ft2⟩ (HT.out _ _)) | (go_at_call 84; with_reducible exact print_c _ _ (by (repeat (first | assumption | with_reducible apply Tab.more | with_reducible apply Tab.alloc | with_reducible apply Tab.drew | with_reducible apply Tab.drewN)))) | (go_at_call 84; with_reducible exact print_c _ ⟨_, _⟩ (by (repeat (first | assumption | with_reducible apply Tab.more | with_reducible apply Tab.alloc | with_reducible apply Tab.drew | with_reducible apply Tab.drewN)))))); clear hK9 K9))))
  intro r
  simp only [allFits]
  intro u hu
  have HOW : ∀ s : Rest, OwnW (W.alloc (.cells #[.bool fs, .int .i64 fr1, .int .i64 fr2, .int .i64 fa1, .int .i64 fa2, .int .i64 ft1, .int .i64 ft2, .int .i64 fk1, .int .i64 fk2, .int .i64 fp1, .int .i64 fp2, .int .i64 fq1, .int .i64 fq2, .string (bsOf fg)] 56)) (more (W.alloc (.cells #[.bool fs, .int .i64 fr1, .int .i64 fr2, .int .i64 fa1, .int .i64 fa2, .int .i64 ft1, .int .i64 ft2, .int .i64 fk1, .int .i64 fk2, .int .i64 fp1, .int .i64 fp2, .int .i64 fq1, .int .i64 fq2, .string (bsOf fg)] 56)) (r.plus s)) (W.heap.size + 1) 9 1 u 5 (flatC str1 [faceT, printP ⟨fr1, fr2⟩, printP ⟨fa1, fa2⟩, printP ⟨ft1, ft2⟩, fg]) := by
    intro s
    exact ⟨_, rfl, (OwnS.of (by simp) (hu.own (by show 5 ≤ 1000; decide))).plus⟩
  obtain ⟨ub, -, rfl, -⟩ := hu
  have key : ∀ (wd : List UInt8) (d : Dec) (s : ByteArray), s = bsOf wd → ∀ W1, Tab W1 → Calls Tryz.prog 104 #[.string s, decV d] W1 fun e w' => ∃ v', e = .returned v' ∧ More W1 w' ∧ Strs w' v' (trmP wd d) ∧ (trmP wd d = [] → v' = .slice none 0 0) ∧ ∀ b o c, v' = .slice (some ⟨b, o, none⟩) (trmP wd d).length c → o = 0 := by
    rintro wd d s rfl W1 h
    exact lterm_c wd d W1 h
  have t1 := key conicT ⟨fk1, fk2⟩ ⟨#[99, 111, 110, 105, 99]⟩ rfl
  have z1 : (trmP conicT ⟨fk1, fk2⟩).length ≤ 2 := by rcases trm_cases conicT ⟨fk1, fk2⟩ with h | h <;> rw [h] <;> simp
  have t2 := key a4T ⟨fp1, fp2⟩ ⟨#[97, 52]⟩ rfl
  have z2 : (trmP a4T ⟨fp1, fp2⟩).length ≤ 2 := by rcases trm_cases a4T ⟨fp1, fp2⟩ with h | h <;> rw [h] <;> simp
  have t3 := key a6T ⟨fq1, fq2⟩ ⟨#[97, 54]⟩ rfl
  have z3 : (trmP a6T ⟨fq1, fq2⟩).length ≤ 2 := by rcases trm_cases a6T ⟨fq1, fq2⟩ with h | h <;> rw [h] <;> simp
  clear key
  have T1 := Lib.hid t1
  have T2 := Lib.hid t2
  have T3 := Lib.hid t3
  clear t1 t2 t3
  obtain ⟨L1, hL1⟩ : ∃ L, trmP conicT ⟨fk1, fk2⟩ = L := ⟨_, rfl⟩
  obtain ⟨L2, hL2⟩ : ∃ L, trmP a4T ⟨fp1, fp2⟩ = L := ⟨_, rfl⟩
  obtain ⟨L3, hL3⟩ : ∃ L, trmP a6T ⟨fq1, fq2⟩ = L := ⟨_, rfl⟩
  rw [hL1] at z1 T1
  rw [hL2] at z2 T2
  rw [hL3] at z3 T3
  have hfin : toksP ⟨fs, ⟨fr1, fr2⟩, ⟨fa1, fa2⟩, ⟨ft1, ft2⟩, ⟨fk1, fk2⟩, ⟨fp1, fp2⟩, ⟨fq1, fq2⟩, fg⟩ = [faceT, printP ⟨fr1, fr2⟩, printP ⟨fa1, fa2⟩, printP ⟨ft1, ft2⟩, fg] ++ L1 ++ L2 ++ L3 := by
    unfold toksP
    rw [hL1, hL2, hL3]
  have HFIN := Lib.hid hfin
  have HO0 := Lib.hid HOW
  clear hfin hL1 hL2 hL3 HOW
  obtain ⟨xs0, hxs0⟩ : ∃ xs, flatC str1 [faceT, printP ⟨fr1, fr2⟩, printP ⟨fa1, fa2⟩, printP ⟨ft1, ft2⟩, fg] = xs := ⟨_, rfl⟩
  rw [hxs0] at HO0
  have HX := Lib.hid hxs0
  clear hxs0
  go_wp2_with (first
    | (go_at_call 104; (with_reducible refine Calls.mono (T1.out _ (HT.out _ _)) ?_); rintro e w' ⟨u1, rfl, ⟨r1, rfl⟩, hs1, hn1, ho1⟩; rw [more_more] at hs1)
    | (at_builtin; refine wpList_append_words (W2 := (W.alloc (.cells #[.bool fs, .int .i64 fr1, .int .i64 fr2, .int .i64 fa1, .int .i64 fa2, .int .i64 ft1, .int .i64 ft2, .int .i64 fk1, .int .i64 fk2, .int .i64 fp1, .int .i64 fp2, .int .i64 fq1, .int .i64 fq2, .string (bsOf fg)] 56))) rfl (.tmp 16) (.tmp 19) 124 rfl 9 i0 _ 16 und_str hi hz0 hz1 hz2 rfl _ 5 xs0 (W.heap.size + 1) (by simp) rfl (HO0.out _) L1 u1 rfl hs1 hn1 ho1 (by simp only [maxLen]; omega) (by omega) ?_; rintro v1' w1' ⟨s1, rfl, hown1⟩))
  go_wp2_with (first
    | (go_at_call 104; (with_reducible refine Calls.mono (T2.out _ (HT.out _ _)) ?_); rintro e w' ⟨u2, rfl, ⟨r2, rfl⟩, hs2, hn2, ho2⟩; rw [more_more] at hs2)
    | (at_builtin; refine wpList_append_words (W2 := (W.alloc (.cells #[.bool fs, .int .i64 fr1, .int .i64 fr2, .int .i64 fa1, .int .i64 fa2, .int .i64 ft1, .int .i64 ft2, .int .i64 fk1, .int .i64 fk2, .int .i64 fp1, .int .i64 fp2, .int .i64 fq1, .int .i64 fq2, .string (bsOf fg)] 56))) rfl (.tmp 21) (.tmp 24) 124 rfl 9 i0 _ 16 und_str hi hz0 hz1 hz2 rfl _ (5 + L1.length) (xs0 ++ flatC str1 L1) (W.heap.size + 1) (by simp) rfl ⟨_, rfl, hown1.plus⟩ L2 u2 rfl hs2 hn2 ho2 (by simp only [maxLen]; omega) (by omega) ?_; rintro v2' w2' ⟨s2, rfl, hown2⟩))
  go_wp2_with (first
    | (go_at_call 104; (with_reducible refine Calls.mono (T3.out _ (HT.out _ _)) ?_); rintro e w' ⟨u3, rfl, ⟨r3, rfl⟩, hs3, hn3, ho3⟩; rw [more_more] at hs3)
    | (at_builtin; refine wpList_append_words (W2 := (W.alloc (.cells #[.bool fs, .int .i64 fr1, .int .i64 fr2, .int .i64 fa1, .int .i64 fa2, .int .i64 ft1, .int .i64 ft2, .int .i64 fk1, .int .i64 fk2, .int .i64 fp1, .int .i64 fp2, .int .i64 fq1, .int .i64 fq2, .string (bsOf fg)] 56))) rfl (.tmp 26) (.tmp 29) 124 rfl 9 i0 _ 16 und_str hi hz0 hz1 hz2 rfl _ (5 + L1.length + L2.length) (xs0 ++ flatC str1 L1 ++ flatC str1 L2) (W.heap.size + 1) (by simp) rfl ⟨_, rfl, hown2.plus⟩ L3 u3 rfl hs3 hn3 ho3 (by simp only [maxLen]; omega) (by omega) ?_; rintro v3' w3' ⟨s3, rfl, hown3⟩))
  go_returns
  refine ⟨v3', rfl, (by repeat (first | exact More.refl _ | refine More.alloc ?_ _ | refine More.more ?_ _ | refine More.drew ?_ | refine More.drewN ?_ _)), ?_⟩
  rw [HFIN.out]
  refine OwnW.row (X := (W.alloc (.cells #[.bool fs, .int .i64 fr1, .int .i64 fr2, .int .i64 fa1, .int .i64 fa2, .int .i64 ft1, .int .i64 ft2, .int .i64 fk1, .int .i64 fk2, .int .i64 fp1, .int .i64 fp2, .int .i64 fq1, .int .i64 fq2, .string (bsOf fg)] 56))) (base := W.heap.size + 1) (e := 9) str1_len (by decide) (by simp) ?_
  rw [flatC_app, flatC_app, flatC_app, HX.out, List.length_append, List.length_append, List.length_append]
  exact ⟨s3, rfl, hown3⟩

end Go.Proofs.YtekhhekkepijoaaGreatDoor

