/-
  Words and numbers, said plainly: the walk of the plain saying.
  Chapter 10's example and the other known texts.
  The texts that are handed in: what is made of numbers and of a raw text: some text, of a bounded length.
  What the walks of chapter 10's statements have in common: a token's cells, its place as words, how many tokens there are.
-/
import Derived.Test.YtgikkcnpnnbgdaaGreatDoorGe
import Derived.Test.YtgikkcnpnnbgdaaGreatDoorTokens
import Derived.Deep.OwnRows
import Derived.Test.YtgikkcnpnnbgdaaGreatDoorGc
import Derived.Test.YtgikkcnpnnbgdaaGreatDoorGd

namespace Go.Proofs.YtgikkcnpnnbgdaaGreatDoor
set_option linter.unusedVariables false
open Go.ChangeShapes Go.WideShapes Go.ChangeAt Go.RowKit

theorem byte_is (l : List UInt8) (k m : Nat) (hm : m < 256) : (byteAt l k == (m : Int)) = (l.getD k 0 == UInt8.ofNat m) := by
  have h := eq_at l k m hm
  rw [Bool.eq_iff_iff] at h ⊢
  simp only [decide_eq_true_eq, beq_iff_eq] at h ⊢
  exact h
theorem drop_at {l : List UInt8} {j : Nat} (h : j < l.length) : l.drop j = l.getD j 0 :: l.drop (j + 1) := by
  rw [List.drop_eq_getElem_cons h]
  simp [List.getD, h]
theorem drop_get {l : List UInt8} {j k : Nat} (h : j ≤ k) : (l.drop j).getD (k - j) 0 = l.getD k 0 := by
  simp only [List.getD_eq_getElem?_getD, List.getElem?_drop]
  rw [show j + (k - j) = k by omega]
/-- The scan of a class of bytes from j on, byte by byte. -/
theorem scan_more {p : UInt8 → Bool} {l : List UInt8} {j k : Nat} (hjk : j ≤ k) (h : ((l.drop j).take (k - j)).all p = true) (hk : k < l.length) (hp : p (l.getD k 0) = true) : ((l.drop j).take (k + 1 - j)).all p = true := by
  rw [show k + 1 - j = k - j + 1 by omega]
  exact take_more h (by rw [List.length_drop]; omega) (by rw [drop_get hjk]; exact hp)
theorem scan_stop {p : UInt8 → Bool} {l : List UInt8} {j k : Nat} (hjk : j ≤ k) (h : ((l.drop j).take (k - j)).all p = true) (hk : k = l.length ∨ k < l.length ∧ p (l.getD k 0) = false) :
    (l.drop j).takeWhile p = (l.drop j).take (k - j) ∧ (l.drop j).dropWhile p = l.drop k ∧ ((l.drop j).take (k - j)).length = k - j := by
  have hkl : k ≤ l.length := by omega
  obtain ⟨e1, e2⟩ := take_stop h (by
    rcases hk with hk | ⟨hk, hp⟩
    · left; rw [List.length_drop]; omega
    · right; exact ⟨by rw [List.length_drop]; omega, by rw [drop_get hjk]; exact hp⟩)
  refine ⟨e1, ?_, by rw [List.length_take, List.length_drop]; omega⟩
  rw [e2, List.drop_drop]
  congr 1
  omega
theorem take_cons {l : List UInt8} {j k : Nat} (h : j < l.length) (hk : j < k) : (l.drop j).take (k - j) = l.getD j 0 :: (l.drop (j + 1)).take (k - (j + 1)) := by
  rw [drop_at h, show k - j = (k - (j + 1)) + 1 by omega, List.take_succ_cons]

theorem alloc_rest' (w : World) (r : Rest) (o : Obj) : (more w r).alloc o = more w (r.plus ⟨#[o], r.n⟩) := by unfold more World.alloc Rest.plus; simp
/-- A row that lies behind a world X. -/
def OwnW (X wr : World) (base : Nat) (e : TypeId) (m : Nat) (v : Value) (n : Nat) (xs : List Value) : Prop := ∃ s, wr = more X s ∧ OwnS base s e m v n xs
theorem OwnW.more {X wr : World} {base m n : Nat} {e : TypeId} {v : Value} {xs : List Value} (h : OwnW X wr base e m v n xs) (r : Rest) : OwnW X (more wr r) base e m v n xs := by
  obtain ⟨s, rfl, h⟩ := h
  exact ⟨_, more_more _ _ _, h.plus⟩
theorem OwnW.alloc {X wr : World} {base m n : Nat} {e : TypeId} {v : Value} {xs : List Value} (h : OwnW X wr base e m v n xs) (o : Obj) : OwnW X (wr.alloc o) base e m v n xs := by
  obtain ⟨s, rfl, h⟩ := h
  exact ⟨_, alloc_rest' _ _ _, h.plus⟩
theorem OwnW.drew {X wr : World} {base m n : Nat} {e : TypeId} {v : Value} {xs : List Value} (h : OwnW X wr base e m v n xs) : OwnW X wr.drew base e m v n xs := by
  obtain ⟨s, rfl, h⟩ := h
  exact ⟨_, more_drew _ _, h.draw⟩
theorem OwnW.row {α : Type} {f : α → List Value} {X wr : World} {base m : Nat} {e : TypeId} {v : Value} {l : List α} (hf : ∀ a, (f a).length = m) (hm : 0 < m) (hb : X.heap.size = base) (h : OwnW X wr base e m v l.length (flatC f l)) : GRow f m wr v l := by
  obtain ⟨s, rfl, h⟩ := h
  exact GRow.of_owns hf hm (h X hb)
theorem OwnW.snoc {α : Type} {f : α → List Value} {X wr : World} {base m : Nat} {e : TypeId} {v : Value} {l : List α} {t : α} (h : OwnW X wr base e m v (l.length + 1) (flatC f l ++ f t)) : OwnW X wr base e m v (l ++ [t]).length (flatC f (l ++ [t])) := by
  rw [flatC_snoc, List.length_append]
  exact h
theorem wpList_append_w {P : Program} {W2 w1 : World} {ops : Array Oper} {rest : List Oper} {o : Oper} {a : Act} {Q : Exit → Act → World → Prop}
    (hg : o.guard = none) (sl x : Operand) (t : TypeId) (hop : o.op = Op.call { callee := Callee.builtin Builtin.append, args := #[sl, x], argTypes := #[t, t] })
    (e : TypeId) (i : TypeInfo) (z : Value) (size bytes : Nat) (h1 : P.underlying t = some (.slice e)) (h2 : P.info? e = some i) (h3 : i.zero = some z) (h4 : i.size = size) (h5 : i.bytes = bytes) (h6 : z.cells.size = size) (h7 : 0 < size)
    (v : Value) (n : Nat) (xs : List Value) (base : Nat) (hb : base = W2.heap.size) (hs : a.eval sl = v) (hown : OwnW W2 w1 base e size v n xs)
    (news : List Value) (c b : Nat) (hx : a.eval x = .slice (some ⟨b, 0, none⟩) 1 c) (hbx : b = w1.heap.size) (hn : news.length = size) (h1c : ∀ u ∈ news, u.oneCell' = true)
    (b1 : n + 1 ≤ maxLen) (b2 : (n + 1) * bytes ≤ 140737488355328)
    (hK : ∀ v' w', OwnW W2 w' base e size v' (n + 1) (xs ++ news) → wpList P ops Q rest (a.put o.dst v') w') :
    wpList P ops Q (o :: rest) a (w1.alloc (.cells news.toArray e)) := by
  obtain ⟨s, rfl, h⟩ := hown
  exact wpList_append_one hg sl x t hop e i z size bytes h1 h2 h3 h4 h5 h6 h7 v n xs base hb hs h news c b hx (by rw [hbx]; simp) hn h1c b1 b2 fun v' s' h' => hK v' _ ⟨s', rfl, h'⟩

theorem slice_bs {P : Program} {l : List UInt8} {j k : Nat} (T : TypeId) (hT : P.underlying T = some .string) (hjk : j ≤ k) (hk : k ≤ l.length) (w : World) : (Instr.slice T (.string (bsOf l)) (some (.int .i64 j)) (some (.int .i64 k)) none).run P w = .ok (.string (bsOf ((l.drop j).take (k - j)))) w := by
  rw [run_slice_string w T (bsOf l) .i64 .i64 j k hT (by omega) (by omega) (by rw [size_bs]; omega), extract_bs]
  rfl

end Go.Proofs.YtgikkcnpnnbgdaaGreatDoor

namespace Go.Proofs.YtgikkcnpnnbgdaaGreatDoor
set_option linter.unusedVariables false
open Go.ChangeShapes Go.WideShapes Go.ChangeAt Go.RowKit

theorem at_calls {P : Program} {f : FuncId} {x : Array Value} {Q : Ending → World → Prop} {w W : World} {R : World → Prop} (hm : More w W) (hr : R W) (h : ∀ W1, More w W1 → R W1 → Calls P f x W1 Q) : Calls P f x W Q := h W hm hr
theorem tokens_k {x : Lexed} (l : List UInt8) (hx : lexP l = x) (hz : l.length ≤ 9223372036854775807) (W : World) : Calls Tryz.prog 20 #[.string (bsOf l)] W fun e w' => ∃ v', e = .returned (.tuple #[v', plV2 x.line x.col, .int .i64 x.err]) ∧ More W w' ∧ GRow tk3 3 w' v' x.toks := by
  subst hx
  exact tokens_c l hz W

theorem nwk_0 : nw 0 = 0 := by rw [nw_eq]; decide +kernel
theorem nwk_1 : nw 1 = 4607182418800017408 := by rw [nw_eq]; decide +kernel
theorem nwk_2 : nw 2 = 4611686018427387904 := by rw [nw_eq]; decide +kernel
theorem nwk_3 : nw 3 = 4613937818241073152 := by rw [nw_eq]; decide +kernel
theorem nwk_4 : nw 4 = 4616189618054758400 := by rw [nw_eq]; decide +kernel
theorem nwk_5 : nw 5 = 4617315517961601024 := by rw [nw_eq]; decide +kernel
theorem nwk_6 : nw 6 = 4618441417868443648 := by rw [nw_eq]; decide +kernel
theorem nwk_12 : nw 12 = 4622945017495814144 := by rw [nw_eq]; decide +kernel

theorem ktok_0 (W : World) : Calls Tryz.prog 20 #[.string ⟨#[97, 32, 49, 46, 53]⟩] W fun e w' => ∃ b o c, e = .returned (.tuple #[.slice (some ⟨b, o, none⟩) 3 c, .complex .f64 0 0, .int .i64 0]) ∧ More W w' ∧ b < w'.heap.size ∧ w'.cell? ⟨b, o, none⟩ = some (.int .i64 1) ∧ w'.cell? ⟨b, o + 1, none⟩ = some (.string ⟨#[97]⟩) ∧ w'.cell? ⟨b, o + 2, none⟩ = some (.complex .f64 4607182418800017408 4607182418800017408) ∧ w'.cell? ⟨b, o + 3, none⟩ = some (.int .i64 2) ∧ w'.cell? ⟨b, o + 4, none⟩ = some (.string ⟨#[49, 46, 53]⟩) ∧ w'.cell? ⟨b, o + 5, none⟩ = some (.complex .f64 4607182418800017408 4613937818241073152) ∧ w'.cell? ⟨b, o + 6, none⟩ = some (.int .i64 3) ∧ w'.cell? ⟨b, o + 7, none⟩ = some (.string ⟨#[]⟩) ∧ w'.cell? ⟨b, o + 8, none⟩ = some (.complex .f64 4607182418800017408 4618441417868443648) := by
  refine (tokens_k (x := ⟨[⟨1, [97], 1, 1⟩, ⟨2, [49, 46, 53], 1, 3⟩, ⟨3, [], 1, 6⟩], 0, 0, 0⟩) [97, 32, 49, 46, 53] (by kernel_rfl) (by decide) W).mono ?_
  rintro e w' ⟨v', rfl, hm, hr⟩
  obtain ⟨ao, c, rfl, hc⟩ := grow_form (fun _ => by rw [tk3_len]; decide) hr
  obtain ⟨b, o, rfl, hb, hd⟩ := hc (by decide)
  refine ⟨b, o, c, ?_, hm, hb, ?_, ?_, ?_, ?_, ?_, ?_, ?_, ?_, ?_⟩
  · simp only [plV2, nwk_0]; rfl
  · exact hd 0 _ rfl 0 (.int .i64 1) rfl
  · exact hd 0 _ rfl 1 (.string ⟨#[97]⟩) rfl
  · have h := hd 0 _ rfl 2 (.complex .f64 (nw 1) (nw 1)) rfl; simp only [nwk_1] at h; exact h
  · exact hd 1 _ rfl 0 (.int .i64 2) rfl
  · exact hd 1 _ rfl 1 (.string ⟨#[49, 46, 53]⟩) rfl
  · have h := hd 1 _ rfl 2 (.complex .f64 (nw 1) (nw 3)) rfl; simp only [nwk_1, nwk_3] at h; exact h
  · exact hd 2 _ rfl 0 (.int .i64 3) rfl
  · exact hd 2 _ rfl 1 (.string ⟨#[]⟩) rfl
  · have h := hd 2 _ rfl 2 (.complex .f64 (nw 1) (nw 6)) rfl; simp only [nwk_1, nwk_6] at h; exact h

theorem ktok_1 (W : World) : Calls Tryz.prog 20 #[.string ⟨#[10, 32, 32, 97, 45, 98, 95, 50, 32, 35, 32, 99, 10, 35, 32, 100, 10, 9, 45, 51, 120, 10]⟩] W fun e w' => ∃ b o c, e = .returned (.tuple #[.slice (some ⟨b, o, none⟩) 5 c, .complex .f64 0 0, .int .i64 0]) ∧ More W w' ∧ b < w'.heap.size ∧ w'.cell? ⟨b, o, none⟩ = some (.int .i64 1) ∧ w'.cell? ⟨b, o + 1, none⟩ = some (.string ⟨#[97, 45, 98, 95, 50]⟩) ∧ w'.cell? ⟨b, o + 2, none⟩ = some (.complex .f64 4611686018427387904 4613937818241073152) ∧ w'.cell? ⟨b, o + 3, none⟩ = some (.int .i64 3) ∧ w'.cell? ⟨b, o + 4, none⟩ = some (.string ⟨#[]⟩) ∧ w'.cell? ⟨b, o + 5, none⟩ = some (.complex .f64 4611686018427387904 4622945017495814144) ∧ w'.cell? ⟨b, o + 6, none⟩ = some (.int .i64 2) ∧ w'.cell? ⟨b, o + 7, none⟩ = some (.string ⟨#[45, 51]⟩) ∧ w'.cell? ⟨b, o + 8, none⟩ = some (.complex .f64 4616189618054758400 4611686018427387904) ∧ w'.cell? ⟨b, o + 9, none⟩ = some (.int .i64 1) ∧ w'.cell? ⟨b, o + 10, none⟩ = some (.string ⟨#[120]⟩) ∧ w'.cell? ⟨b, o + 11, none⟩ = some (.complex .f64 4616189618054758400 4616189618054758400) ∧ w'.cell? ⟨b, o + 12, none⟩ = some (.int .i64 3) ∧ w'.cell? ⟨b, o + 13, none⟩ = some (.string ⟨#[]⟩) ∧ w'.cell? ⟨b, o + 14, none⟩ = some (.complex .f64 4616189618054758400 4617315517961601024) := by
  refine (tokens_k (x := ⟨[⟨1, [97, 45, 98, 95, 50], 2, 3⟩, ⟨3, [], 2, 12⟩, ⟨2, [45, 51], 4, 2⟩, ⟨1, [120], 4, 4⟩, ⟨3, [], 4, 5⟩], 0, 0, 0⟩) [10, 32, 32, 97, 45, 98, 95, 50, 32, 35, 32, 99, 10, 35, 32, 100, 10, 9, 45, 51, 120, 10] (by kernel_rfl) (by decide) W).mono ?_
  rintro e w' ⟨v', rfl, hm, hr⟩
  obtain ⟨ao, c, rfl, hc⟩ := grow_form (fun _ => by rw [tk3_len]; decide) hr
  obtain ⟨b, o, rfl, hb, hd⟩ := hc (by decide)
  refine ⟨b, o, c, ?_, hm, hb, ?_, ?_, ?_, ?_, ?_, ?_, ?_, ?_, ?_, ?_, ?_, ?_, ?_, ?_, ?_⟩
  · simp only [plV2, nwk_0]; rfl
  · exact hd 0 _ rfl 0 (.int .i64 1) rfl
  · exact hd 0 _ rfl 1 (.string ⟨#[97, 45, 98, 95, 50]⟩) rfl
  · have h := hd 0 _ rfl 2 (.complex .f64 (nw 2) (nw 3)) rfl; simp only [nwk_2, nwk_3] at h; exact h
  · exact hd 1 _ rfl 0 (.int .i64 3) rfl
  · exact hd 1 _ rfl 1 (.string ⟨#[]⟩) rfl
  · have h := hd 1 _ rfl 2 (.complex .f64 (nw 2) (nw 12)) rfl; simp only [nwk_12, nwk_2] at h; exact h
  · exact hd 2 _ rfl 0 (.int .i64 2) rfl
  · exact hd 2 _ rfl 1 (.string ⟨#[45, 51]⟩) rfl
  · have h := hd 2 _ rfl 2 (.complex .f64 (nw 4) (nw 2)) rfl; simp only [nwk_2, nwk_4] at h; exact h
  · exact hd 3 _ rfl 0 (.int .i64 1) rfl
  · exact hd 3 _ rfl 1 (.string ⟨#[120]⟩) rfl
  · have h := hd 3 _ rfl 2 (.complex .f64 (nw 4) (nw 4)) rfl; simp only [nwk_4] at h; exact h
  · exact hd 4 _ rfl 0 (.int .i64 3) rfl
  · exact hd 4 _ rfl 1 (.string ⟨#[]⟩) rfl
  · have h := hd 4 _ rfl 2 (.complex .f64 (nw 4) (nw 5)) rfl; simp only [nwk_4, nwk_5] at h; exact h

theorem info_u8 : (Tryz.prog.info? 5).map (fun i => (i.zero, i.size, i.bytes)) = some (some (.int .u8 0), 1, 1) := by kernel_rfl

end Go.Proofs.YtgikkcnpnnbgdaaGreatDoor

namespace Go.Proofs.YtgikkcnpnnbgdaaGreatDoor
set_option linter.unusedVariables false
open Go.ChangeShapes Go.WideShapes Go.ChangeAt Go.RowKit

theorem pick_nat (n m : Int) (W : World) (hn : -9223372036854775808 ≤ n) (hn' : n ≤ 9223372036854775807) (hm : 0 < m) (hm' : m ≤ 9223372036854775807) : Calls Tryz.prog 17 #[.int .i64 n, .int .i64 m] W fun e w' => ∃ q : Nat, e = .returned (.int .i64 q) ∧ (q : Int) < m ∧ W = w' :=
  (pick_c n m hn hn' hm hm' W).mono fun e w' ⟨h1, h2⟩ => by
    have h0 := Int.emod_nonneg n (show m ≠ 0 by omega)
    obtain ⟨q, hq⟩ := Int.eq_ofNat_of_zero_le h0
    refine ⟨q, by rw [h1, hq], ?_, h2⟩
    rw [← hq]
    exact Int.emod_lt_of_pos _ hm
theorem Ints.keep {w w' : World} {v : Value} {l : List Int} (h : Ints w v l) (hb : ∀ k, k < w.heap.size → w'.heap[k]? = w.heap[k]?) : Ints w' v l := by
  rcases h with h | ⟨b, o, c, hv, hc⟩
  · exact .inl h
  · refine .inr ⟨b, o, c, hv, fun k n hk => ?_⟩
    have h1 := hc k n hk
    rw [World.cell?_of_block (hb b (World.block_lt_of_cell? w _ h1))]
    exact h1
theorem Ints.up {w w' : World} {v : Value} {l : List Int} (h : Ints w v l) (hm : More w w') : Ints w' v l := by
  obtain ⟨r, rfl⟩ := hm
  exact h.keep fun k hk => heap_more w r k hk

theorem tdiv_sm (n k : Int) (h0 : -9223372036854775808 ≤ n) (h1 : n ≤ 9223372036854775807) (hk : 1 < k) : -9223372036854775808 ≤ n.tdiv k ∧ n.tdiv k ≤ 9223372036854775807 := tdiv_bd n k h0 h1 (by omega)

end Go.Proofs.YtgikkcnpnnbgdaaGreatDoor

namespace Go.Proofs.YtgikkcnpnnbgdaaGreatDoor
set_option linter.unusedVariables false
open Go.ChangeShapes Go.WideShapes Go.ChangeAt Go.RowKit

@[go_sem] theorem eqIn_cx (a b c d : Nat) (w : World) : (Op.equalIn 9999 24 (.complex .f64 a b) (.complex .f64 c d)).run Tryz.prog w = .ok (Ieee.double.order a c == some .eq && Ieee.double.order b d == some .eq) w := by kernel_rfl
theorem neq_same (k : Int) (x : ByteArray) (p q : Nat) (hp : (Ieee.double.order p p == some .eq) = true) (hq : (Ieee.double.order q q == some .eq) = true) (w : World) : (binOp .neq 69 (.agg #[.int .i64 k, .string x, .complex .f64 p q]) (.agg #[.int .i64 k, .string x, .complex .f64 p q])).run Tryz.prog w = .ok (.bool false) w := by
  simp [go_sem, eqIn_cx, hp, hq, Result.andThen]
theorem neq_cx (p q p' q' : Nat) (w : World) : (binOp .neq 24 (.complex .f64 p q) (.complex .f64 p' q')).run Tryz.prog w = .ok (.bool (!((Ieee.double.order p p' == some .eq && Ieee.double.order q q' == some .eq)))) w := by
  kernel_rfl
theorem neq_same_cx (p q : Nat) (hp : (Ieee.double.order p p == some .eq) = true) (hq : (Ieee.double.order q q == some .eq) = true) (w : World) : (binOp .neq 24 (.complex .f64 p q) (.complex .f64 p q)).run Tryz.prog w = .ok (.bool false) w := by
  rw [neq_cx, hp, hq]; rfl
theorem ord_nw {n : Nat} (h : n ≤ 100000) : (Ieee.double.order (nw n) (nw n) == some .eq) = true := by
  rw [nw_eq, eq_ww (a := n) (b := n) false false (by unfold In52; omega) (by unfold In52; omega)]
  simp
theorem ord_eq {n : Nat} (h : n ≤ 100000) : Ieee.double.order (nw n) (nw n) = some .eq := by simpa using ord_nw h
theorem more_plus (w : World) (r s : Rest) : More (more w r) (more w (r.plus s)) := ⟨s, (more_more w r s).symm⟩
theorem endUp_len (acc : List Tk) (L C : Nat) : (endUp acc L C).length ≤ acc.length + 1 := by
  unfold endUp
  split <;> simp
theorem lexF_count : ∀ (n : Nat) (r : List UInt8) (L C : Nat) (acc : List Tk), (lexF n r L C acc).toks.length ≤ acc.length + r.length + 1
  | 0, _, _, _, _ => by simp [lexF]
  | n + 1, r, L, C, acc => by
    rw [lexF_blanks]
    have h1 := take_drop isBl r
    generalize C + (r.takeWhile isBl).length = D
    cases hd : r.dropWhile isBl with
    | nil =>
      rw [lexF_nil]
      have := endUp_len acc L D
      simp only
      omega
    | cons c q =>
      rw [hd, List.length_cons] at h1
      by_cases c10 : c = 10
      · subst c10
        rw [lexF_line]
        have h2 := lexF_count n q (L + 1) 1 (endUp acc L D)
        have := endUp_len acc L D
        omega
      by_cases c35 : c = 35
      · subst c35
        rw [lexF_remark]
        have h2 := take_drop isRm (35 :: q)
        rw [List.length_cons] at h2
        generalize D + ((35 :: q).takeWhile isRm).length = D2
        cases hz : (35 :: q).dropWhile isRm with
        | nil =>
          rw [lexF_nil]
          have := endUp_len acc L D2
          simp only
          omega
        | cons z y =>
          have hz2 : isRm z = false := by
            have := List.head?_dropWhile_not isRm (35 :: q)
            rw [hz] at this
            simpa using this
          have hz3 : z = 10 := by simpa [isRm] using hz2
          subst hz3
          rw [hz, List.length_cons] at h2
          rw [lexF_line]
          have h3 := lexF_count n y (L + 1) 1 (endUp acc L D2)
          have := endUp_len acc L D2
          omega
      cases hc : isLet c with
      | true =>
        rw [lexF_word hc]
        have h2 := take_drop isW (c :: q)
        have h4 : 0 < ((c :: q).takeWhile isW).length := by rw [(word_drop hc).2]; simp
        rw [List.length_cons] at h2
        split
        · simp
        · have h3 := lexF_count n ((c :: q).dropWhile isW) L (D + ((c :: q).takeWhile isW).length) (acc ++ [⟨1, (c :: q).takeWhile isW, L, D⟩])
          rw [List.length_append, List.length_singleton] at h3
          omega
      | false =>
        by_cases hn : c = 45 ∨ isD c = true
        · rw [lexF_number hn]
          have h2 := take_drop isNm q
          split
          · have h3 := lexF_count n (q.dropWhile isNm) L (D + (1 + (q.takeWhile isNm).length)) (acc ++ [⟨2, c :: q.takeWhile isNm, L, D⟩])
            rw [List.length_append, List.length_singleton] at h3
            omega
          · simp
        · have hb : isBl c = false := by
            have := List.head?_dropWhile_not isBl r
            rw [hd] at this
            simpa using this
          rw [lexF_other hb c10 c35 hc (fun h => hn (.inl h)) (by apply Bool.eq_false_iff.2; exact fun h => hn (.inr h))]
          simp
theorem lexP_count (s : List UInt8) : (lexP s).toks.length ≤ 4001 := by
  unfold lexP
  split
  · simp
  · have := lexF_count (s.length + 1) s 1 1 []
    simp only [List.length_nil] at this
    omega
theorem tokens_x {x : Lexed} (l : List UInt8) (hx : lexP l = x) (hz : l.length ≤ 9223372036854775807) (W : World) : Calls Tryz.prog 20 #[.string (bsOf l)] W fun e w' => ∃ v', e = .returned (.tuple #[v', .complex .f64 (nw x.line) (nw x.col), .int .i64 x.err]) ∧ More W w' ∧ GRow tk3 3 w' v' x.toks := tokens_k l hx hz W
/-- What a row says at one place. -/
theorem grow_at {α : Type} {f : α → List Value} {m : Nat} {w : World} {ao : Option Addr} {n c k : Nat} {l : List α} {a : α} (h : GRow f m w (.slice ao n c) l) (hk : l[k]? = some a) (hf : 0 < (f a).length) :
    ∃ b o, ao = some ⟨b, o, none⟩ ∧ b < w.heap.size ∧ ∀ j u, (f a)[j]? = some u → w.cell? ⟨b, o + (k * m + j), none⟩ = some u := by
  rcases h with ⟨-, rfl⟩ | ⟨b, o, c', hv, -, hc⟩
  · simp at hk
  · injection hv with h1 h2 h3
    subst h1
    refine ⟨b, o, rfl, ?_, hc k a hk⟩
    have := hc k a hk 0 ((f a)[0]'hf) (List.getElem?_eq_getElem _)
    exact World.block_lt_of_cell? w _ this

end Go.Proofs.YtgikkcnpnnbgdaaGreatDoor
