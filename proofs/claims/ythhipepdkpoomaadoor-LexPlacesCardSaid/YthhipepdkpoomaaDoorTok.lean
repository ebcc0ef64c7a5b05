/-
  Slices of structs, whatever their cells: what a slice's cells hold; a row that the call itself makes, told by what lies behind a world.
-/
import Derived.Test.YthhipepdkpoomaaDoorRow
import Derived.Test.YthhipepdkpoomaaDoorInts
import Derived.Test.YthhipepdkpoomaaDoorGauss
import Derived.Test.YthhipepdkpoomaaDoorLexMath
namespace Go.Proofs.YthhipepdkpoomaaDoor
set_option linter.unusedVariables false
open Go.ChangeShapes Go.WideShapes Go.ChangeAt Go.RowKit

section
variable {α : Type} (f : α → List Value) (m : Nat)
/-- The cells of a list, one value's behind the other's. -/
def flatC (l : List α) : List Value := l.flatMap f
theorem flatC_snoc (l : List α) (a : α) : flatC f (l ++ [a]) = flatC f l ++ f a := by simp [flatC]
theorem flatC_length (hf : ∀ a, (f a).length = m) : ∀ l : List α, (flatC f l).length = l.length * m
  | [] => by simp [flatC]
  | a :: r => by
    have := flatC_length hf r
    simp only [flatC, List.flatMap_cons, List.length_append, List.length_cons] at this ⊢
    rw [hf, this, Nat.succ_mul, Nat.add_comm]
theorem flatC_at (hf : ∀ a, (f a).length = m) : ∀ (l : List α) (k : Nat) (a : α), l[k]? = some a → ∀ j u, (f a)[j]? = some u → (flatC f l)[k * m + j]? = some u
  | [], k, a, h => by simp at h
  | b :: r, 0, a, h => by
    intro j u hu
    simp at h
    subst h
    have hj : j < (f b).length := (List.getElem?_eq_some_iff.1 hu).1
    simp only [flatC, List.flatMap_cons, Nat.zero_mul, Nat.zero_add]
    rw [List.getElem?_append_left hj]
    exact hu
  | b :: r, k + 1, a, h => by
    intro j u hu
    have := flatC_at hf r k a (by simpa using h) j u hu
    simp only [flatC, List.flatMap_cons] at this ⊢
    rw [List.getElem?_append_right (by rw [hf, Nat.succ_mul]; omega), hf, Nat.succ_mul, show k * m + m + j - m = k * m + j by omega]
    exact this
/-- The cells of the slice v hold the list l. -/
def GRow (w : World) (v : Value) (l : List α) : Prop :=
  (v = .slice none 0 0 ∧ l = []) ∨ ∃ g o c, v = .slice (some ⟨g, o, none⟩) l.length c ∧ ∀ k a, l[k]? = some a → ∀ j u, (f a)[j]? = some u → w.cell? ⟨g, o + (k * m + j), none⟩ = some u
variable {f m}
theorem GRow.of_owns {w : World} {base n : Nat} {v : Value} {e : TypeId} {l : List α} (hf : ∀ a, (f a).length = m) (hm : 0 < m) (h : w.ownsRow base e m v n (flatC f l)) : GRow f m w v l := by
  obtain ⟨hl, h⟩ := h
  rw [flatC_length f m hf] at hl
  have hn : n = l.length := (Nat.eq_of_mul_eq_mul_right hm hl).symm
  subst hn
  rcases h with ⟨rfl, h0⟩ | ⟨g, cap, cur, rfl, -, hg, -, -, -, ht⟩
  · exact .inl ⟨rfl, List.eq_nil_of_length_eq_zero h0⟩
  · refine .inr ⟨g, 0, cap, rfl, fun k a hk j u hu => ?_⟩
    have h1 := flatC_at f m hf l k a hk j u hu
    rw [← ht] at h1
    have hlt := (List.getElem?_eq_some_iff.1 h1).1
    rw [List.length_take] at hlt
    rw [List.getElem?_take_of_lt (by omega)] at h1
    simp only [Nat.zero_add, World.cell?, hg]
    simpa using h1
theorem GRow.keep {w w' : World} {v : Value} {l : List α} (h : GRow f m w v l) (hb : ∀ k, k < w.heap.size → w'.heap[k]? = w.heap[k]?) : GRow f m w' v l := by
  rcases h with h | ⟨g, o, c, hv, hc⟩
  · exact .inl h
  · refine .inr ⟨g, o, c, hv, fun k a hk j u hu => ?_⟩
    have h1 := hc k a hk j u hu
    rw [World.cell?_of_block (hb g (World.block_lt_of_cell? w _ h1))]
    exact h1
theorem GRow.up {w w' : World} {v : Value} {l : List α} (h : GRow f m w v l) (hm : More w w') : GRow f m w' v l := by
  obtain ⟨r, rfl⟩ := hm
  exact h.keep fun k hk => heap_more w r k hk
/-- What a row says, as a walk takes it: at each place. -/
theorem grow_form {w : World} {v : Value} {l : List α} (hf : ∀ a, 0 < (f a).length) (h : GRow f m w v l) : ∃ ao c, v = .slice ao l.length c ∧ (0 < l.length → ∃ b o, ao = some ⟨b, o, none⟩ ∧ b < w.heap.size ∧ ∀ k a, l[k]? = some a → ∀ j u, (f a)[j]? = some u → w.cell? ⟨b, o + (k * m + j), none⟩ = some u) := by
  rcases h with ⟨rfl, rfl⟩ | ⟨b, o, c, rfl, hc⟩
  · exact ⟨none, 0, rfl, fun h => by simp at h⟩
  · refine ⟨_, c, rfl, fun hl => ⟨b, o, rfl, ?_, hc⟩⟩
    have h0 : l[0]? = some (l[0]'hl) := List.getElem?_eq_getElem hl
    have := hc 0 _ h0 0 ((f (l[0]'hl))[0]'(hf _)) (List.getElem?_eq_getElem _)
    exact World.block_lt_of_cell? w _ this
end

/-! A row that lies behind a world of so many blocks: told by what lies behind alone. -/
theorem heap_more_ge (w : World) (r : Rest) (k : Nat) (h : w.heap.size ≤ k) : (more w r).heap[k]? = r.X[k - w.heap.size]? := by
  unfold more; simp [Array.getElem?_append, Nat.not_lt.2 h]
def OwnS (base : Nat) (s : Rest) (e : TypeId) (m : Nat) (v : Value) (n : Nat) (xs : List Value) : Prop := ∀ w : World, w.heap.size = base → (more w s).ownsRow base e m v n xs
theorem owns_on {w w' : World} {base n m : Nat} {e : TypeId} {v : Value} {xs : List Value} (h : w.ownsRow base e m v n xs) (hb : ∀ k, base ≤ k → k < w.heap.size → w'.heap[k]? = w.heap[k]?) : w'.ownsRow base e m v n xs := by
  obtain ⟨hl, h⟩ := h
  refine ⟨hl, ?_⟩
  rcases h with h | ⟨g, cap, cur, hv, hg, hc, h1⟩
  · exact .inl h
  · exact .inr ⟨g, cap, cur, hv, hg, (hb g hg ((Array.getElem?_eq_some_iff.1 hc).1)).trans hc, h1⟩
theorem OwnS.of {w : World} {s : Rest} {base n m : Nat} {e : TypeId} {v : Value} {xs : List Value} (hb : w.heap.size = base) (h : (more w s).ownsRow base e m v n xs) : OwnS base s e m v n xs := by
  intro w' hw
  refine owns_on h fun k hk _ => ?_
  rw [heap_more_ge _ _ _ (by omega), heap_more_ge _ _ _ (by omega), hw, hb]
theorem OwnS.plus {s r : Rest} {base n m : Nat} {e : TypeId} {v : Value} {xs : List Value} (h : OwnS base s e m v n xs) : OwnS base (s.plus r) e m v n xs := by
  intro w hw
  rw [← more_more]
  exact owns_more (h w hw)
theorem OwnS.draw {s : Rest} {base n m k : Nat} {e : TypeId} {v : Value} {xs : List Value} (h : OwnS base s e m v n xs) : OwnS base (s.draw k) e m v n xs := by
  intro w hw
  exact owns_keep (h w hw) fun _ _ => rfl
theorem OwnS.nil (s : Rest) (base m : Nat) (e : TypeId) : OwnS base s e m (.slice none 0 0) 0 [] := fun w _ => World.ownsRow_nil _ _ _ _
/-- The cells of a block laid this moment. -/
theorem new_row {w : World} {e : TypeId} {b : Nat} (xs : List Value) (hb : b = w.heap.size) : ∀ j x, xs[j]? = some x → (w.alloc (.cells xs.toArray e)).cell? ((⟨b, 0, none⟩ : Addr).add j) = some x := by
  subst hb
  intro j x hx
  rw [Addr.add_lit, Nat.zero_add]
  simp only [World.cell?]
  rw [heap_alloc_new]
  simpa using hx

/-- 'append' of one value, on a row of the call's own. -/
theorem wpList_append_one {P : Program} {W2 : World} {s : Rest} {ops : Array Oper} {rest : List Oper} {o : Oper} {a : Act} {Q : Exit → Act → World → Prop}
    (hg : o.guard = none) (sl x : Operand) (t : TypeId) (hop : o.op = Op.call { callee := Callee.builtin Builtin.append, args := #[sl, x], argTypes := #[t, t] })
    (e : TypeId) (i : TypeInfo) (z : Value) (size bytes : Nat) (h1 : P.underlying t = some (.slice e)) (h2 : P.info? e = some i) (h3 : i.zero = some z) (h4 : i.size = size) (h5 : i.bytes = bytes) (h6 : z.cells.size = size) (h7 : 0 < size)
    (v : Value) (n : Nat) (xs : List Value) (base : Nat) (hb : base = W2.heap.size) (hs : a.eval sl = v) (hown : OwnS base s e size v n xs)
    (news : List Value) (c b : Nat) (hx : a.eval x = .slice (some ⟨b, 0, none⟩) 1 c) (hbx : b = W2.heap.size + s.len) (hn : news.length = size) (h1c : ∀ u ∈ news, u.oneCell' = true)
    (b1 : n + 1 ≤ maxLen) (b2 : (n + 1) * bytes ≤ 140737488355328)
    (hK : ∀ v' s', OwnS base s' e size v' (n + 1) (xs ++ news) → wpList P ops Q rest (a.put o.dst v') (more W2 s')) :
    wpList P ops Q (o :: rest) a ((more W2 s).alloc (.cells news.toArray e)) := by
  subst hb hbx
  have hw := hown W2 rfl
  refine wpList_append_row _ hg sl x t hop W2.heap.size e i z size bytes h1 h2 h3 h4 h5 h6 h7 v n xs hs (owns_alloc hw) ⟨_, 0, none⟩ 1 c news hx (by rw [hn, Nat.one_mul]) (new_row news (by simp)) h1c (by decide) b1 b2 (by simp; omega) ?_
  intro v' w' ho hgr _
  have hbl : Below W2.heap.size W2 w' := by
    have h0 : Below W2.heap.size W2 (more W2 s) := (More.more (More.refl W2) s).below
    exact (h0.alloc (by simp) _).grown hgr (by simp; omega) (fun g hg => (hw.lt g hg).1)
  obtain ⟨s', rfl⟩ := more_of_below hbl
  exact hK v' s' (OwnS.of rfl ho)

/-- A whole number that is not negative, as a word. -/
@[irreducible] def nw (n : Nat) : Nat := ww (n : Int) false
theorem nw_eq (n : Nat) : nw n = ww (n : Int) false := by unfold nw; rfl
@[go_sem, simp] theorem ww_nw (n : Nat) : ww (n : Int) false = nw n := (nw_eq n).symm
theorem nw_one : 4607182418800017408 = nw 1 := by rw [nw_eq]; exact lit_one
theorem nw_zero : nw 0 = 0 := by rw [nw_eq]; exact lit_zero.symm

/-! Tokens: of lex three cells, of the plain saying four. -/
def tk3 (t : Tk) : List Value := [.int .i64 t.kind, .string (bsOf t.text), .complex .f64 (nw t.line) (nw t.col)]
def tk4 (t : Tk) : List Value := [.int .i64 t.kind, .string (bsOf t.text), .int .i64 t.line, .int .i64 t.col]
theorem tk3_len (t : Tk) : (tk3 t).length = 3 := rfl
theorem tk4_len (t : Tk) : (tk4 t).length = 4 := rfl
abbrev Toks3 (w : World) (v : Value) (l : List Tk) : Prop := GRow tk3 3 w v l
abbrev Toks4 (w : World) (v : Value) (l : List Tk) : Prop := GRow tk4 4 w v l
theorem und_t3 : Tryd.prog.underlying 22 = some (.slice 32) := by kernel_rfl
theorem info_t3 : (Tryd.prog.info? 32).map (fun i => (i.zero, i.size, i.bytes)) = some (some (.agg #[.int .i64 0, .string ⟨#[]⟩, .complex .f64 0 0]), 3, 40) := by kernel_rfl
theorem und_t4 : Tryd.prog.underlying 35 = some (.slice 42) := by kernel_rfl
theorem info_t4 : (Tryd.prog.info? 42).map (fun i => (i.zero, i.size, i.bytes)) = some (some (.agg #[.int .i64 0, .string ⟨#[]⟩, .int .i64 0, .int .i64 0]), 4, 40) := by kernel_rfl
theorem tk3_one (t : Tk) : ∀ u ∈ tk3 t, u.oneCell' = true := by
  intro u hu
  simp only [tk3, List.mem_cons, List.not_mem_nil, or_false] at hu
  rcases hu with rfl | rfl | rfl <;> rfl
theorem tk4_one (t : Tk) : ∀ u ∈ tk4 t, u.oneCell' = true := by
  intro u hu
  simp only [tk4, List.mem_cons, List.not_mem_nil, or_false] at hu
  rcases hu with rfl | rfl | rfl | rfl <;> rfl
end Go.Proofs.YthhipepdkpoomaaDoor

