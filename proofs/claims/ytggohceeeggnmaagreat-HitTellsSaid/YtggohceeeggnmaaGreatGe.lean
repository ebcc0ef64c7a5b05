/-
  Slices of structs, whatever their cells: what a slice's cells hold; a row that the call itself makes, told by what lies behind a world.
  The contracts of the plain saying of chapter 9, the third part: order, printing.
  The contract of meniscusref8.ReadDec: it reads what package dec reads.
  The small calls of package lex: bytes; a text that is read, as a block that its calls turn.
-/
import Derived.Test.YtggohceeeggnmaaGreatGc
import Derived.Test.YtggohceeeggnmaaGreatGd
import Derived.Test.YtggohceeeggnmaaGreatRef9

namespace Go.Proofs.YtggohceeeggnmaaGreat
set_option linter.unusedVariables false
open Go.ChangeShapes Go.WideShapes Go.ChangeAt Go.RowKit

section
variable {α : Type} (f : α → List Value) (m : Nat)
/-- The cells of a list, one value's behind the other's. -/
def flatC (l : List α) : List Value := l.flatMap f
theorem flatC_snoc (l : List α) (a : α) : flatC f (l ++ [a]) = flatC f l ++ f a := by simp [flatC]
theorem flatC_length (hf : ∀ a, (f a).length = m) : ∀ l : List α, (flatC f l).length = l.length * m
  | [] => by simp [flatC]
  | a :: r => by
    have := flatC_length hf r
    simp only [flatC, List.flatMap_cons, List.length_append, List.length_cons] at this ⊢
    rw [hf, this, Nat.succ_mul, Nat.add_comm]
theorem flatC_at (hf : ∀ a, (f a).length = m) : ∀ (l : List α) (k : Nat) (a : α), l[k]? = some a → ∀ j u, (f a)[j]? = some u → (flatC f l)[k * m + j]? = some u
  | [], k, a, h => by simp at h
  | b :: r, 0, a, h => by
    intro j u hu
    simp at h
    subst h
    have hj : j < (f b).length := (List.getElem?_eq_some_iff.1 hu).1
    simp only [flatC, List.flatMap_cons, Nat.zero_mul, Nat.zero_add]
    rw [List.getElem?_append_left hj]
    exact hu
  | b :: r, k + 1, a, h => by
    intro j u hu
    have := flatC_at hf r k a (by simpa using h) j u hu
    simp only [flatC, List.flatMap_cons] at this ⊢
    rw [List.getElem?_append_right (by rw [hf, Nat.succ_mul]; omega), hf, Nat.succ_mul, show k * m + m + j - m = k * m + j by omega]
    exact this
/-- The cells of the slice v hold the list l. -/
def GRow (w : World) (v : Value) (l : List α) : Prop :=
  (v = .slice none 0 0 ∧ l = []) ∨ ∃ g o c, v = .slice (some ⟨g, o, none⟩) l.length c ∧ l.length ≤ c ∧ ∀ k a, l[k]? = some a → ∀ j u, (f a)[j]? = some u → w.cell? ⟨g, o + (k * m + j), none⟩ = some u
variable {f m}
theorem GRow.of_owns {w : World} {base n : Nat} {v : Value} {e : TypeId} {l : List α} (hf : ∀ a, (f a).length = m) (hm : 0 < m) (h : w.ownsRow base e m v n (flatC f l)) : GRow f m w v l := by
  obtain ⟨hl, h⟩ := h
  rw [flatC_length f m hf] at hl
  have hn : n = l.length := (Nat.eq_of_mul_eq_mul_right hm hl).symm
  subst hn
  rcases h with ⟨rfl, h0⟩ | ⟨g, cap, cur, rfl, -, hg, hcap, -, -, ht⟩
  · exact .inl ⟨rfl, List.eq_nil_of_length_eq_zero h0⟩
  · refine .inr ⟨g, 0, cap, rfl, hcap, fun k a hk j u hu => ?_⟩
    have h1 := flatC_at f m hf l k a hk j u hu
    rw [← ht] at h1
    have hlt := (List.getElem?_eq_some_iff.1 h1).1
    rw [List.length_take] at hlt
    rw [List.getElem?_take_of_lt (by omega)] at h1
    simp only [Nat.zero_add, World.cell?, hg]
    simpa using h1
theorem GRow.keep {w w' : World} {v : Value} {l : List α} (h : GRow f m w v l) (hb : ∀ k, k < w.heap.size → w'.heap[k]? = w.heap[k]?) : GRow f m w' v l := by
  rcases h with h | ⟨g, o, c, hv, hcap, hc⟩
  · exact .inl h
  · refine .inr ⟨g, o, c, hv, hcap, fun k a hk j u hu => ?_⟩
    have h1 := hc k a hk j u hu
    rw [World.cell?_of_block (hb g (World.block_lt_of_cell? w _ h1))]
    exact h1
theorem GRow.up {w w' : World} {v : Value} {l : List α} (h : GRow f m w v l) (hm : More w w') : GRow f m w' v l := by
  obtain ⟨r, rfl⟩ := hm
  exact h.keep fun k hk => heap_more w r k hk
/-- What a row says, as a walk takes it: at each place. -/
theorem grow_form {w : World} {v : Value} {l : List α} (hf : ∀ a, 0 < (f a).length) (h : GRow f m w v l) : ∃ ao c, v = .slice ao l.length c ∧ (0 < l.length → ∃ b o, ao = some ⟨b, o, none⟩ ∧ b < w.heap.size ∧ ∀ k a, l[k]? = some a → ∀ j u, (f a)[j]? = some u → w.cell? ⟨b, o + (k * m + j), none⟩ = some u) := by
  rcases h with ⟨rfl, rfl⟩ | ⟨b, o, c, rfl, -, hc⟩
  · exact ⟨none, 0, rfl, fun h => by simp at h⟩
  · refine ⟨_, c, rfl, fun hl => ⟨b, o, rfl, ?_, hc⟩⟩
    have h0 : l[0]? = some (l[0]'hl) := List.getElem?_eq_getElem hl
    have := hc 0 _ h0 0 ((f (l[0]'hl))[0]'(hf _)) (List.getElem?_eq_getElem _)
    exact World.block_lt_of_cell? w _ this
theorem GRow.more {w : World} {v : Value} {l : List α} (h : GRow f m w v l) {r : Rest} : GRow f m (more w r) v l := h.keep fun k hk => heap_more w r k hk
theorem GRow.alloc {w : World} {v : Value} {l : List α} (h : GRow f m w v l) {o : Obj} : GRow f m (w.alloc o) v l := h.keep fun k hk => Below.heap_alloc w o k hk
theorem GRow.drew {w : World} {v : Value} {l : List α} (h : GRow f m w v l) : GRow f m w.drew v l := h.keep fun _ _ => rfl
theorem GRow.drewN {w : World} {v : Value} {l : List α} (h : GRow f m w v l) {n : Nat} : GRow f m (w.drewN n) v l := h.keep fun _ _ => rfl
theorem GRow.take {w : World} {ao : Option Addr} {n c k : Nat} {l : List α} (h : GRow f m w (.slice ao n c) l) (hk : k ≤ l.length) (h0 : ao ≠ none ∨ k = 0 ∧ c = 0) : GRow f m w (.slice ao k c) (l.take k) := by
  rcases h with ⟨hv, rfl⟩ | ⟨b, o, c', hv, hcap, hc⟩
  · injection hv with h1 h2 h3
    subst h1 h2 h3
    have : k = 0 := by simpa using hk
    subst this
    exact .inl ⟨rfl, rfl⟩
  · injection hv with h1 h2 h3
    subst h1 h2 h3
    refine .inr ⟨b, o, c, by rw [List.length_take, Nat.min_eq_left hk], by rw [List.length_take]; omega, fun i a hi j u hu => ?_⟩
    rw [List.getElem?_take] at hi
    split at hi
    · exact hc i a hi j u hu
    · cases hi
/-- What stands behind the first k. -/
theorem GRow.drop {w : World} {b o n c k c' : Nat} {l : List α} (h : GRow f m w (.slice (some ⟨b, o, none⟩) n c) l) (hk : k ≤ l.length) (hc' : l.length - k ≤ c') : GRow f m w (.slice (some ⟨b, o + k * m, none⟩) (l.length - k) c') (l.drop k) := by
  rcases h with ⟨hv, rfl⟩ | ⟨b, o, c1, hv, hcap, hc⟩
  · injection hv with h1 h2 h3
    cases h1
  · injection hv with h1 h2 h3
    cases h1
    refine .inr ⟨_, _, c', by rw [List.length_drop], by rw [List.length_drop]; exact hc', fun i a hi j u hu => ?_⟩
    rw [List.getElem?_drop] at hi
    have := hc (k + i) a hi j u hu
    rw [Nat.add_mul] at this
    rw [show o + k * m + (i * m + j) = o + (k * m + i * m + j) by omega]
    exact this
end

/-! A row that lies behind a world of so many blocks: told by what lies behind alone. -/
theorem heap_more_ge (w : World) (r : Rest) (k : Nat) (h : w.heap.size ≤ k) : (more w r).heap[k]? = r.X[k - w.heap.size]? := by
  unfold more; simp [Array.getElem?_append, Nat.not_lt.2 h]
def OwnS (base : Nat) (s : Rest) (e : TypeId) (m : Nat) (v : Value) (n : Nat) (xs : List Value) : Prop := ∀ w : World, w.heap.size = base → (more w s).ownsRow base e m v n xs
theorem owns_on {w w' : World} {base n m : Nat} {e : TypeId} {v : Value} {xs : List Value} (h : w.ownsRow base e m v n xs) (hb : ∀ k, base ≤ k → k < w.heap.size → w'.heap[k]? = w.heap[k]?) : w'.ownsRow base e m v n xs := by
  obtain ⟨hl, h⟩ := h
  refine ⟨hl, ?_⟩
  rcases h with h | ⟨g, cap, cur, hv, hg, hc, h1⟩
  · exact .inl h
  · exact .inr ⟨g, cap, cur, hv, hg, (hb g hg ((Array.getElem?_eq_some_iff.1 hc).1)).trans hc, h1⟩
theorem OwnS.of {w : World} {s : Rest} {base n m : Nat} {e : TypeId} {v : Value} {xs : List Value} (hb : w.heap.size = base) (h : (more w s).ownsRow base e m v n xs) : OwnS base s e m v n xs := by
  intro w' hw
  refine owns_on h fun k hk _ => ?_
  rw [heap_more_ge _ _ _ (by omega), heap_more_ge _ _ _ (by omega), hw, hb]
theorem OwnS.plus {s r : Rest} {base n m : Nat} {e : TypeId} {v : Value} {xs : List Value} (h : OwnS base s e m v n xs) : OwnS base (s.plus r) e m v n xs := by
  intro w hw
  rw [← more_more]
  exact owns_more (h w hw)
theorem OwnS.draw {s : Rest} {base n m k : Nat} {e : TypeId} {v : Value} {xs : List Value} (h : OwnS base s e m v n xs) : OwnS base (s.draw k) e m v n xs := by
  intro w hw
  exact owns_keep (h w hw) fun _ _ => rfl
theorem OwnS.nil (s : Rest) (base m : Nat) (e : TypeId) : OwnS base s e m (.slice none 0 0) 0 [] := fun w _ => World.ownsRow_nil _ _ _ _
/-- The cells of a block laid this moment. -/
theorem new_row {w : World} {e : TypeId} {b : Nat} (xs : List Value) (hb : b = w.heap.size) : ∀ j x, xs[j]? = some x → (w.alloc (.cells xs.toArray e)).cell? ((⟨b, 0, none⟩ : Addr).add j) = some x := by
  subst hb
  intro j x hx
  rw [Addr.add_lit, Nat.zero_add]
  simp only [World.cell?]
  rw [heap_alloc_new]
  simpa using hx

/-- 'append' of one value, on a row of the call's own. -/
theorem wpList_append_one {P : Program} {W2 : World} {s : Rest} {ops : Array Oper} {rest : List Oper} {o : Oper} {a : Act} {Q : Exit → Act → World → Prop}
    (hg : o.guard = none) (sl x : Operand) (t : TypeId) (hop : o.op = Op.call { callee := Callee.builtin Builtin.append, args := #[sl, x], argTypes := #[t, t] })
    (e : TypeId) (i : TypeInfo) (z : Value) (size bytes : Nat) (h1 : P.underlying t = some (.slice e)) (h2 : P.info? e = some i) (h3 : i.zero = some z) (h4 : i.size = size) (h5 : i.bytes = bytes) (h6 : z.cells.size = size) (h7 : 0 < size)
    (v : Value) (n : Nat) (xs : List Value) (base : Nat) (hb : base = W2.heap.size) (hs : a.eval sl = v) (hown : OwnS base s e size v n xs)
    (news : List Value) (c b : Nat) (hx : a.eval x = .slice (some ⟨b, 0, none⟩) 1 c) (hbx : b = W2.heap.size + s.len) (hn : news.length = size) (h1c : ∀ u ∈ news, u.oneCell' = true)
    (b1 : n + 1 ≤ maxLen) (b2 : (n + 1) * bytes ≤ 140737488355328)
    (hK : ∀ v' s', OwnS base s' e size v' (n + 1) (xs ++ news) → wpList P ops Q rest (a.put o.dst v') (more W2 s')) :
    wpList P ops Q (o :: rest) a ((more W2 s).alloc (.cells news.toArray e)) := by
  subst hb hbx
  have hw := hown W2 rfl
  refine wpList_append_row _ hg sl x t hop W2.heap.size e i z size bytes h1 h2 h3 h4 h5 h6 h7 v n xs hs (owns_alloc hw) ⟨_, 0, none⟩ 1 c news hx (by rw [hn, Nat.one_mul]) (new_row news (by simp)) h1c (by decide) b1 b2 (by simp; omega) ?_
  intro v' w' ho hgr _
  have hbl : Below W2.heap.size W2 w' := by
    have h0 : Below W2.heap.size W2 (more W2 s) := (More.more (More.refl W2) s).below
    exact (h0.alloc (by simp) _).grown hgr (by simp; omega) (fun g hg => (hw.lt g hg).1)
  obtain ⟨s', rfl⟩ := more_of_below hbl
  exact hK v' s' (OwnS.of rfl ho)

/-- A whole number that is not negative, as a word. -/
@[irreducible] def nw (n : Nat) : Nat := ww (n : Int) false
theorem nw_eq (n : Nat) : nw n = ww (n : Int) false := by unfold nw; rfl
@[go_sem, simp] theorem ww_nw (n : Nat) : ww (n : Int) false = nw n := (nw_eq n).symm

end Go.Proofs.YtggohceeeggnmaaGreat

namespace Go.Proofs.YtggohceeeggnmaaGreat
set_option linter.unusedVariables false
open Go.ChangeShapes Go.WideShapes Go.ChangeAt Go.RowKit

theorem p10_vals (n : Nat) (h : n ≤ 6) : (n = 0 ∧ p10 n = 1 ∧ p10 (6 - n) = 1000000) ∨ (n = 1 ∧ p10 n = 10 ∧ p10 (6 - n) = 100000) ∨ (n = 2 ∧ p10 n = 100 ∧ p10 (6 - n) = 10000) ∨ (n = 3 ∧ p10 n = 1000 ∧ p10 (6 - n) = 1000) ∨ (n = 4 ∧ p10 n = 10000 ∧ p10 (6 - n) = 100) ∨ (n = 5 ∧ p10 n = 100000 ∧ p10 (6 - n) = 10) ∨ (n = 6 ∧ p10 n = 1000000 ∧ p10 (6 - n) = 1) := by
  have : n = 0 ∨ n = 1 ∨ n = 2 ∨ n = 3 ∨ n = 4 ∨ n = 5 ∨ n = 6 := by omega
  rcases this with rfl | rfl | rfl | rfl | rfl | rfl | rfl <;> decide
theorem less_same (c c' : Int) (x y : Nat) (hx : x ≤ 6) (hy : y ≤ 6) : decide (c * p10 (6 - x) < c' * p10 (6 - y)) = decide (c * p10 y < c' * p10 x) := by
  rw [decide_eq_decide]
  rcases p10_vals x hx with ⟨_, e1, e2⟩ | ⟨_, e1, e2⟩ | ⟨_, e1, e2⟩ | ⟨_, e1, e2⟩ | ⟨_, e1, e2⟩ | ⟨_, e1, e2⟩ | ⟨_, e1, e2⟩ <;>
    rcases p10_vals y hy with ⟨_, f1, f2⟩ | ⟨_, f1, f2⟩ | ⟨_, f1, f2⟩ | ⟨_, f1, f2⟩ | ⟨_, f1, f2⟩ | ⟨_, f1, f2⟩ | ⟨_, f1, f2⟩ <;>
      ((rw [e1, e2, f1, f2]) <;> omega)

set_option maxHeartbeats 4000000 in
theorem decLess8_c (a b : Dec) (W : World) :
    Calls Tryz.prog 126 #[decV a, decV b] W fun e w' => e = .returned (.bool (decLess a b)) ∧ More W w' := by
  obtain ⟨c, s⟩ := a
  obtain ⟨c', s'⟩ := b
  unfold decLess
  cases hr : decRight ⟨c, s⟩ with
  | false =>
    go_enter Tryz.func126, Tryz.ntmps126
    go_wp2_with (first | (go_at_call 106; (with_reducible refine (rright8_c _ _).mono ?_); rintro e w' ⟨rfl, r, rfl⟩) | (go_at_call 106; (with_reducible refine (rright8_c ⟨_, _⟩ _).mono ?_); rintro e w' ⟨rfl, r, rfl⟩) | (go_at_call 108; (with_reducible refine (ten_c _ (by omega) (by omega) _).mono ?_); rintro e w' ⟨rfl, rfl⟩) | ((with_reducible show Code.wp _ (Code.region 1 _ true) _ _ _); (with_reducible refine wp_more_quick_m (id := 1) ?_ ?_ ?_); kernel_rfl; kernel_rfl; (try simp only [List.take_succ_cons, List.take_zero, List.drop_succ_cons, List.drop_zero]); (repeat (any_goals (first | go_big_quiet_step ((first | (go_at_call 106; (with_reducible apply quiet_call_b); (with_reducible exact rright8_c _ _); with_reducible assumption) | (go_at_call 106; (with_reducible apply quiet_call); with_reducible exact rright8_c _ _) | (go_at_call 106; (with_reducible apply quiet_call_b); (with_reducible exact rright8_c ⟨_, _⟩ _); with_reducible assumption) | (go_at_call 106; (with_reducible apply quiet_call); with_reducible exact rright8_c ⟨_, _⟩ _) | (go_at_call 108; (with_reducible apply quiet_call_same); with_reducible exact ten_c _ (by omega) (by omega) _))) | quiet_step ((first | (go_at_call 106; (with_reducible apply quiet_call_b); (with_reducible exact rright8_c _ _); with_reducible assumption) | (go_at_call 106; (with_reducible apply quiet_call); with_reducible exact rright8_c _ _) | (go_at_call 106; (with_reducible apply quiet_call_b); (with_reducible exact rright8_c ⟨_, _⟩ _); with_reducible assumption) | (go_at_call 106; (with_reducible apply quiet_call); with_reducible exact rright8_c ⟨_, _⟩ _) | (go_at_call 108; (with_reducible apply quiet_call_same); with_reducible exact ten_c _ (by omega) (by omega) _)))))); (with_reducible refine wpQuiet_nil ?_); intro r) | ((with_reducible show Code.wp _ (Code.region 1 _ true) _ _ _); (with_reducible refine wp_more_quick (id := 1) ?_ ?_ ?_); kernel_rfl; kernel_rfl; (try simp only [List.take_succ_cons, List.take_zero, List.drop_succ_cons, List.drop_zero]); (repeat (any_goals (first | go_big_quiet_step ((first | (go_at_call 106; (with_reducible apply quiet_call_b); (with_reducible exact rright8_c _ _); with_reducible assumption) | (go_at_call 106; (with_reducible apply quiet_call); with_reducible exact rright8_c _ _) | (go_at_call 106; (with_reducible apply quiet_call_b); (with_reducible exact rright8_c ⟨_, _⟩ _); with_reducible assumption) | (go_at_call 106; (with_reducible apply quiet_call); with_reducible exact rright8_c ⟨_, _⟩ _) | (go_at_call 108; (with_reducible apply quiet_call_same); with_reducible exact ten_c _ (by omega) (by omega) _))) | quiet_step ((first | (go_at_call 106; (with_reducible apply quiet_call_b); (with_reducible exact rright8_c _ _); with_reducible assumption) | (go_at_call 106; (with_reducible apply quiet_call); with_reducible exact rright8_c _ _) | (go_at_call 106; (with_reducible apply quiet_call_b); (with_reducible exact rright8_c ⟨_, _⟩ _); with_reducible assumption) | (go_at_call 106; (with_reducible apply quiet_call); with_reducible exact rright8_c ⟨_, _⟩ _) | (go_at_call 108; (with_reducible apply quiet_call_same); with_reducible exact ten_c _ (by omega) (by omega) _)))))); (with_reducible refine wpQuiet_nil ?_); intro r))
    go_returns
    exact ⟨rfl, (by repeat (first | exact More.refl _ | refine More.alloc ?_ _ | refine More.more ?_ _ | refine More.drew ?_ | refine More.drewN ?_ _))⟩
  | true =>
    cases hr' : decRight ⟨c', s'⟩ with
    | false =>
      go_enter Tryz.func126, Tryz.ntmps126
      go_wp2_with (first | (go_at_call 106; (with_reducible refine (rright8_c _ _).mono ?_); rintro e w' ⟨rfl, r, rfl⟩) | (go_at_call 106; (with_reducible refine (rright8_c ⟨_, _⟩ _).mono ?_); rintro e w' ⟨rfl, r, rfl⟩) | (go_at_call 108; (with_reducible refine (ten_c _ (by omega) (by omega) _).mono ?_); rintro e w' ⟨rfl, rfl⟩) | ((with_reducible show Code.wp _ (Code.region 1 _ true) _ _ _); (with_reducible refine wp_more_quick_m (id := 1) ?_ ?_ ?_); kernel_rfl; kernel_rfl; (try simp only [List.take_succ_cons, List.take_zero, List.drop_succ_cons, List.drop_zero]); (repeat (any_goals (first | go_big_quiet_step ((first | (go_at_call 106; (with_reducible apply quiet_call_b); (with_reducible exact rright8_c _ _); with_reducible assumption) | (go_at_call 106; (with_reducible apply quiet_call); with_reducible exact rright8_c _ _) | (go_at_call 106; (with_reducible apply quiet_call_b); (with_reducible exact rright8_c ⟨_, _⟩ _); with_reducible assumption) | (go_at_call 106; (with_reducible apply quiet_call); with_reducible exact rright8_c ⟨_, _⟩ _) | (go_at_call 108; (with_reducible apply quiet_call_same); with_reducible exact ten_c _ (by omega) (by omega) _))) | quiet_step ((first | (go_at_call 106; (with_reducible apply quiet_call_b); (with_reducible exact rright8_c _ _); with_reducible assumption) | (go_at_call 106; (with_reducible apply quiet_call); with_reducible exact rright8_c _ _) | (go_at_call 106; (with_reducible apply quiet_call_b); (with_reducible exact rright8_c ⟨_, _⟩ _); with_reducible assumption) | (go_at_call 106; (with_reducible apply quiet_call); with_reducible exact rright8_c ⟨_, _⟩ _) | (go_at_call 108; (with_reducible apply quiet_call_same); with_reducible exact ten_c _ (by omega) (by omega) _)))))); (with_reducible refine wpQuiet_nil ?_); intro r) | ((with_reducible show Code.wp _ (Code.region 1 _ true) _ _ _); (with_reducible refine wp_more_quick (id := 1) ?_ ?_ ?_); kernel_rfl; kernel_rfl; (try simp only [List.take_succ_cons, List.take_zero, List.drop_succ_cons, List.drop_zero]); (repeat (any_goals (first | go_big_quiet_step ((first | (go_at_call 106; (with_reducible apply quiet_call_b); (with_reducible exact rright8_c _ _); with_reducible assumption) | (go_at_call 106; (with_reducible apply quiet_call); with_reducible exact rright8_c _ _) | (go_at_call 106; (with_reducible apply quiet_call_b); (with_reducible exact rright8_c ⟨_, _⟩ _); with_reducible assumption) | (go_at_call 106; (with_reducible apply quiet_call); with_reducible exact rright8_c ⟨_, _⟩ _) | (go_at_call 108; (with_reducible apply quiet_call_same); with_reducible exact ten_c _ (by omega) (by omega) _))) | quiet_step ((first | (go_at_call 106; (with_reducible apply quiet_call_b); (with_reducible exact rright8_c _ _); with_reducible assumption) | (go_at_call 106; (with_reducible apply quiet_call); with_reducible exact rright8_c _ _) | (go_at_call 106; (with_reducible apply quiet_call_b); (with_reducible exact rright8_c ⟨_, _⟩ _); with_reducible assumption) | (go_at_call 106; (with_reducible apply quiet_call); with_reducible exact rright8_c ⟨_, _⟩ _) | (go_at_call 108; (with_reducible apply quiet_call_same); with_reducible exact ten_c _ (by omega) (by omega) _)))))); (with_reducible refine wpQuiet_nil ?_); intro r))
      go_returns
      exact ⟨rfl, (by repeat (first | exact More.refl _ | refine More.alloc ?_ _ | refine More.more ?_ _ | refine More.drew ?_ | refine More.drewN ?_ _))⟩
    | true =>
      obtain ⟨⟨h1, h2⟩, h3, h4, _⟩ := decRight_bd hr
      obtain ⟨⟨k1, k2⟩, k3, k4, _⟩ := decRight_bd hr'
      obtain ⟨x, rfl⟩ := Int.eq_ofNat_of_zero_le h3
      obtain ⟨y, rfl⟩ := Int.eq_ofNat_of_zero_le k3
      have hp := p10_bd (6 - x) (by omega)
      have hp' := p10_bd (6 - y) (by omega)
      have hm := cmul_bd c (p10 (6 - x)) h1 h2 hp.1 hp.2
      have hm' := cmul_bd c' (p10 (6 - y)) k1 k2 hp'.1 hp'.2
      have e1 : ((6 : Int) - (x : Int)).toNat = 6 - x := by omega
      have e2 : ((6 : Int) - (y : Int)).toNat = 6 - y := by omega
      have hs := less_same c c' x y (by omega) (by omega)
      show Calls _ _ _ _ fun e w' => e = .returned (.bool (true && true && decide (c * p10 y < c' * p10 x))) ∧ _
      rw [← hs]
      clear hs
      go_enter Tryz.func126, Tryz.ntmps126
      go_wp2_with (first | (go_at_call 106; (with_reducible refine (rright8_c _ _).mono ?_); rintro e w' ⟨rfl, r, rfl⟩) | (go_at_call 106; (with_reducible refine (rright8_c ⟨_, _⟩ _).mono ?_); rintro e w' ⟨rfl, r, rfl⟩) | (go_at_call 108; (with_reducible refine (ten_c _ (by omega) (by omega) _).mono ?_); rintro e w' ⟨rfl, rfl⟩) | ((with_reducible show Code.wp _ (Code.region 1 _ true) _ _ _); (with_reducible refine wp_more_quick_m (id := 1) ?_ ?_ ?_); kernel_rfl; kernel_rfl; (try simp only [List.take_succ_cons, List.take_zero, List.drop_succ_cons, List.drop_zero]); (repeat (any_goals (first | go_big_quiet_step ((first | (go_at_call 106; (with_reducible apply quiet_call_b); (with_reducible exact rright8_c _ _); with_reducible assumption) | (go_at_call 106; (with_reducible apply quiet_call); with_reducible exact rright8_c _ _) | (go_at_call 106; (with_reducible apply quiet_call_b); (with_reducible exact rright8_c ⟨_, _⟩ _); with_reducible assumption) | (go_at_call 106; (with_reducible apply quiet_call); with_reducible exact rright8_c ⟨_, _⟩ _) | (go_at_call 108; (with_reducible apply quiet_call_same); with_reducible exact ten_c _ (by omega) (by omega) _))) | quiet_step ((first | (go_at_call 106; (with_reducible apply quiet_call_b); (with_reducible exact rright8_c _ _); with_reducible assumption) | (go_at_call 106; (with_reducible apply quiet_call); with_reducible exact rright8_c _ _) | (go_at_call 106; (with_reducible apply quiet_call_b); (with_reducible exact rright8_c ⟨_, _⟩ _); with_reducible assumption) | (go_at_call 106; (with_reducible apply quiet_call); with_reducible exact rright8_c ⟨_, _⟩ _) | (go_at_call 108; (with_reducible apply quiet_call_same); with_reducible exact ten_c _ (by omega) (by omega) _)))))); (with_reducible refine wpQuiet_nil ?_); intro r) | ((with_reducible show Code.wp _ (Code.region 1 _ true) _ _ _); (with_reducible refine wp_more_quick (id := 1) ?_ ?_ ?_); kernel_rfl; kernel_rfl; (try simp only [List.take_succ_cons, List.take_zero, List.drop_succ_cons, List.drop_zero]); (repeat (any_goals (first | go_big_quiet_step ((first | (go_at_call 106; (with_reducible apply quiet_call_b); (with_reducible exact rright8_c _ _); with_reducible assumption) | (go_at_call 106; (with_reducible apply quiet_call); with_reducible exact rright8_c _ _) | (go_at_call 106; (with_reducible apply quiet_call_b); (with_reducible exact rright8_c ⟨_, _⟩ _); with_reducible assumption) | (go_at_call 106; (with_reducible apply quiet_call); with_reducible exact rright8_c ⟨_, _⟩ _) | (go_at_call 108; (with_reducible apply quiet_call_same); with_reducible exact ten_c _ (by omega) (by omega) _))) | quiet_step ((first | (go_at_call 106; (with_reducible apply quiet_call_b); (with_reducible exact rright8_c _ _); with_reducible assumption) | (go_at_call 106; (with_reducible apply quiet_call); with_reducible exact rright8_c _ _) | (go_at_call 106; (with_reducible apply quiet_call_b); (with_reducible exact rright8_c ⟨_, _⟩ _); with_reducible assumption) | (go_at_call 106; (with_reducible apply quiet_call); with_reducible exact rright8_c ⟨_, _⟩ _) | (go_at_call 108; (with_reducible apply quiet_call_same); with_reducible exact ten_c _ (by omega) (by omega) _)))))); (with_reducible refine wpQuiet_nil ?_); intro r))
      go_returns
      exact ⟨rfl, (by repeat (first | exact More.refl _ | refine More.alloc ?_ _ | refine More.more ?_ _ | refine More.drew ?_ | refine More.drewN ?_ _))⟩

set_option maxHeartbeats 4000000 in
theorem print8_c (d : Dec) (W : World) :
    Calls Tryz.prog 125 #[decV d] W fun e w' => e = .returned (.string (bsOf (printP d))) ∧ More W w' := by
  obtain ⟨c, s⟩ := d
  cases hr : decRight ⟨c, s⟩ with
  | false =>
    have hp : printP ⟨c, s⟩ = [] := by unfold printP; rw [hr]; rfl
    rw [hp]
    clear hp
    go_enter Tryz.func125, Tryz.ntmps125
    go_wp2_with (first | (go_at_call 63; (with_reducible refine (digits8_c _ (by omega) (by omega) _).mono ?_); rintro e w' ⟨rfl, r, rfl⟩) | (go_at_call 106; (with_reducible refine (rright8_c _ _).mono ?_); rintro e w' ⟨rfl, r, rfl⟩) | (go_at_call 106; (with_reducible refine (rright8_c ⟨_, _⟩ _).mono ?_); rintro e w' ⟨rfl, r, rfl⟩) | (go_at_call 108; (with_reducible refine (ten_c _ (by omega) (by omega) _).mono ?_); rintro e w' ⟨rfl, rfl⟩) | ((with_reducible show Code.wp _ (Code.region 11 _ true) _ _ _); (with_reducible refine wp_more_quick_m (id := 11) ?_ ?_ ?_); kernel_rfl; kernel_rfl; (try simp only [List.take_succ_cons, List.take_zero, List.drop_succ_cons, List.drop_zero]); (repeat (any_goals (first | go_big_quiet_step ((first | (go_at_call 63; (with_reducible apply quiet_call); with_reducible exact digits8_c _ (by omega) (by omega) _) | (go_at_call 108; (with_reducible apply quiet_call_same); with_reducible exact ten_c _ (by omega) (by omega) _))) | quiet_step ((first | (go_at_call 63; (with_reducible apply quiet_call); with_reducible exact digits8_c _ (by omega) (by omega) _) | (go_at_call 108; (with_reducible apply quiet_call_same); with_reducible exact ten_c _ (by omega) (by omega) _)))))); (with_reducible refine wpQuiet_nil ?_); intro r) | ((with_reducible show Code.wp _ (Code.region 11 _ true) _ _ _); (with_reducible refine wp_more_quick (id := 11) ?_ ?_ ?_); kernel_rfl; kernel_rfl; (try simp only [List.take_succ_cons, List.take_zero, List.drop_succ_cons, List.drop_zero]); (repeat (any_goals (first | go_big_quiet_step ((first | (go_at_call 63; (with_reducible apply quiet_call); with_reducible exact digits8_c _ (by omega) (by omega) _) | (go_at_call 108; (with_reducible apply quiet_call_same); with_reducible exact ten_c _ (by omega) (by omega) _))) | quiet_step ((first | (go_at_call 63; (with_reducible apply quiet_call); with_reducible exact digits8_c _ (by omega) (by omega) _) | (go_at_call 108; (with_reducible apply quiet_call_same); with_reducible exact ten_c _ (by omega) (by omega) _)))))); (with_reducible refine wpQuiet_nil ?_); intro r))
    go_returns
    exact ⟨rfl, (by repeat (first | exact More.refl _ | refine More.alloc ?_ _ | refine More.more ?_ _ | refine More.drew ?_ | refine More.drewN ?_ _))⟩
  | true =>
    obtain ⟨⟨h1, h2⟩, h3, h4, _⟩ := decRight_bd hr
    obtain ⟨k, rfl⟩ := Int.eq_ofNat_of_zero_le h3
    have hp : printP ⟨c, (k : Int)⟩ = if c.natAbs / 10 ^ k ≤ 99999 then (if c < 0 then [45] else []) ++ (Lib.decDigits (c.natAbs / 10 ^ k) ++ if (k : Int) = 0 then [] else 46 :: tailL c.natAbs k) else [] := by
      unfold printP
      rw [hr]
      by_cases hh : c.natAbs / 10 ^ k ≤ 99999
      · rw [if_pos hh, if_pos ⟨rfl, hh⟩]
        rfl
      · rw [if_neg hh, if_neg (fun hx => hh hx.2)]
    rw [hp]
    clear hp
    have hTb : (10 : Nat) ^ k ≤ 1000000 := by
      have : (10 : Nat) ^ k ≤ 10 ^ 6 := Nat.pow_le_pow_right (by decide) (by omega)
      omega
    have hT0 : 1 ≤ (10 : Nat) ^ k := Nat.pow_pos (by decide)
    have hT : p10 k = (((10 : Nat) ^ k : Nat) : Int) := by unfold p10; simp
    have hN : max c (-c) = (c.natAbs : Int) := by omega
    have htl : Lib.decDigits (c.natAbs % 10 ^ k + 10 ^ k) = (Lib.decDigits (c.natAbs % 10 ^ k + 10 ^ k)).headD 0 :: tailL c.natAbs k := by
      unfold tailL
      cases e : Lib.decDigits (c.natAbs % 10 ^ k + 10 ^ k) with
      | nil => exact absurd e (dig_ne _)
      | cons a r => rfl
    have hRb : c.natAbs % 10 ^ k < 10 ^ k := Nat.mod_lt _ hT0
    have hl5 := dig_len5 (c.natAbs / 10 ^ k)
    have hBl := tail_len k c.natAbs
    have hNb : c.natAbs ≤ 100000000000 := by omega
    have hHq : ((c.natAbs : Int) / (((10 : Nat) ^ k : Nat) : Int)) = ((c.natAbs / 10 ^ k : Nat) : Int) := rfl
    have hRq : ((c.natAbs : Int) % (((10 : Nat) ^ k : Nat) : Int)) = ((c.natAbs % 10 ^ k : Nat) : Int) := rfl
    generalize (Lib.decDigits (c.natAbs % 10 ^ k + 10 ^ k)).headD 0 = b0 at *
    generalize tailL c.natAbs k = B at *
    have hHN : c.natAbs / 10 ^ k ≤ c.natAbs := Nat.div_le_self _ _
    generalize c.natAbs / 10 ^ k = H at *
    generalize c.natAbs % 10 ^ k = R at *
    generalize (10 : Nat) ^ k = T at *
    generalize c.natAbs = N at *
    have hTB : B.take k = B := List.take_of_length_le (by omega)
    have hsum : ((R : Int) + (T : Int)).toNat = R + T := by omega
    by_cases hH : H ≤ 99999
    · rw [if_pos hH]
      have hA := hl5.2 hH
      clear hl5
      by_cases hk : k = 0
      · subst hk
        rw [if_pos (show ((0 : Nat) : Int) = 0 from rfl), List.append_nil]
        have hr0 : decRight ⟨c, 0⟩ = true := hr
        clear hr htl
        by_cases hc : c < 0
        · rw [if_pos hc]
          go_enter Tryz.func125, Tryz.ntmps125
          go_wp2_with (first | (go_at_call 63; (with_reducible refine (digits8_c _ (by omega) (by omega) _).mono ?_); rintro e w' ⟨rfl, r, rfl⟩) | (go_at_call 106; (with_reducible refine (rright8_c _ _).mono ?_); rintro e w' ⟨rfl, r, rfl⟩) | (go_at_call 106; (with_reducible refine (rright8_c ⟨_, _⟩ _).mono ?_); rintro e w' ⟨rfl, r, rfl⟩) | (go_at_call 108; (with_reducible refine (ten_c _ (by omega) (by omega) _).mono ?_); rintro e w' ⟨rfl, rfl⟩) | ((with_reducible show Code.wp _ (Code.region 11 _ true) _ _ _); (with_reducible refine wp_more_quick_m (id := 11) ?_ ?_ ?_); kernel_rfl; kernel_rfl; (try simp only [List.take_succ_cons, List.take_zero, List.drop_succ_cons, List.drop_zero]); (repeat (any_goals (first | go_big_quiet_step ((first | (go_at_call 63; (with_reducible apply quiet_call); with_reducible exact digits8_c _ (by omega) (by omega) _) | (go_at_call 108; (with_reducible apply quiet_call_same); with_reducible exact ten_c _ (by omega) (by omega) _))) | quiet_step ((first | (go_at_call 63; (with_reducible apply quiet_call); with_reducible exact digits8_c _ (by omega) (by omega) _) | (go_at_call 108; (with_reducible apply quiet_call_same); with_reducible exact ten_c _ (by omega) (by omega) _)))))); (with_reducible refine wpQuiet_nil ?_); intro r) | ((with_reducible show Code.wp _ (Code.region 11 _ true) _ _ _); (with_reducible refine wp_more_quick (id := 11) ?_ ?_ ?_); kernel_rfl; kernel_rfl; (try simp only [List.take_succ_cons, List.take_zero, List.drop_succ_cons, List.drop_zero]); (repeat (any_goals (first | go_big_quiet_step ((first | (go_at_call 63; (with_reducible apply quiet_call); with_reducible exact digits8_c _ (by omega) (by omega) _) | (go_at_call 108; (with_reducible apply quiet_call_same); with_reducible exact ten_c _ (by omega) (by omega) _))) | quiet_step ((first | (go_at_call 63; (with_reducible apply quiet_call); with_reducible exact digits8_c _ (by omega) (by omega) _) | (go_at_call 108; (with_reducible apply quiet_call_same); with_reducible exact ten_c _ (by omega) (by omega) _)))))); (with_reducible refine wpQuiet_nil ?_); intro r))
          go_returns
          exact ⟨rfl, (by repeat (first | exact More.refl _ | refine More.alloc ?_ _ | refine More.more ?_ _ | refine More.drew ?_ | refine More.drewN ?_ _))⟩
        · rw [if_neg hc]
          go_enter Tryz.func125, Tryz.ntmps125
          go_wp2_with (first | (go_at_call 63; (with_reducible refine (digits8_c _ (by omega) (by omega) _).mono ?_); rintro e w' ⟨rfl, r, rfl⟩) | (go_at_call 106; (with_reducible refine (rright8_c _ _).mono ?_); rintro e w' ⟨rfl, r, rfl⟩) | (go_at_call 106; (with_reducible refine (rright8_c ⟨_, _⟩ _).mono ?_); rintro e w' ⟨rfl, r, rfl⟩) | (go_at_call 108; (with_reducible refine (ten_c _ (by omega) (by omega) _).mono ?_); rintro e w' ⟨rfl, rfl⟩) | ((with_reducible show Code.wp _ (Code.region 11 _ true) _ _ _); (with_reducible refine wp_more_quick_m (id := 11) ?_ ?_ ?_); kernel_rfl; kernel_rfl; (try simp only [List.take_succ_cons, List.take_zero, List.drop_succ_cons, List.drop_zero]); (repeat (any_goals (first | go_big_quiet_step ((first | (go_at_call 63; (with_reducible apply quiet_call); with_reducible exact digits8_c _ (by omega) (by omega) _) | (go_at_call 108; (with_reducible apply quiet_call_same); with_reducible exact ten_c _ (by omega) (by omega) _))) | quiet_step ((first | (go_at_call 63; (with_reducible apply quiet_call); with_reducible exact digits8_c _ (by omega) (by omega) _) | (go_at_call 108; (with_reducible apply quiet_call_same); with_reducible exact ten_c _ (by omega) (by omega) _)))))); (with_reducible refine wpQuiet_nil ?_); intro r) | ((with_reducible show Code.wp _ (Code.region 11 _ true) _ _ _); (with_reducible refine wp_more_quick (id := 11) ?_ ?_ ?_); kernel_rfl; kernel_rfl; (try simp only [List.take_succ_cons, List.take_zero, List.drop_succ_cons, List.drop_zero]); (repeat (any_goals (first | go_big_quiet_step ((first | (go_at_call 63; (with_reducible apply quiet_call); with_reducible exact digits8_c _ (by omega) (by omega) _) | (go_at_call 108; (with_reducible apply quiet_call_same); with_reducible exact ten_c _ (by omega) (by omega) _))) | quiet_step ((first | (go_at_call 63; (with_reducible apply quiet_call); with_reducible exact digits8_c _ (by omega) (by omega) _) | (go_at_call 108; (with_reducible apply quiet_call_same); with_reducible exact ten_c _ (by omega) (by omega) _)))))); (with_reducible refine wpQuiet_nil ?_); intro r))
          go_returns
          exact ⟨rfl, (by repeat (first | exact More.refl _ | refine More.alloc ?_ _ | refine More.more ?_ _ | refine More.drew ?_ | refine More.drewN ?_ _))⟩
      · rw [if_neg (show ¬ (k : Int) = 0 by omega)]
        by_cases hc : c < 0
        · rw [if_pos hc]
          go_enter Tryz.func125, Tryz.ntmps125
          go_wp2_with (first | (go_at_call 63; (with_reducible refine (digits8_c _ (by omega) (by omega) _).mono ?_); rintro e w' ⟨rfl, r, rfl⟩) | (go_at_call 106; (with_reducible refine (rright8_c _ _).mono ?_); rintro e w' ⟨rfl, r, rfl⟩) | (go_at_call 106; (with_reducible refine (rright8_c ⟨_, _⟩ _).mono ?_); rintro e w' ⟨rfl, r, rfl⟩) | (go_at_call 108; (with_reducible refine (ten_c _ (by omega) (by omega) _).mono ?_); rintro e w' ⟨rfl, rfl⟩) | ((with_reducible show Code.wp _ (Code.region 11 _ true) _ _ _); (with_reducible refine wp_more_quick_m (id := 11) ?_ ?_ ?_); kernel_rfl; kernel_rfl; (try simp only [List.take_succ_cons, List.take_zero, List.drop_succ_cons, List.drop_zero]); (repeat (any_goals (first | go_big_quiet_step ((first | (go_at_call 63; (with_reducible apply quiet_call); with_reducible exact digits8_c _ (by omega) (by omega) _) | (go_at_call 108; (with_reducible apply quiet_call_same); with_reducible exact ten_c _ (by omega) (by omega) _))) | quiet_step ((first | (go_at_call 63; (with_reducible apply quiet_call); with_reducible exact digits8_c _ (by omega) (by omega) _) | (go_at_call 108; (with_reducible apply quiet_call_same); with_reducible exact ten_c _ (by omega) (by omega) _)))))); (with_reducible refine wpQuiet_nil ?_); intro r) | ((with_reducible show Code.wp _ (Code.region 11 _ true) _ _ _); (with_reducible refine wp_more_quick (id := 11) ?_ ?_ ?_); kernel_rfl; kernel_rfl; (try simp only [List.take_succ_cons, List.take_zero, List.drop_succ_cons, List.drop_zero]); (repeat (any_goals (first | go_big_quiet_step ((first | (go_at_call 63; (with_reducible apply quiet_call); with_reducible exact digits8_c _ (by omega) (by omega) _) | (go_at_call 108; (with_reducible apply quiet_call_same); with_reducible exact ten_c _ (by omega) (by omega) _))) | quiet_step ((first | (go_at_call 63; (with_reducible apply quiet_call); with_reducible exact digits8_c _ (by omega) (by omega) _) | (go_at_call 108; (with_reducible apply quiet_call_same); with_reducible exact ten_c _ (by omega) (by omega) _)))))); (with_reducible refine wpQuiet_nil ?_); intro r))
          go_returns
          exact ⟨rfl, (by repeat (first | exact More.refl _ | refine More.alloc ?_ _ | refine More.more ?_ _ | refine More.drew ?_ | refine More.drewN ?_ _))⟩
        · rw [if_neg hc]
          go_enter Tryz.func125, Tryz.ntmps125
          go_wp2_with (first | (go_at_call 63; (with_reducible refine (digits8_c _ (by omega) (by omega) _).mono ?_); rintro e w' ⟨rfl, r, rfl⟩) | (go_at_call 106; (with_reducible refine (rright8_c _ _).mono ?_); rintro e w' ⟨rfl, r, rfl⟩) | (go_at_call 106; (with_reducible refine (rright8_c ⟨_, _⟩ _).mono ?_); rintro e w' ⟨rfl, r, rfl⟩) | (go_at_call 108; (with_reducible refine (ten_c _ (by omega) (by omega) _).mono ?_); rintro e w' ⟨rfl, rfl⟩) | ((with_reducible show Code.wp _ (Code.region 11 _ true) _ _ _); (with_reducible refine wp_more_quick_m (id := 11) ?_ ?_ ?_); kernel_rfl; kernel_rfl; (try simp only [List.take_succ_cons, List.take_zero, List.drop_succ_cons, List.drop_zero]); (repeat (any_goals (first | go_big_quiet_step ((first | (go_at_call 63; (with_reducible apply quiet_call); with_reducible exact digits8_c _ (by omega) (by omega) _) | (go_at_call 108; (with_reducible apply quiet_call_same); with_reducible exact ten_c _ (by omega) (by omega) _))) | quiet_step ((first | (go_at_call 63; (with_reducible apply quiet_call); with_reducible exact digits8_c _ (by omega) (by omega) _) | (go_at_call 108; (with_reducible apply quiet_call_same); with_reducible exact ten_c _ (by omega) (by omega) _)))))); (with_reducible refine wpQuiet_nil ?_); intro r) | ((with_reducible show Code.wp _ (Code.region 11 _ true) _ _ _); (with_reducible refine wp_more_quick (id := 11) ?_ ?_ ?_); kernel_rfl; kernel_rfl; (try simp only [List.take_succ_cons, List.take_zero, List.drop_succ_cons, List.drop_zero]); (repeat (any_goals (first | go_big_quiet_step ((first | (go_at_call 63; (with_reducible apply quiet_call); with_reducible exact digits8_c _ (by omega) (by omega) _) | (go_at_call 108; (with_reducible apply quiet_call_same); with_reducible exact ten_c _ (by omega) (by omega) _))) | quiet_step ((first | (go_at_call 63; (with_reducible apply quiet_call); with_reducible exact digits8_c _ (by omega) (by omega) _) | (go_at_call 108; (with_reducible apply quiet_call_same); with_reducible exact ten_c _ (by omega) (by omega) _)))))); (with_reducible refine wpQuiet_nil ?_); intro r))
          go_returns
          exact ⟨rfl, (by repeat (first | exact More.refl _ | refine More.alloc ?_ _ | refine More.more ?_ _ | refine More.drew ?_ | refine More.drewN ?_ _))⟩
    · rw [if_neg hH]
      clear hl5 htl
      go_enter Tryz.func125, Tryz.ntmps125
      go_wp2_with (first | (go_at_call 63; (with_reducible refine (digits8_c _ (by omega) (by omega) _).mono ?_); rintro e w' ⟨rfl, r, rfl⟩) | (go_at_call 106; (with_reducible refine (rright8_c _ _).mono ?_); rintro e w' ⟨rfl, r, rfl⟩) | (go_at_call 106; (with_reducible refine (rright8_c ⟨_, _⟩ _).mono ?_); rintro e w' ⟨rfl, r, rfl⟩) | (go_at_call 108; (with_reducible refine (ten_c _ (by omega) (by omega) _).mono ?_); rintro e w' ⟨rfl, rfl⟩) | ((with_reducible show Code.wp _ (Code.region 11 _ true) _ _ _); (with_reducible refine wp_more_quick_m (id := 11) ?_ ?_ ?_); kernel_rfl; kernel_rfl; (try simp only [List.take_succ_cons, List.take_zero, List.drop_succ_cons, List.drop_zero]); (repeat (any_goals (first | go_big_quiet_step ((first | (go_at_call 63; (with_reducible apply quiet_call); with_reducible exact digits8_c _ (by omega) (by omega) _) | (go_at_call 108; (with_reducible apply quiet_call_same); with_reducible exact ten_c _ (by omega) (by omega) _))) | quiet_step ((first | (go_at_call 63; (with_reducible apply quiet_call); with_reducible exact digits8_c _ (by omega) (by omega) _) | (go_at_call 108; (with_reducible apply quiet_call_same); with_reducible exact ten_c _ (by omega) (by omega) _)))))); (with_reducible refine wpQuiet_nil ?_); intro r) | ((with_reducible show Code.wp _ (Code.region 11 _ true) _ _ _); (with_reducible refine wp_more_quick (id := 11) ?_ ?_ ?_); kernel_rfl; kernel_rfl; (try simp only [List.take_succ_cons, List.take_zero, List.drop_succ_cons, List.drop_zero]); (repeat (any_goals (first | go_big_quiet_step ((first | (go_at_call 63; (with_reducible apply quiet_call); with_reducible exact digits8_c _ (by omega) (by omega) _) | (go_at_call 108; (with_reducible apply quiet_call_same); with_reducible exact ten_c _ (by omega) (by omega) _))) | quiet_step ((first | (go_at_call 63; (with_reducible apply quiet_call); with_reducible exact digits8_c _ (by omega) (by omega) _) | (go_at_call 108; (with_reducible apply quiet_call_same); with_reducible exact ten_c _ (by omega) (by omega) _)))))); (with_reducible refine wpQuiet_nil ?_); intro r))
      go_returns
      exact ⟨rfl, (by repeat (first | exact More.refl _ | refine More.alloc ?_ _ | refine More.more ?_ _ | refine More.drew ?_ | refine More.drewN ?_ _))⟩

end Go.Proofs.YtggohceeeggnmaaGreat

namespace Go.Proofs.YtggohceeeggnmaaGreat
set_option linter.unusedVariables false
open Go.ChangeShapes Go.WideShapes Go.ChangeAt Go.RowKit

/-- The number in a cell. -/
def cellNat (w : World) (b o : Nat) : Nat := match w.cell? ⟨b, o, none⟩ with | some (.int _ n) => n.toNat | _ => 0
theorem cellNat_two (W : World) (o : Obj) (r : Rest) (a b : Int) (T : TypeId) : cellNat (more ((W.alloc o).alloc (.cells #[.int .i64 a, .int .i64 b] T)) r) (W.heap.size + 1) 1 = b.toNat := by
  unfold cellNat
  rw [cell_more _ _ _ _ (by simp)]
  have : ((W.alloc o).alloc (.cells #[.int .i64 a, .int .i64 b] T)).cell? ⟨W.heap.size + 1, 1, none⟩ = some (.int .i64 b) := by
    have e : W.heap.size + 1 = (W.alloc o).heap.size := by simp
    rw [e]
    simp
  rw [this]

end Go.Proofs.YtggohceeeggnmaaGreat

namespace Go.Proofs.YtggohceeeggnmaaGreat
set_option linter.unusedVariables false
open Go.ChangeShapes Go.WideShapes Go.ChangeAt Go.RowKit

def isWz (n : Int) : Bool := isLz n || isDz n || decide (n = 45) || decide (n = 95)
theorem eq_at (l : List UInt8) (k m : Nat) (hm : m < 256) : decide (byteAt l k = (m : Int)) = (l.getD k 0 == UInt8.ofNat m) := by
  rw [Bool.eq_iff_iff, decide_eq_true_iff, beq_iff_eq]
  exact byte_eq hm
theorem isWz_at (l : List UInt8) (k : Nat) : isWz (byteAt l k) = isW (l.getD k 0) := by
  unfold isWz isW
  rw [isLz_at, isDz_at, show (45 : Int) = ((45 : Nat) : Int) from rfl, show (95 : Int) = ((95 : Nat) : Int) from rfl, eq_at _ _ _ (by omega), eq_at _ _ _ (by omega)]
  rfl
set_option maxHeartbeats 4000000 in
theorem rletter_c (n : U8) (W : World) :
    Calls Tryz.prog 123 #[.int .u8 n] W fun e w' => e = .returned (.bool (isLz n)) ∧ W = w' := by
  unfold isLz
  by_cases h1 : 97 ≤ n <;> by_cases h2 : n ≤ 122 <;> by_cases h3 : 65 ≤ n <;> by_cases h4 : n ≤ 90
  all_goals
    go_enter Tryz.func123, Tryz.ntmps123
    go_wp2_with fail
    go_ret
    exact ⟨by simp [h1, h2, h3, h4], rfl⟩

set_option maxHeartbeats 4000000 in
theorem rinWord_c (n : U8) (W : World) :
    Calls Tryz.prog 124 #[.int .u8 n] W fun e w' => e = .returned (.bool (isWz n)) ∧ W = w' := by
  unfold isWz
  cases h : isLz n
  · cases h' : isDz n
    · by_cases h1 : n = 45
      · subst h1
        go_enter Tryz.func124, Tryz.ntmps124
        go_wp2_with (first | (go_at_call 123; (with_reducible refine (rletter_c _ _).mono ?_); rintro e w' ⟨rfl, rfl⟩) | (go_at_call 137; (with_reducible refine (digit8_c _ _).mono ?_); rintro e w' ⟨rfl, rfl⟩))
        go_ret
        exact ⟨rfl, rfl⟩
      by_cases h2 : n = 95
      · subst h2
        go_enter Tryz.func124, Tryz.ntmps124
        go_wp2_with (first | (go_at_call 123; (with_reducible refine (rletter_c _ _).mono ?_); rintro e w' ⟨rfl, rfl⟩) | (go_at_call 137; (with_reducible refine (digit8_c _ _).mono ?_); rintro e w' ⟨rfl, rfl⟩))
        go_ret
        exact ⟨rfl, rfl⟩
      have g1 : (n == 45) = false := by simpa using h1
      have g2 : (n == 95) = false := by simpa using h2
      go_enter Tryz.func124, Tryz.ntmps124
      go_wp2_with (first | (go_at_call 123; (with_reducible refine (rletter_c _ _).mono ?_); rintro e w' ⟨rfl, rfl⟩) | (go_at_call 137; (with_reducible refine (digit8_c _ _).mono ?_); rintro e w' ⟨rfl, rfl⟩))
      go_ret
      exact ⟨by simp [h1, h2], rfl⟩
    · skip
      go_enter Tryz.func124, Tryz.ntmps124
      go_wp2_with (first | (go_at_call 123; (with_reducible refine (rletter_c _ _).mono ?_); rintro e w' ⟨rfl, rfl⟩) | (go_at_call 137; (with_reducible refine (digit8_c _ _).mono ?_); rintro e w' ⟨rfl, rfl⟩))
      go_ret
      exact ⟨by simp, rfl⟩
  · skip
    go_enter Tryz.func124, Tryz.ntmps124
    go_wp2_with (first | (go_at_call 123; (with_reducible refine (rletter_c _ _).mono ?_); rintro e w' ⟨rfl, rfl⟩) | (go_at_call 137; (with_reducible refine (digit8_c _ _).mono ?_); rintro e w' ⟨rfl, rfl⟩))
    go_ret
    exact ⟨by simp, rfl⟩

end Go.Proofs.YtggohceeeggnmaaGreat
