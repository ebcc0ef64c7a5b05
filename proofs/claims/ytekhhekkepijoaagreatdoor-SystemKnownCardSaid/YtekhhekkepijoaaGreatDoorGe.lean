/-
  Slices of structs, whatever their cells: what a slice's cells hold; a row that the call itself makes, told by what lies behind a world.
  The contract of meniscusref8.ReadDec: it reads what package dec reads.
  The small calls of package lex: bytes; a text that is read, as a block that its calls turn.
  What is still to be read, and its place: the calls that turn it. Two blocks lie behind a world: the text, and a token.
-/
import Derived.Test.YtekhhekkepijoaaGreatDoorGc
import Derived.Test.YtekhhekkepijoaaGreatDoorGd
import Derived.Test.YtekhhekkepijoaaGreatDoorRef9

namespace Go.Proofs.YtekhhekkepijoaaGreatDoor
set_option linter.unusedVariables false
open Go.ChangeShapes Go.WideShapes Go.ChangeAt Go.RowKit

section
variable {α : Type} (f : α → List Value) (m : Nat)
/-- The cells of a list, one value's behind the other's. -/
def flatC (l : List α) : List Value := l.flatMap f
theorem flatC_snoc (l : List α) (a : α) : flatC f (l ++ [a]) = flatC f l ++ f a := by simp [flatC]
theorem flatC_length (hf : ∀ a, (f a).length = m) : ∀ l : List α, (flatC f l).length = l.length * m
  | [] => by simp [flatC]
  | a :: r => by
    have := flatC_length hf r
    simp only [flatC, List.flatMap_cons, List.length_append, List.length_cons] at this ⊢
    rw [hf, this, Nat.succ_mul, Nat.add_comm]
theorem flatC_at (hf : ∀ a, (f a).length = m) : ∀ (l : List α) (k : Nat) (a : α), l[k]? = some a → ∀ j u, (f a)[j]? = some u → (flatC f l)[k * m + j]? = some u
  | [], k, a, h => by simp at h
  | b :: r, 0, a, h => by
    intro j u hu
    simp at h
    subst h
    have hj : j < (f b).length := (List.getElem?_eq_some_iff.1 hu).1
    simp only [flatC, List.flatMap_cons, Nat.zero_mul, Nat.zero_add]
    rw [List.getElem?_append_left hj]
    exact hu
  | b :: r, k + 1, a, h => by
    intro j u hu
    have := flatC_at hf r k a (by simpa using h) j u hu
    simp only [flatC, List.flatMap_cons] at this ⊢
    rw [List.getElem?_append_right (by rw [hf, Nat.succ_mul]; omega), hf, Nat.succ_mul, show k * m + m + j - m = k * m + j by omega]
    exact this
/-- The cells of the slice v hold the list l. -/
def GRow (w : World) (v : Value) (l : List α) : Prop :=
  (v = .slice none 0 0 ∧ l = []) ∨ ∃ g o c, v = .slice (some ⟨g, o, none⟩) l.length c ∧ l.length ≤ c ∧ ∀ k a, l[k]? = some a → ∀ j u, (f a)[j]? = some u → w.cell? ⟨g, o + (k * m + j), none⟩ = some u
variable {f m}
theorem GRow.of_owns {w : World} {base n : Nat} {v : Value} {e : TypeId} {l : List α} (hf : ∀ a, (f a).length = m) (hm : 0 < m) (h : w.ownsRow base e m v n (flatC f l)) : GRow f m w v l := by
  obtain ⟨hl, h⟩ := h
  rw [flatC_length f m hf] at hl
  have hn : n = l.length := (Nat.eq_of_mul_eq_mul_right hm hl).symm
  subst hn
  rcases h with ⟨rfl, h0⟩ | ⟨g, cap, cur, rfl, -, hg, hcap, -, -, ht⟩
  · exact .inl ⟨rfl, List.eq_nil_of_length_eq_zero h0⟩
  · refine .inr ⟨g, 0, cap, rfl, hcap, fun k a hk j u hu => ?_⟩
    have h1 := flatC_at f m hf l k a hk j u hu
    rw [← ht] at h1
    have hlt := (List.getElem?_eq_some_iff.1 h1).1
    rw [List.length_take] at hlt
    rw [List.getElem?_take_of_lt (by omega)] at h1
    simp only [Nat.zero_add, World.cell?, hg]
    simpa using h1
theorem GRow.keep {w w' : World} {v : Value} {l : List α} (h : GRow f m w v l) (hb : ∀ k, k < w.heap.size → w'.heap[k]? = w.heap[k]?) : GRow f m w' v l := by
  rcases h with h | ⟨g, o, c, hv, hcap, hc⟩
  · exact .inl h
  · refine .inr ⟨g, o, c, hv, hcap, fun k a hk j u hu => ?_⟩
    have h1 := hc k a hk j u hu
    rw [World.cell?_of_block (hb g (World.block_lt_of_cell? w _ h1))]
    exact h1
theorem GRow.up {w w' : World} {v : Value} {l : List α} (h : GRow f m w v l) (hm : More w w') : GRow f m w' v l := by
  obtain ⟨r, rfl⟩ := hm
  exact h.keep fun k hk => heap_more w r k hk
/-- What a row says, as a walk takes it: at each place. -/
theorem grow_form {w : World} {v : Value} {l : List α} (hf : ∀ a, 0 < (f a).length) (h : GRow f m w v l) : ∃ ao c, v = .slice ao l.length c ∧ (0 < l.length → ∃ b o, ao = some ⟨b, o, none⟩ ∧ b < w.heap.size ∧ ∀ k a, l[k]? = some a → ∀ j u, (f a)[j]? = some u → w.cell? ⟨b, o + (k * m + j), none⟩ = some u) := by
  rcases h with ⟨rfl, rfl⟩ | ⟨b, o, c, rfl, -, hc⟩
  · exact ⟨none, 0, rfl, fun h => by simp at h⟩
  · refine ⟨_, c, rfl, fun hl => ⟨b, o, rfl, ?_, hc⟩⟩
    have h0 : l[0]? = some (l[0]'hl) := List.getElem?_eq_getElem hl
    have := hc 0 _ h0 0 ((f (l[0]'hl))[0]'(hf _)) (List.getElem?_eq_getElem _)
    exact World.block_lt_of_cell? w _ this
theorem GRow.more {w : World} {v : Value} {l : List α} (h : GRow f m w v l) {r : Rest} : GRow f m (more w r) v l := h.keep fun k hk => heap_more w r k hk
theorem GRow.alloc {w : World} {v : Value} {l : List α} (h : GRow f m w v l) {o : Obj} : GRow f m (w.alloc o) v l := h.keep fun k hk => Below.heap_alloc w o k hk
theorem GRow.drew {w : World} {v : Value} {l : List α} (h : GRow f m w v l) : GRow f m w.drew v l := h.keep fun _ _ => rfl
theorem GRow.drewN {w : World} {v : Value} {l : List α} (h : GRow f m w v l) {n : Nat} : GRow f m (w.drewN n) v l := h.keep fun _ _ => rfl
theorem GRow.take {w : World} {ao : Option Addr} {n c k : Nat} {l : List α} (h : GRow f m w (.slice ao n c) l) (hk : k ≤ l.length) (h0 : ao ≠ none ∨ k = 0 ∧ c = 0) : GRow f m w (.slice ao k c) (l.take k) := by
  rcases h with ⟨hv, rfl⟩ | ⟨b, o, c', hv, hcap, hc⟩
  · injection hv with h1 h2 h3
    subst h1 h2 h3
    have : k = 0 := by simpa using hk
    subst this
    exact .inl ⟨rfl, rfl⟩
  · injection hv with h1 h2 h3
    subst h1 h2 h3
    refine .inr ⟨b, o, c, by rw [List.length_take, Nat.min_eq_left hk], by rw [List.length_take]; omega, fun i a hi j u hu => ?_⟩
    rw [List.getElem?_take] at hi
    split at hi
    · exact hc i a hi j u hu
    · cases hi
/-- What stands behind the first k. -/
theorem GRow.drop {w : World} {b o n c k c' : Nat} {l : List α} (h : GRow f m w (.slice (some ⟨b, o, none⟩) n c) l) (hk : k ≤ l.length) (hc' : l.length - k ≤ c') : GRow f m w (.slice (some ⟨b, o + k * m, none⟩) (l.length - k) c') (l.drop k) := by
  rcases h with ⟨hv, rfl⟩ | ⟨b, o, c1, hv, hcap, hc⟩
  · injection hv with h1 h2 h3
    cases h1
  · injection hv with h1 h2 h3
    cases h1
    refine .inr ⟨_, _, c', by rw [List.length_drop], by rw [List.length_drop]; exact hc', fun i a hi j u hu => ?_⟩
    rw [List.getElem?_drop] at hi
    have := hc (k + i) a hi j u hu
    rw [Nat.add_mul] at this
    rw [show o + k * m + (i * m + j) = o + (k * m + i * m + j) by omega]
    exact this
theorem grow_cap {w : World} {ao : Option Addr} {n c : Nat} {l : List α} (h : GRow f m w (.slice ao n c) l) : n = l.length ∧ l.length ≤ c := by
  rcases h with ⟨hv, rfl⟩ | ⟨b, o, c', hv, hcap, -⟩
  · injection hv with h1 h2 h3
    exact ⟨h2, by simp⟩
  · injection hv with h1 h2 h3
    exact ⟨h2, by omega⟩
end

/-! A row that lies behind a world of so many blocks: told by what lies behind alone. -/
theorem heap_more_ge (w : World) (r : Rest) (k : Nat) (h : w.heap.size ≤ k) : (more w r).heap[k]? = r.X[k - w.heap.size]? := by
  unfold more; simp [Array.getElem?_append, Nat.not_lt.2 h]
def OwnS (base : Nat) (s : Rest) (e : TypeId) (m : Nat) (v : Value) (n : Nat) (xs : List Value) : Prop := ∀ w : World, w.heap.size = base → (more w s).ownsRow base e m v n xs
theorem owns_on {w w' : World} {base n m : Nat} {e : TypeId} {v : Value} {xs : List Value} (h : w.ownsRow base e m v n xs) (hb : ∀ k, base ≤ k → k < w.heap.size → w'.heap[k]? = w.heap[k]?) : w'.ownsRow base e m v n xs := by
  obtain ⟨hl, h⟩ := h
  refine ⟨hl, ?_⟩
  rcases h with h | ⟨g, cap, cur, hv, hg, hc, h1⟩
  · exact .inl h
  · exact .inr ⟨g, cap, cur, hv, hg, (hb g hg ((Array.getElem?_eq_some_iff.1 hc).1)).trans hc, h1⟩
theorem OwnS.of {w : World} {s : Rest} {base n m : Nat} {e : TypeId} {v : Value} {xs : List Value} (hb : w.heap.size = base) (h : (more w s).ownsRow base e m v n xs) : OwnS base s e m v n xs := by
  intro w' hw
  refine owns_on h fun k hk _ => ?_
  rw [heap_more_ge _ _ _ (by omega), heap_more_ge _ _ _ (by omega), hw, hb]
theorem OwnS.plus {s r : Rest} {base n m : Nat} {e : TypeId} {v : Value} {xs : List Value} (h : OwnS base s e m v n xs) : OwnS base (s.plus r) e m v n xs := by
  intro w hw
  rw [← more_more]
  exact owns_more (h w hw)
theorem OwnS.draw {s : Rest} {base n m k : Nat} {e : TypeId} {v : Value} {xs : List Value} (h : OwnS base s e m v n xs) : OwnS base (s.draw k) e m v n xs := by
  intro w hw
  exact owns_keep (h w hw) fun _ _ => rfl
theorem OwnS.nil (s : Rest) (base m : Nat) (e : TypeId) : OwnS base s e m (.slice none 0 0) 0 [] := fun w _ => World.ownsRow_nil _ _ _ _
/-- The cells of a block laid this moment. -/
theorem new_row {w : World} {e : TypeId} {b : Nat} (xs : List Value) (hb : b = w.heap.size) : ∀ j x, xs[j]? = some x → (w.alloc (.cells xs.toArray e)).cell? ((⟨b, 0, none⟩ : Addr).add j) = some x := by
  subst hb
  intro j x hx
  rw [Addr.add_lit, Nat.zero_add]
  simp only [World.cell?]
  rw [heap_alloc_new]
  simpa using hx

/-- 'append' of one value, on a row of the call's own. -/
theorem wpList_append_one {P : Program} {W2 : World} {s : Rest} {ops : Array Oper} {rest : List Oper} {o : Oper} {a : Act} {Q : Exit → Act → World → Prop}
    (hg : o.guard = none) (sl x : Operand) (t : TypeId) (hop : o.op = Op.call { callee := Callee.builtin Builtin.append, args := #[sl, x], argTypes := #[t, t] })
    (e : TypeId) (i : TypeInfo) (z : Value) (size bytes : Nat) (h1 : P.underlying t = some (.slice e)) (h2 : P.info? e = some i) (h3 : i.zero = some z) (h4 : i.size = size) (h5 : i.bytes = bytes) (h6 : z.cells.size = size) (h7 : 0 < size)
    (v : Value) (n : Nat) (xs : List Value) (base : Nat) (hb : base = W2.heap.size) (hs : a.eval sl = v) (hown : OwnS base s e size v n xs)
    (news : List Value) (c b : Nat) (hx : a.eval x = .slice (some ⟨b, 0, none⟩) 1 c) (hbx : b = W2.heap.size + s.len) (hn : news.length = size) (h1c : ∀ u ∈ news, u.oneCell' = true)
    (b1 : n + 1 ≤ maxLen) (b2 : (n + 1) * bytes ≤ 140737488355328)
    (hK : ∀ v' s', OwnS base s' e size v' (n + 1) (xs ++ news) → wpList P ops Q rest (a.put o.dst v') (more W2 s')) :
    wpList P ops Q (o :: rest) a ((more W2 s).alloc (.cells news.toArray e)) := by
  subst hb hbx
  have hw := hown W2 rfl
  refine wpList_append_row _ hg sl x t hop W2.heap.size e i z size bytes h1 h2 h3 h4 h5 h6 h7 v n xs hs (owns_alloc hw) ⟨_, 0, none⟩ 1 c news hx (by rw [hn, Nat.one_mul]) (new_row news (by simp)) h1c (by decide) b1 b2 (by simp; omega) ?_
  intro v' w' ho hgr _
  have hbl : Below W2.heap.size W2 w' := by
    have h0 : Below W2.heap.size W2 (more W2 s) := (More.more (More.refl W2) s).below
    exact (h0.alloc (by simp) _).grown hgr (by simp; omega) (fun g hg => (hw.lt g hg).1)
  obtain ⟨s', rfl⟩ := more_of_below hbl
  exact hK v' s' (OwnS.of rfl ho)

/-- A whole number that is not negative, as a word. -/
@[irreducible] def nw (n : Nat) : Nat := ww (n : Int) false
theorem nw_eq (n : Nat) : nw n = ww (n : Int) false := by unfold nw; rfl
@[go_sem, simp] theorem ww_nw (n : Nat) : ww (n : Int) false = nw n := (nw_eq n).symm
theorem nw_one : 4607182418800017408 = nw 1 := by rw [nw_eq]; exact lit_one
theorem nw_zero : nw 0 = 0 := by rw [nw_eq]; exact lit_zero.symm

/-! Tokens: of lex three cells, of the plain saying four. -/
def tk3 (t : Tk) : List Value := [.int .i64 t.kind, .string (bsOf t.text), .complex .f64 (nw t.line) (nw t.col)]
theorem tk3_len (t : Tk) : (tk3 t).length = 3 := rfl
theorem und_t3 : Tryz.prog.underlying 62 = some (.slice 89) := by kernel_rfl
theorem info_t3 : (Tryz.prog.info? 89).map (fun i => (i.zero, i.size, i.bytes)) = some (some (.agg #[.int .i64 0, .string ⟨#[]⟩, .complex .f64 0 0]), 3, 40) := by kernel_rfl


theorem tk3_one (t : Tk) : ∀ u ∈ tk3 t, u.oneCell' = true := by
  intro u hu
  simp only [tk3, List.mem_cons, List.not_mem_nil, or_false] at hu
  rcases hu with rfl | rfl | rfl <;> rfl
end Go.Proofs.YtekhhekkepijoaaGreatDoor

namespace Go.Proofs.YtekhhekkepijoaaGreatDoor
set_option linter.unusedVariables false
open Go.ChangeShapes Go.WideShapes Go.ChangeAt Go.RowKit

/-- The number in a cell. -/
def cellNat (w : World) (b o : Nat) : Nat := match w.cell? ⟨b, o, none⟩ with | some (.int _ n) => n.toNat | _ => 0
theorem cellNat_two (W : World) (o : Obj) (r : Rest) (a b : Int) (T : TypeId) : cellNat (more ((W.alloc o).alloc (.cells #[.int .i64 a, .int .i64 b] T)) r) (W.heap.size + 1) 1 = b.toNat := by
  unfold cellNat
  rw [cell_more _ _ _ _ (by simp)]
  have : ((W.alloc o).alloc (.cells #[.int .i64 a, .int .i64 b] T)).cell? ⟨W.heap.size + 1, 1, none⟩ = some (.int .i64 b) := by
    have e : W.heap.size + 1 = (W.alloc o).heap.size := by simp
    rw [e]
    simp
  rw [this]

end Go.Proofs.YtekhhekkepijoaaGreatDoor

namespace Go.Proofs.YtekhhekkepijoaaGreatDoor
set_option linter.unusedVariables false
open Go.ChangeShapes Go.WideShapes Go.ChangeAt Go.RowKit

def isWz (n : Int) : Bool := isLz n || isDz n || decide (n = 45) || decide (n = 95)
def isNz (n : Int) : Bool := isDz n || decide (n = 46)
def isRz (n : Int) : Bool := !decide (n = 10)
theorem eq_at (l : List UInt8) (k m : Nat) (hm : m < 256) : decide (byteAt l k = (m : Int)) = (l.getD k 0 == UInt8.ofNat m) := by
  rw [Bool.eq_iff_iff, decide_eq_true_iff, beq_iff_eq]
  exact byte_eq hm
theorem isBlz_at (l : List UInt8) (k : Nat) : isBlz (byteAt l k) = isBl (l.getD k 0) := by
  unfold isBlz isBl
  rw [show (32 : Int) = ((32 : Nat) : Int) from rfl, show (9 : Int) = ((9 : Nat) : Int) from rfl, eq_at _ _ _ (by omega), eq_at _ _ _ (by omega)]
  rfl
theorem isWz_at (l : List UInt8) (k : Nat) : isWz (byteAt l k) = isW (l.getD k 0) := by
  unfold isWz isW
  rw [isLz_at, isDz_at, show (45 : Int) = ((45 : Nat) : Int) from rfl, show (95 : Int) = ((95 : Nat) : Int) from rfl, eq_at _ _ _ (by omega), eq_at _ _ _ (by omega)]
  rfl
theorem isNz_at (l : List UInt8) (k : Nat) : isNz (byteAt l k) = isNm (l.getD k 0) := by
  unfold isNz isNm
  rw [isDz_at, show (46 : Int) = ((46 : Nat) : Int) from rfl, eq_at _ _ _ (by omega)]
  rfl
theorem isRz_at (l : List UInt8) (k : Nat) : isRz (byteAt l k) = isRm (l.getD k 0) := by
  unfold isRz isRm
  rw [show (10 : Int) = ((10 : Nat) : Int) from rfl, eq_at _ _ _ (by omega)]
  rfl

set_option maxHeartbeats 4000000 in
theorem letter_c (n : U8) (W : World) :
    Calls Tryz.prog 44 #[.int .u8 n] W fun e w' => e = .returned (.bool (isLz n)) ∧ W = w' := by
  unfold isLz
  by_cases h1 : 97 ≤ n <;> by_cases h2 : n ≤ 122 <;> by_cases h3 : 65 ≤ n <;> by_cases h4 : n ≤ 90
  all_goals
    go_enter Tryz.func44, Tryz.ntmps44
    go_wp2_with fail
    go_ret
    exact ⟨by simp [h1, h2, h3, h4], rfl⟩

set_option maxHeartbeats 4000000 in
theorem ldigit_c (n : U8) (W : World) :
    Calls Tryz.prog 45 #[.int .u8 n] W fun e w' => e = .returned (.bool (isDz n)) ∧ W = w' := by
  unfold isDz
  by_cases h1 : 48 ≤ n <;> by_cases h2 : n ≤ 57
  all_goals
    go_enter Tryz.func45, Tryz.ntmps45
    go_wp2_with fail
    go_ret
    exact ⟨by simp [h1, h2], rfl⟩

set_option maxHeartbeats 4000000 in
theorem blank_c (n : U8) (W : World) :
    Calls Tryz.prog 42 #[.int .u8 n] W fun e w' => e = .returned (.bool (isBlz n)) ∧ W = w' := by
  unfold isBlz
  by_cases h1 : n = 32
  · subst h1
    go_enter Tryz.func42, Tryz.ntmps42
    go_wp2_with fail
    go_ret
    exact ⟨rfl, rfl⟩
  by_cases h2 : n = 9
  · subst h2
    go_enter Tryz.func42, Tryz.ntmps42
    go_wp2_with fail
    go_ret
    exact ⟨rfl, rfl⟩
  have g1 : (n == 32) = false := by simpa using h1
  have g2 : (n == 9) = false := by simpa using h2
  go_enter Tryz.func42, Tryz.ntmps42
  go_wp2_with fail
  go_ret
  exact ⟨by simp [h1, h2], rfl⟩

set_option maxHeartbeats 4000000 in
theorem inRemark_c (n : U8) (W : World) :
    Calls Tryz.prog 50 #[.int .u8 n] W fun e w' => e = .returned (.bool (isRz n)) ∧ W = w' := by
  unfold isRz
  by_cases h1 : n = 10
  · subst h1
    go_enter Tryz.func50, Tryz.ntmps50
    go_wp2_with fail
    go_ret
    exact ⟨rfl, rfl⟩
  have g1 : (n == 10) = false := by simpa using h1
  have g2 : (n != 10) = true := by simpa using h1
  go_enter Tryz.func50, Tryz.ntmps50
  go_wp2_with fail
  go_ret
  exact ⟨by simp [h1], rfl⟩

set_option maxHeartbeats 4000000 in
theorem inNumber_c (n : U8) (W : World) :
    Calls Tryz.prog 48 #[.int .u8 n] W fun e w' => e = .returned (.bool (isNz n)) ∧ W = w' := by
  unfold isNz
  cases h : isDz n
  · by_cases h1 : n = 46
    · subst h1
      go_enter Tryz.func48, Tryz.ntmps48
      go_wp2_with (first | (go_at_call 45; (with_reducible refine (ldigit_c _ _).mono ?_); rintro e w' ⟨rfl, rfl⟩))
      go_ret
      exact ⟨rfl, rfl⟩
    have g1 : (n == 46) = false := by simpa using h1
    go_enter Tryz.func48, Tryz.ntmps48
    go_wp2_with (first | (go_at_call 45; (with_reducible refine (ldigit_c _ _).mono ?_); rintro e w' ⟨rfl, rfl⟩))
    go_ret
    exact ⟨by simp [h1], rfl⟩
  · skip
    go_enter Tryz.func48, Tryz.ntmps48
    go_wp2_with (first | (go_at_call 45; (with_reducible refine (ldigit_c _ _).mono ?_); rintro e w' ⟨rfl, rfl⟩))
    go_ret
    exact ⟨by simp, rfl⟩

set_option maxHeartbeats 4000000 in
theorem inWord_c (n : U8) (W : World) :
    Calls Tryz.prog 46 #[.int .u8 n] W fun e w' => e = .returned (.bool (isWz n)) ∧ W = w' := by
  unfold isWz
  cases h : isLz n
  · cases h' : isDz n
    · by_cases h1 : n = 45
      · subst h1
        go_enter Tryz.func46, Tryz.ntmps46
        go_wp2_with (first | (go_at_call 44; (with_reducible refine (letter_c _ _).mono ?_); rintro e w' ⟨rfl, rfl⟩) | (go_at_call 45; (with_reducible refine (ldigit_c _ _).mono ?_); rintro e w' ⟨rfl, rfl⟩))
        go_ret
        exact ⟨rfl, rfl⟩
      by_cases h2 : n = 95
      · subst h2
        go_enter Tryz.func46, Tryz.ntmps46
        go_wp2_with (first | (go_at_call 44; (with_reducible refine (letter_c _ _).mono ?_); rintro e w' ⟨rfl, rfl⟩) | (go_at_call 45; (with_reducible refine (ldigit_c _ _).mono ?_); rintro e w' ⟨rfl, rfl⟩))
        go_ret
        exact ⟨rfl, rfl⟩
      have g1 : (n == 45) = false := by simpa using h1
      have g2 : (n == 95) = false := by simpa using h2
      go_enter Tryz.func46, Tryz.ntmps46
      go_wp2_with (first | (go_at_call 44; (with_reducible refine (letter_c _ _).mono ?_); rintro e w' ⟨rfl, rfl⟩) | (go_at_call 45; (with_reducible refine (ldigit_c _ _).mono ?_); rintro e w' ⟨rfl, rfl⟩))
      go_ret
      exact ⟨by simp [h1, h2], rfl⟩
    · skip
      go_enter Tryz.func46, Tryz.ntmps46
      go_wp2_with (first | (go_at_call 44; (with_reducible refine (letter_c _ _).mono ?_); rintro e w' ⟨rfl, rfl⟩) | (go_at_call 45; (with_reducible refine (ldigit_c _ _).mono ?_); rintro e w' ⟨rfl, rfl⟩))
      go_ret
      exact ⟨by simp, rfl⟩
  · skip
    go_enter Tryz.func46, Tryz.ntmps46
    go_wp2_with (first | (go_at_call 44; (with_reducible refine (letter_c _ _).mono ?_); rintro e w' ⟨rfl, rfl⟩) | (go_at_call 45; (with_reducible refine (ldigit_c _ _).mono ?_); rintro e w' ⟨rfl, rfl⟩))
    go_ret
    exact ⟨by simp, rfl⟩

set_option maxHeartbeats 4000000 in
theorem clonel_c (s : ByteArray) (hs : s.size ≤ 281474976710656) (W : World) :
    Calls Tryz.prog 89 #[.string s] W fun e w' => e = .returned (.string s) ∧ More W w' := by
  refine (Tryz.stringslite_Clone s W hs).mono ?_
  rintro e w' ⟨rfl, hb⟩
  exact ⟨rfl, more_of_below hb⟩

set_option maxHeartbeats 4000000 in
theorem clone_c (s : ByteArray) (hs : s.size ≤ 281474976710656) (W : World) :
    Calls Tryz.prog 72 #[.string s] W fun e w' => e = .returned (.string s) ∧ More W w' := by
  go_enter Tryz.func72, Tryz.ntmps72
  go_wp2_with (first | (go_at_call 89; (with_reducible refine (clonel_c _ (by (try simp only [size_bs]); omega) _).mono ?_); rintro e w' ⟨rfl, r, rfl⟩))
  go_returns
  exact ⟨rfl, (by repeat (first | exact More.refl _ | refine More.alloc ?_ _ | refine More.more ?_ _ | refine More.drew ?_ | refine More.drewN ?_ _))⟩

end Go.Proofs.YtekhhekkepijoaaGreatDoor

namespace Go.Proofs.YtekhhekkepijoaaGreatDoor
set_option linter.unusedVariables false
open Go.ChangeShapes Go.WideShapes Go.ChangeAt Go.RowKit

@[reducible] def plV2 (L C : Nat) : Value := .complex .f64 (nw L) (nw C)
abbrev txt (r : List UInt8) (L C : Nat) : Obj := .cells #[.string (bsOf r), .complex .f64 (nw L) (nw C)] 87
theorem zn_nat (n : Nat) : zn (n : Int) false = false := by
  unfold zn
  by_cases h : (n : Int) = 0
  · rw [if_pos h]
  · rw [if_neg h]; exact decide_eq_false (by omega)
theorem place_add {P : Program} (L C n : Nat) (hL : L ≤ 10000) (hC : C ≤ 10000) (hn : n ≤ 10000) (T : TypeId) (w : World) :
    (binOp .add T (.complex .f64 (nw L) (nw C)) (.complex .f64 0 (nw n))).run P w = .ok (.complex .f64 (nw L) (nw (C + n))) w := by
  have h := cadd (P := P) (a := L) (b := C) (c := 0) (d := n) false false false false (by omega) (by omega) (by omega) (by omega) T w
  rw [zn_nat, zn_nat, Int.add_zero, ← lit_zero] at h
  simp only [nw_eq]
  exact h
theorem line_add {P : Program} (L : Nat) (hL : L ≤ 10000) (T : TypeId) (w : World) :
    (binOp .add T (.float .f64 (nw L)) (.float .f64 4607182418800017408)).run P w = .ok (.float .f64 (nw (L + 1))) w := by
  have h := fadd (P := P) (a := L) (c := 1) false false (by omega) (by omega) T w
  rw [zn_nat, ← lit_one] at h
  simp only [nw_eq]
  exact h

set_option maxHeartbeats 4000000 in
theorem pass_c (r : List UInt8) (L C n : Nat) (o2 : Obj) (s : Rest) (W : World) (hn : n ≤ r.length) (hr : r.length ≤ 4000) (hL : L ≤ 10000) (hC : C ≤ 10000) :
    Calls Tryz.prog 47 #[.pointer (some ⟨W.heap.size, 0, none⟩), .int .i64 n] (more ((W.alloc (txt r L C)).alloc o2) s) fun e w' => e = .returned (.string (bsOf (r.take n))) ∧ ∃ r1, w' = more ((W.alloc (txt (r.drop n) L (C + n))).alloc o2) (s.plus r1) := by
  have ht : (r.take n).length ≤ 4000 := by rw [List.length_take]; omega
  have hA := place_add (P := Tryz.prog) L C n hL hC (by omega)
  have hD : (r.drop n).take (r.length - n) = r.drop n := List.take_of_length_le (by simp)
  go_enter Tryz.func47, Tryz.ntmps47
  go_wp2_with (first | (go_at_call 72; (with_reducible refine (clone_c _ (by (try simp only [size_bs]); omega) _).mono ?_); rintro e w' ⟨rfl, r, rfl⟩))
  go_returns
  exact ⟨rfl, _, rfl⟩

set_option maxHeartbeats 4000000 in
theorem take_c (g : Nat) (p : UInt8 → Bool) (he : ∀ args w, (callFunc g args).run Tryz.prog w = .ok (.enter g args) w) (hg : ∀ (l : List UInt8) (k : Nat) (w : World), Calls Tryz.prog g #[.int .u8 (byteAt l k)] w fun e w' => e = .returned (.bool (p (l.getD k 0))) ∧ w = w')
    (r : List UInt8) (L C : Nat) (o2 : Obj) (s : Rest) (W : World) (hr : r.length ≤ 4000) (hL : L ≤ 10000) (hC : C ≤ 10000) :
    Calls Tryz.prog 41 #[.pointer (some ⟨W.heap.size, 0, none⟩), .func (.func g) #[] #[]] (more ((W.alloc (txt r L C)).alloc o2) s) fun e w' => e = .returned (.string (bsOf (r.takeWhile p))) ∧ ∃ r1, w' = more ((W.alloc (txt (r.dropWhile p) L (C + (r.takeWhile p).length))).alloc o2) (s.plus r1) := by
  go_enter Tryz.func41, Tryz.ntmps41
  go_wp2_with fail
  go_loop [5] (fun i => ∃ k : Nat, k ≤ r.length ∧ i = .int .i64 k ∧ (r.take k).all p = true) (fun i => r.length - (intOf i).toNat)
  case atStart => exact ⟨0, by omega, rfl, rfl⟩
  case round =>
    obtain ⟨k, hk, rfl, ha⟩ := hrel
    have HA := Lib.hid ha
    clear ha
    by_cases hkl : k < r.length
    · have hb := byteAt_bd r k
      cases hp : p (r.getD k 0)
      · have hs := take_stop HA.out (.inr ⟨hkl, hp⟩)
        have HS := Lib.hid hs
        have hg1 : ∀ w, Calls Tryz.prog g #[.int .u8 (byteAt r k)] w fun e w' => e = .returned (.bool false) ∧ w = w' := fun w => by
          have h := hg r k w
          rw [hp] at h
          exact h
        clear hs hp
        go_wp2_with (first | (go_at_fn g; (with_reducible refine Calls.mono (hg1 _) ?_); rintro e w' ⟨rfl, rfl⟩) | (go_at_call 47; (with_reducible refine Calls.mono (pass_c r L C k o2 _ W hk hr hL hC) ?_); rintro e w' ⟨rfl, r1, rfl⟩))
        go_returns
        obtain ⟨e1, e2⟩ := HS.out
        exact ⟨congrArg (fun x => Ending.returned (Value.string (bsOf x))) e1.symm, r1, by rw [e1, e2, List.length_take, Nat.min_eq_left hk]⟩
      · have HN := Lib.hid (take_more HA.out hkl hp)
        have hg1 : ∀ w, Calls Tryz.prog g #[.int .u8 (byteAt r k)] w fun e w' => e = .returned (.bool true) ∧ w = w' := fun w => by
          have h := hg r k w
          rw [hp] at h
          exact h
        clear hp
        go_wp2_with (first | (go_at_fn g; (with_reducible refine Calls.mono (hg1 _) ?_); rintro e w' ⟨rfl, rfl⟩))
        exact ⟨⟨k + 1, by omega, rfl, HN.out⟩, by simp [intOf]; omega⟩
    · have : k = r.length := by omega
      subst this
      have hs := take_stop HA.out (.inl rfl)
      have HS := Lib.hid hs
      have hz1 : r.take r.length = r := List.take_of_length_le (Nat.le_refl _)
      have hz2 : r.drop r.length = [] := List.drop_of_length_le (Nat.le_refl _)
      clear hs
      go_wp2_with (first | (go_at_call 47; (with_reducible refine Calls.mono (pass_c r L C r.length o2 _ W hk hr hL hC) ?_); rintro e w' ⟨rfl, r1, rfl⟩))
      go_returns
      obtain ⟨e1, e2⟩ := HS.out
      rw [hz1] at e1
      rw [hz2] at e2
      exact ⟨congrArg (fun x => Ending.returned (Value.string (bsOf x))) e1.symm, r1, by rw [e1, e2]⟩

theorem ended_c (r : List UInt8) (L C : Nat) (o2 : Obj) (s : Rest) (W : World) (hr : r.length ≤ 4000) :
    Calls Tryz.prog 43 #[.pointer (some ⟨W.heap.size, 0, none⟩)] (more ((W.alloc (txt r L C)).alloc o2) s) fun e w' => e = .returned (.bool (decide (r = []) || r.head? == some 10)) ∧ w' = more ((W.alloc (txt r L C)).alloc o2) s := by
  cases r with
  | nil =>
    go_enter Tryz.func43, Tryz.ntmps43
    go_wp2_with fail
    go_returns
    exact ⟨rfl, rfl⟩
  | cons c q =>
    have h10 : (byteAt (c :: q) 0 == 10) = (decide (c :: q = []) || (c :: q).head? == some 10) := by
      have h := eq_at (c :: q) 0 10 (by omega)
      have e : decide (c :: q = []) = false := by simp
      rw [e, Bool.false_or]
      rw [Bool.eq_iff_iff] at h ⊢
      simp only [decide_eq_true_eq, beq_iff_eq] at h ⊢
      rw [show ((10 : Nat) : Int) = 10 from rfl] at h
      rw [h]
      simp
    go_enter Tryz.func43, Tryz.ntmps43
    go_wp2_with fail
    go_returns
    exact ⟨rfl, rfl⟩

/-- A call of take with the function value g: passes over what p takes. -/
abbrev Takes (g : Nat) (p : UInt8 → Bool) : Prop := ∀ (r : List UInt8) (L C : Nat) (o2 : Obj) (s : Rest) (W : World) (_ : r.length ≤ 4000) (_ : L ≤ 10000) (_ : C ≤ 10000),
    Calls Tryz.prog 41 #[.pointer (some ⟨W.heap.size, 0, none⟩), .func (.func g) #[] #[]] (more ((W.alloc (txt r L C)).alloc o2) s) fun e w' => e = .returned (.string (bsOf (r.takeWhile p))) ∧ ∃ r1, w' = more ((W.alloc (txt (r.dropWhile p) L (C + (r.takeWhile p).length))).alloc o2) (s.plus r1)
theorem take_bl : Takes 42 isBl := take_c _ isBl (enters_of Tryz.func42 (by kernel_rfl) rfl) (fun l k w => by have h := blank_c (byteAt l k) w; rw [isBlz_at] at h; exact h)
theorem take_w : Takes 46 isW := take_c _ isW (enters_of Tryz.func46 (by kernel_rfl) rfl) (fun l k w => by have h := inWord_c (byteAt l k) w; rw [isWz_at] at h; exact h)
theorem take_nm : Takes 48 isNm := take_c _ isNm (enters_of Tryz.func48 (by kernel_rfl) rfl) (fun l k w => by have h := inNumber_c (byteAt l k) w; rw [isNz_at] at h; exact h)
theorem take_rm : Takes 50 isRm := take_c _ isRm (enters_of Tryz.func50 (by kernel_rfl) rfl) (fun l k w => by have h := inRemark_c (byteAt l k) w; rw [isRz_at] at h; exact h)

set_option maxHeartbeats 4000000 in
theorem unended_s {base : Nat} {s : Rest} {v : Value} {acc : List Tk} (W : World) (hb : W.heap.size = base) (hl : acc.length ≤ 100000) (h : OwnS base s 89 3 v acc.length (flatC tk3 acc)) :
    Calls Tryz.prog 51 #[v] (more W s) fun e w' => e = .returned (.bool (unended acc)) ∧ more W s = w' := by
  obtain ⟨ao, c, rfl, hc⟩ := grow_form (fun _ => by rw [tk3_len]; decide) (GRow.of_owns tk3_len (by decide) (h W hb))
  generalize more W s = w at *
  clear h
  cases hk : acc.length with
  | zero =>
    have : acc = [] := List.eq_nil_of_length_eq_zero hk
    subst this
    go_enter Tryz.func51, Tryz.ntmps51
    go_wp2_with fail
    go_ret
    exact ⟨rfl, rfl⟩
  | succ N =>
    obtain ⟨b, o, rfl, hbw, hcell⟩ := hc (by omega)
    obtain ⟨t, ht⟩ : ∃ t, acc[N]? = some t := ⟨acc[N], List.getElem?_eq_getElem (by omega)⟩
    have h0 := hcell N t ht 0 _ rfl
    rw [Nat.add_zero] at h0
    have hu : unended acc = (t.kind != 3) := by
      unfold unended
      rw [List.getLast?_eq_getElem?, hk, Nat.add_sub_cancel, ht]
    have hi : ((t.kind : Int) != 3) = (t.kind != 3) := by
      rw [Bool.eq_iff_iff]
      simp only [bne_iff_ne, ne_eq]
      omega
    rw [hu]
    clear hu hcell hc
    go_enter Tryz.func51, Tryz.ntmps51
    go_wp2_with fail
    go_ret
    exact ⟨rfl, rfl⟩

theorem ended_nil (L C : Nat) (o2 : Obj) (s : Rest) (W : World) : Calls Tryz.prog 43 #[.pointer (some ⟨W.heap.size, 0, none⟩)] (more ((W.alloc (txt [] L C)).alloc o2) s) fun e w' => e = .returned (.bool true) ∧ more ((W.alloc (txt [] L C)).alloc o2) s = w' :=
  (ended_c [] L C o2 s W (by simp)).mono fun _ _ h => ⟨h.1, h.2.symm⟩
theorem ended_lf (q : List UInt8) (L C : Nat) (o2 : Obj) (s : Rest) (W : World) (hr : q.length < 4000) : Calls Tryz.prog 43 #[.pointer (some ⟨W.heap.size, 0, none⟩)] (more ((W.alloc (txt (10 :: q) L C)).alloc o2) s) fun e w' => e = .returned (.bool true) ∧ more ((W.alloc (txt (10 :: q) L C)).alloc o2) s = w' :=
  (ended_c (10 :: q) L C o2 s W (by simp only [List.length_cons]; omega)).mono fun _ _ h => ⟨h.1, h.2.symm⟩
theorem ended_no (c : UInt8) (q : List UInt8) (L C : Nat) (o2 : Obj) (s : Rest) (W : World) (hr : q.length < 4000) (hc : ¬ c = 10) : Calls Tryz.prog 43 #[.pointer (some ⟨W.heap.size, 0, none⟩)] (more ((W.alloc (txt (c :: q) L C)).alloc o2) s) fun e w' => e = .returned (.bool false) ∧ more ((W.alloc (txt (c :: q) L C)).alloc o2) s = w' := by
  refine (ended_c (c :: q) L C o2 s W (by simp only [List.length_cons]; omega)).mono fun _ _ h => ⟨?_, h.2.symm⟩
  rw [h.1]
  have e : (decide (c :: q = []) || (c :: q).head? == some 10) = false := by simp [hc]
  rw [e]
theorem pass_1 (c : UInt8) (q : List UInt8) (L C : Nat) (o2 : Obj) (s : Rest) (W : World) (hr : q.length < 4000) (hL : L ≤ 10000) (hC : C ≤ 10000) : Calls Tryz.prog 47 #[.pointer (some ⟨W.heap.size, 0, none⟩), .int .i64 1] (more ((W.alloc (txt (c :: q) L C)).alloc o2) s) fun e w' => e = .returned (.string (bsOf [c])) ∧ ∃ r1, w' = more ((W.alloc (txt q L (C + 1))).alloc o2) (s.plus r1) :=
  pass_c (c :: q) L C 1 o2 s W (by simp) (by simp only [List.length_cons]; omega) hL hC
theorem byte_at0 (c : UInt8) (q : List UInt8) (m : Nat) (hm : m < 256) : (byteAt (c :: q) 0 == (m : Int)) = (c == UInt8.ofNat m) := by
  have h := eq_at (c :: q) 0 m hm
  rw [Bool.eq_iff_iff] at h ⊢
  simp only [decide_eq_true_eq, beq_iff_eq] at h ⊢
  exact h

end Go.Proofs.YtekhhekkepijoaaGreatDoor
