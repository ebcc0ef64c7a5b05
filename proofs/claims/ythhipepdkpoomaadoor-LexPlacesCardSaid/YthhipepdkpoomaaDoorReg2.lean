/-
  Regions of many operations that draw their order: which waits for which is looked up in numbers, and one walk in the text's order serves every order.
-/
import Derived.Test.YthhipepdkpoomaaDoorReg
import Derived.CheckFast
namespace Go.Proofs.YthhipepdkpoomaaDoor
set_option linter.unusedVariables false
open Go.RowKit

/-- What was there before an operation, as a number: bit i for operation i. -/
def bits (l : List Oper) : List Nat := CheckFast.beforeL l 0 []
theorem bits_eq (l : List Oper) : bits l = (Region.before l.toArray).toList := by
  have h := CheckFast.beforeF_eq l.toArray
  unfold CheckFast.beforeF at h
  rw [← h]
  simp [bits]

/-- Each of the operations ahead is waited for, or apart. -/
def rowOk (ops : Array Oper) (o : Oper) (b : Nat) : Nat → Nat → List Oper → Bool
  | 0, _, _ => true
  | _ + 1, _, [] => true
  | n + 1, k, x :: r => (Nat.testBit b k || x.apart ops o) && CheckFast.force (k + 1) fun k' => rowOk ops o b n k' r
def allOk (ops : Array Oper) (all : List Oper) : Nat → List Oper → List Nat → Bool
  | _, [], _ => true
  | j, o :: r, b :: bs => (o.after.all (fun e => !Region.binds .any e || decide (e.on < j)) && rowOk ops o b j 0 all) && CheckFast.force (j + 1) fun j' => allOk ops all j' r bs
  | _, _ :: _, [] => false
def quickB (l : List Oper) : Bool := Region.noSelect l.toArray && allOk l.toArray l 0 l (bits l)

theorem rowOk_spec {ops : Array Oper} {o : Oper} {b : Nat} : ∀ (n k : Nat) (l : List Oper), rowOk ops o b n k l = true → ∀ i x, i < n → l[i]? = some x → Nat.testBit b (k + i) = true ∨ x.apart ops o = true
  | 0, _, _, _, i, _, hi, _ => by omega
  | n + 1, _, [], _, i, x, _, hx => by simp at hx
  | n + 1, k, y :: r, h, i, x, hi, hx => by
    simp only [rowOk, CheckFast.force_eq, Bool.and_eq_true, Bool.or_eq_true] at h
    cases i with
    | zero =>
      simp only [List.getElem?_cons_zero, Option.some.injEq] at hx
      subst hx
      exact h.1
    | succ i =>
      have := rowOk_spec n (k + 1) r h.2 i x (by omega) (by simpa using hx)
      rwa [show k + 1 + i = k + (i + 1) by omega] at this
theorem allOk_spec {ops : Array Oper} {all : List Oper} : ∀ (l : List Oper) (j : Nat) (bs : List Nat), allOk ops all j l bs = true → ∀ i o, l[i]? = some o →
    (∀ e ∈ o.after, Region.binds .any e = true → e.on < j + i) ∧ ∃ b, bs[i]? = some b ∧ rowOk ops o b (j + i) 0 all = true
  | [], _, _, _, i, o, ho => by simp at ho
  | x :: r, j, [], h, i, o, ho => by simp [allOk] at h
  | x :: r, j, b :: bs, h, i, o, ho => by
    simp only [allOk, CheckFast.force_eq, Bool.and_eq_true] at h
    cases i with
    | zero =>
      simp only [List.getElem?_cons_zero, Option.some.injEq] at ho
      subst ho
      refine ⟨fun e he hb => ?_, b, rfl, h.1.2⟩
      have := Array.all_eq_true_iff_forall_mem.1 h.1.1 e he
      simpa [hb] using this
    | succ i =>
      have := allOk_spec r (j + 1) bs h.2 i o (by simpa using ho)
      rw [show j + 1 + i = j + (i + 1) by omega] at this
      simpa using this

/-! What the numbers say. -/
def pushOne (A : Array Nat) (o : Oper) : Array Nat := A.push (CheckFast.one (fun i => A.getD i 0) o)
theorem before_fold (ops : Array Oper) : Region.before ops = ops.toList.foldl pushOne #[] := by
  unfold Region.before
  rw [← Array.foldl_toList]
  rfl
theorem fold_size : ∀ (l : List Oper) (A : Array Nat), (l.foldl pushOne A).size = A.size + l.length
  | [], A => by simp
  | o :: r, A => by
    rw [List.foldl_cons, fold_size r]
    simp [pushOne]
    omega
theorem fold_keep : ∀ (l : List Oper) (A : Array Nat) (i : Nat), i < A.size → (l.foldl pushOne A).getD i 0 = A.getD i 0
  | [], A, i, _ => rfl
  | o :: r, A, i, h => by
    rw [List.foldl_cons, fold_keep r _ i (by simp [pushOne]; omega)]
    simp only [pushOne, Array.getD_eq_getD_getElem?]
    rw [Array.getElem?_push, if_neg (by omega)]
theorem fold_at : ∀ (l : List Oper) (A : Array Nat) (k : Nat) (o : Oper), l[k]? = some o →
    (l.foldl pushOne A).getD (A.size + k) 0 = CheckFast.one (fun i => if i < A.size + k then (l.foldl pushOne A).getD i 0 else 0) o
  | [], _, _, _, h => by simp at h
  | x :: r, A, 0, o, h => by
    simp only [List.getElem?_cons_zero, Option.some.injEq] at h
    subst h
    rw [List.foldl_cons, Nat.add_zero, fold_keep r _ A.size (by simp [pushOne])]
    have e : (fun i => if i < A.size then (r.foldl pushOne (pushOne A x)).getD i 0 else 0) = fun i => A.getD i 0 := by
      funext i
      by_cases h : i < A.size
      · rw [if_pos h, fold_keep r _ i (by simp [pushOne]; omega)]
        simp only [pushOne, Array.getD_eq_getD_getElem?]
        rw [Array.getElem?_push, if_neg (by omega)]
      · rw [if_neg h]
        simp only [Array.getD_eq_getD_getElem?]
        rw [Array.getElem?_eq_none (by omega)]
        rfl
    rw [e]
    simp [pushOne]
  | x :: r, A, k + 1, o, h => by
    rw [List.foldl_cons]
    have := fold_at r (pushOne A x) k o (by simpa using h)
    have e : (pushOne A x).size + k = A.size + (k + 1) := by simp [pushOne]; omega
    rw [e] at this
    exact this
theorem one_bit {f : Nat → Nat} {o : Oper} {i : Nat} (h : Nat.testBit (CheckFast.one f o) i = true) : ∃ e ∈ o.after, Region.binds .any e = true ∧ (e.on = i ∨ Nat.testBit (f e.on) i = true) := by
  unfold CheckFast.one at h
  rw [← Array.foldl_toList] at h
  have key : ∀ (l : List Edge) (s : Nat), Nat.testBit (l.foldl (fun s e => if Region.binds .any e then s ||| 2 ^ e.on ||| f e.on else s) s) i = true →
      Nat.testBit s i = true ∨ ∃ e ∈ l, Region.binds .any e = true ∧ (e.on = i ∨ Nat.testBit (f e.on) i = true) := by
    intro l
    induction l with
    | nil => intro s hs; exact .inl hs
    | cons e l ih =>
      intro s hs
      rw [List.foldl_cons] at hs
      rcases ih _ hs with h1 | ⟨e', he', h2⟩
      · by_cases hb : Region.binds .any e = true
        · rw [if_pos hb, Nat.testBit_or, Nat.testBit_or, Nat.testBit_two_pow] at h1
          simp only [Bool.or_eq_true, decide_eq_true_eq] at h1
          rcases h1 with (h1 | h1) | h1
          · exact .inl h1
          · exact .inr ⟨e, by simp, hb, .inl h1⟩
          · exact .inr ⟨e, by simp, hb, .inr h1⟩
        · rw [if_neg hb] at h1
          exact .inl h1
      · exact .inr ⟨e', by simp [he'], h2⟩
  rcases key _ _ h with h1 | ⟨e, he, h2⟩
  · simp at h1
  · exact ⟨e, by simpa using he, h2⟩

section
variable {P : Program} {ops : Array Oper} {C : World → Prop}

/-- What is listed has all that it waits for listed. -/
def Shut (ops : Array Oper) (m : Array Bool) : Prop := ∀ j oj, ops[j]? = some oj → m.getD j false = true → ∀ e ∈ oj.after, Region.binds .any e = true → m.getD e.on false = true
theorem shut_set {m : Array Bool} {i : Nat} (h : Shut ops m) (hr : i ∈ Region.ready .any ops m) : Shut ops (m.setIfInBounds i true) := by
  obtain ⟨_, oi, hoi, hall⟩ := mem_ready.1 hr
  intro j oj hj hl e he hb
  by_cases hij : i = j
  · subst hij
    obtain rfl : oj = oi := Option.some.inj (hj.symm.trans hoi)
    exact getD_set_true (hall e he hb)
  · rw [getD_set_ne false hij] at hl
    exact getD_set_true (h j oj hj hl e he hb)
theorem shut_bit {m : Array Bool} (h : Shut ops m) (i : Nat) : ∀ (d j : Nat), j = d → ∀ oj, ops[j]? = some oj → (∀ e ∈ oj.after, Region.binds .any e = true → m.getD e.on false = true) →
    Nat.testBit ((Region.before ops).getD j 0) i = true → m.getD i false = true := by
  intro d
  induction d using Nat.strongRecOn with
  | _ d ih =>
    intro j hjd oj hj hall hb
    have hs := fold_at ops.toList #[] j oj (by simpa using hj)
    rw [before_fold] at hb
    simp only [List.size_toArray, List.length_nil, Nat.zero_add] at hs
    rw [hs] at hb
    obtain ⟨e, he, hbi, h1⟩ := one_bit hb
    rcases h1 with rfl | h1
    · exact hall e he hbi
    · by_cases hlt : e.on < j
      · rw [if_pos hlt, ← before_fold] at h1
        have hjs : j < ops.size := (Array.getElem?_eq_some_iff.1 hj).1
        have hoe : ops[e.on]? = some (ops[e.on]'(by omega)) := Array.getElem?_eq_getElem _
        exact ih e.on (by omega) e.on rfl _ hoe (fun e' he' hb' => h e.on _ hoe (hall e he hbi) e' he' hb') h1
      · rw [if_neg hlt] at h1
        simp at h1

/-- One that is ready may be taken first: whoever doesn't wait for it, however indirectly, is apart from it. -/
theorem anyQ_first {Q : Act → Prop} {i : Nat} {oi : Oper} {v : Value} (hi : ops[i]? = some oi) (hsel : ∀ (j : Nat) (o : Oper) cs b, ops[j]? = some o → o.op ≠ .select cs b) :
    ∀ (fuel : Nat) (m : Array Bool) (a : Act), Shut ops m →
      (∀ j oj, ops[j]? = some oj → j ≠ i → m.getD j true = false → Nat.testBit ((Region.before ops).getD j 0) i = false → oi.apart ops oj = true) →
      i ∈ Region.ready .any ops m → YieldsIn P ops C oi v a →
      wpAnyQ P .any ops C Q fuel (m.setIfInBounds i true) (a.put oi.dst v) → wpAnyQ P .any ops C Q (fuel + 1) m a := by
  intro fuel
  induction fuel with
  | zero =>
    intro m a _ _ hr hy H
    refine ⟨fun h => (by rw [h] at hr; cases hr), fun j hj => ?_⟩
    by_cases hji : j = i
    · subst hji; exact hy.qOp hi H
    · have := ready_mono hj hji
      rw [H.1] at this
      cases this
  | succ fuel ih =>
    intro m a hsh hfree hr hy H
    refine ⟨fun h => (by rw [h] at hr; cases hr), fun j hj => ?_⟩
    by_cases hji : j = i
    · subst hji; exact hy.qOp hi H
    · have h1 := H.2 j (ready_mono hj hji)
      obtain ⟨hjun, oj, hoj, hall⟩ := mem_ready.1 hj
      have hnb : Nat.testBit ((Region.before ops).getD j 0) i = false := by
        cases hb : Nat.testBit ((Region.before ops).getD j 0) i
        · rfl
        · have h3 := shut_bit hsh i j j rfl oj hoj hall hb
          have h4 := getD_both (mem_ready.1 hr).1
          rw [h3] at h4
          cases h4
      have h2 := qOp_put hoj (hfree j oj hoj hji hjun hnb) (fun cs b => hsel i oi cs b hi) (fun cs b => hsel j oj cs b hoj) hy h1
      refine qOp_mono (fun a' h3 => ih (m.setIfInBounds j true) a' (shut_set hsh hj) ?_ (ready_mono hr (Ne.symm hji)) h3.1 ?_) h2
      · intro k ok hk hki hkun hno
        refine hfree k ok hk hki ?_ hno
        by_cases hjk : j = k
        · subst hjk; exact hjun
        · rw [getD_set_ne true hjk] at hkun; exact hkun
      · rw [Array.setIfInBounds_comm _ _ hji]
        exact h3.2

/-- The first k are listed. -/
def FirstK (n k : Nat) (m : Array Bool) : Prop := m.size = n ∧ (∀ j, j < k → j < n → m.getD j false = true) ∧ ∀ j, k ≤ j → j < n → m.getD j true = false
theorem firstK_set {n k : Nat} {m : Array Bool} (h : FirstK n k m) (hk : k < n) : FirstK n (k + 1) (m.setIfInBounds k true) := by
  obtain ⟨h1, h2, h3⟩ := h
  refine ⟨by simpa using h1, fun j hj hn => ?_, fun j hj hn => ?_⟩
  · by_cases hjk : k = j
    · subst hjk
      simp [h1, hn]
    · rw [getD_set_ne false hjk]
      exact h2 j (by omega) hn
  · rw [getD_set_ne true (by omega)]
    exact h3 j (by omega) hn
theorem anyQ_lex {Q : Act → Prop} {all : List Oper} (ha : ops = all.toArray) (hsel : Region.noSelect ops = true) (hB : allOk ops all 0 all (bits all) = true) : ∀ (l : List Oper) (k : Nat) (m : Array Bool) (a : Act), (∀ j, l[j]? = ops[k + j]?) → k + l.length = ops.size →
    FirstK ops.size k m → wpQuiet P ops C Q l a → wpAnyQ P .any ops C Q l.length m a
  | [], k, m, a, _, hk, hf, h => by
    refine ⟨?_, h⟩
    apply List.eq_nil_iff_forall_not_mem.2
    intro i hi
    obtain ⟨hun, oi, hoi, _⟩ := mem_ready.1 hi
    have hlt := (Array.getElem?_eq_some_iff.1 hoi).1
    have h1 := hf.2.1 i (by simp at hk; omega) hlt
    rw [getD_both hun] at h1
    cases h1
  | o :: l, k, m, a, hl, hk, hf, h => by
    have h0 : ops[k]? = some o := by simpa using (hl 0).symm
    have hkn : k < ops.size := (Array.getElem?_eq_some_iff.1 h0).1
    have hst : qOp P ops C k (wpQuiet P ops C Q l) a := by unfold qOp; simp only [h0]; exact h
    obtain ⟨v, hy, hK⟩ := yieldsIn_of_qOp h0 hst
    have hops : ∀ (j : Nat) (oj : Oper), ops[j]? = some oj → all[j]? = some oj := fun j oj h => by
      rw [← List.getElem?_toArray, ← ha]
      exact h
    have hsp : ∀ (j : Nat) (oj : Oper), ops[j]? = some oj → (∀ e ∈ oj.after, Region.binds .any e = true → e.on < j) ∧ rowOk ops oj ((Region.before ops).getD j 0) j 0 all = true := by
      intro j oj hj
      obtain ⟨h1, b, hb, h2⟩ := allOk_spec all 0 _ hB j oj (hops j oj hj)
      rw [Nat.zero_add] at h1 h2
      refine ⟨h1, ?_⟩
      have e : (Region.before ops).getD j 0 = b := by
        rw [bits_eq, ← ha] at hb
        simp only [Array.getElem?_toList] at hb
        simp [Array.getD_eq_getD_getElem?, hb]
      rw [e]
      exact h2
    have hsh : Shut ops m := by
      intro j oj hj hlj e he hb
      have h1 := (hsp j oj hj).1 e he hb
      have hjn : j < ops.size := (Array.getElem?_eq_some_iff.1 hj).1
      have hjk : j < k := by
        rcases Nat.lt_or_ge j k with h | h
        · exact h
        · have := hf.2.2 j h hjn
          rw [getD_both this] at hlj
          cases hlj
      exact hf.2.1 e.on (by omega) (by omega)
    have hr : k ∈ Region.ready .any ops m := mem_ready.2 ⟨hf.2.2 k (Nat.le_refl _) hkn, o, h0, fun e he hb => hf.2.1 e.on ((hsp k o h0).1 e he hb) (by have := (hsp k o h0).1 e he hb; omega)⟩
    refine anyQ_first h0 (Region.noSelect_spec hsel) l.length m a hsh (fun j oj hj hne hun hnb => ?_) hr hy
      (anyQ_lex ha hsel hB l (k + 1) _ _ (fun j => by have := hl (j + 1); simpa [Nat.add_assoc, Nat.add_comm 1 j] using this) (by simp only [List.length_cons] at hk; omega) (firstK_set hf hkn) hK)
    have hjn : j < ops.size := (Array.getElem?_eq_some_iff.1 hj).1
    have hkj : k < j := by
      rcases Nat.lt_or_ge j k with h | h
      · have := hf.2.1 j h hjn
        rw [getD_both hun] at this
        cases this
      · omega
    rcases rowOk_spec j 0 all (hsp j oj hj).2 k o hkj (hops k o h0) with h1 | h1
    · rw [Nat.zero_add, hnb] at h1
      cases h1
    · exact h1
end

theorem wp_quick {P : Program} {id : Nat} {Q : Exit → Act → World → Prop} {a : Act} {w : World} {l : List Oper} {C : World → Prop} (hm : P.follows .mixedOrders = true) (hB : quickB l = true)
    (hC : C { w with drawn := w.drawn + 1 }) (h : wpQuiet P l.toArray C (fun a' => ∀ w', C w' → Q .normal a' w') l a) : (Code.region id l.toArray true).wp P Q a w := by
  simp only [quickB, Bool.and_eq_true] at hB
  refine wp_region_any hm (wpAny_of_quiet (Q := fun a' => ∀ w', C w' → Q .normal a' w') (fun _ w' hw' h => h w' hw') _ _ _ _ hC ?_)
  have := anyQ_lex (P := P) (C := C) (Q := fun a' => ∀ w', C w' → Q .normal a' w') (ops := l.toArray) rfl hB.1 hB.2 l 0 (Array.replicate l.toArray.size false) a (by simp) (by simp)
    ⟨by simp, fun j hj => by omega, fun j _ hn => getD_in (by simpa using hn) (getD_replicate_false _ _)⟩ h
  simpa using this
/-- Many operations, in the class 'w, and more'. -/
theorem wp_more_quick {P : Program} {id : Nat} {Q : Exit → Act → World → Prop} {a : Act} {w : World} {l : List Oper} (hm : P.follows .mixedOrders = true) (hB : quickB l = true)
    (h : wpQuiet P l.toArray (fun w' => ∃ r, w' = more w r) (fun a' => ∀ r, Q .normal a' (more w r)) l a) : (Code.region id l.toArray true).wp P Q a w :=
  wp_quick (C := MoreC w) hm hB (moreC_one w) (by
    have e : (fun a' => ∀ w', MoreC w w' → Q .normal a' w') = (fun a' => ∀ r, Q .normal a' (more w r)) := by
      funext a'
      exact propext ⟨fun h r => h _ ⟨r, rfl⟩, fun h w' ⟨r, e⟩ => by rw [e]; exact h r⟩
    rw [e]
    exact h)
theorem wp_more_quick_m {P : Program} {id : Nat} {Q : Exit → Act → World → Prop} {a : Act} {w : World} {s : Rest} {l : List Oper} (hm : P.follows .mixedOrders = true) (hB : quickB l = true)
    (h : wpQuiet P l.toArray (fun w' => ∃ r, w' = more w r) (fun a' => ∀ r, Q .normal a' (more w r)) l a) : (Code.region id l.toArray true).wp P Q a (more w s) :=
  wp_quick (C := MoreC w) hm hB ⟨s.draw 1, by rw [← more_drew]; rfl⟩ (by
    have e : (fun a' => ∀ w', MoreC w w' → Q .normal a' w') = (fun a' => ∀ r, Q .normal a' (more w r)) := by
      funext a'
      exact propext ⟨fun h r => h _ ⟨r, rfl⟩, fun h w' ⟨r, e⟩ => by rw [e]; exact h r⟩
    rw [e]
    exact h)
end Go.Proofs.YthhipepdkpoomaaDoor

