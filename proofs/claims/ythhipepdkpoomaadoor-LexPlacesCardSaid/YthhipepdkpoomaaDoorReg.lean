/-
  Regions that draw their order, whose operations read and whose calls make memory of their own: one walk in the text's order serves every order; what ends the region (stores, one behind the other) is walked behind it.
-/
import Derived.Test.YthhipepdkpoomaaDoorMore
import Derived.StillTail
import Derived.Deep.Quiet
import Derived.Deep.QuietTactic
import Derived.BigQuiet
namespace Go.Proofs.YthhipepdkpoomaaDoor
set_option linter.unusedVariables false
open Go.RowKit

/-- w with whatever is more. -/
def MoreC (w : World) : World → Prop := fun w' => ∃ r, w' = more w r

section
variable {P : Program} {ops : Array Oper} {md : Region.Mode} {C : World → Prop}

/-- The head's operations in whatever order, each quiet in C, then L. -/
def headQ (P : Program) (md : Region.Mode) (ops : Array Oper) (C : World → Prop) (n : Nat) (L : Array Bool → Act → Prop) : Nat → Array Bool → Act → Prop
  | 0, m, a => L m a
  | f + 1, m, a => Region.ready md ops m ≠ [] ∧ ∀ i ∈ Region.ready md ops m, i < n ∧ qOp P ops C i (headQ P md ops C n L f (m.setIfInBounds i true)) a

theorem any_of_headQ {n g : Nat} {L : Array Bool → Act → Prop} {Q : Exit → Act → World → Prop} (hL : ∀ m a w, C w → L m a → wpAny P md ops Q g m a w) :
    ∀ (f : Nat) (m : Array Bool) (a : Act) (w : World), C w → headQ P md ops C n L f m a → wpAny P md ops Q (f + g) m a w
  | 0, m, a, w, hC, h => by rw [Nat.zero_add]; exact hL _ _ _ hC h
  | f + 1, m, a, w, hC, h => by
    have e : f + 1 + g = (f + g) + 1 := by omega
    rw [e]
    exact ⟨fun h0 => absurd h0 h.1, fun i hi => wpOp_of_qOp hC (fun a' w' hC' => any_of_headQ hL f _ a' w' hC') (h.2 i hi).2⟩

/-- One that is ready may be taken first. -/
theorem headQ_first {n i : Nat} {oi : Oper} {v : Value} {L : Array Bool → Act → Prop} (hi : ops[i]? = some oi) (hsel : ∀ (j : Nat) (o : Oper) cs b, ops[j]? = some o → o.op ≠ .select cs b)
    (hs : Region.sinkB md ops n = true) (hc : Region.chainB md ops n = true) (hn : n < ops.size) (hin : i < n) (hdone : ∀ m a, L m a → ∀ j ∈ Region.ready md ops m, n ≤ j) :
    ∀ (f : Nat) (m : Array Bool) (a : Act), HeadInv md ops n m →
      (∀ j oj, ops[j]? = some oj → j ≠ i → m.getD j true = false → (∀ e ∈ oj.after, Region.binds md e = true → e.on ≠ i) → oi.apart ops oj = true) →
      i ∈ Region.ready md ops m → YieldsIn P ops C oi v a → headQ P md ops C n L f (m.setIfInBounds i true) (a.put oi.dst v) → headQ P md ops C n L (f + 1) m a := by
  intro f
  induction f with
  | zero =>
    intro m a inv _ hr hy H
    have hun := (mem_ready.1 hr).1
    refine ⟨fun h => (by rw [h] at hr; cases hr), fun j hj => ?_⟩
    have hjn : j < n := Nat.lt_of_not_le fun h => tail_waits hs hc hn inv _ i rfl hin hun j h hj
    by_cases hji : j = i
    · subst hji
      exact ⟨hjn, hy.qOp hi H⟩
    · have := hdone _ _ H j (ready_mono hj hji)
      omega
  | succ f ih =>
    intro m a inv hfree hr hy H
    have hun := (mem_ready.1 hr).1
    refine ⟨fun h => (by rw [h] at hr; cases hr), fun j hj => ?_⟩
    have hjn : j < n := Nat.lt_of_not_le fun h => tail_waits hs hc hn inv _ i rfl hin hun j h hj
    refine ⟨hjn, ?_⟩
    by_cases hji : j = i
    · subst hji
      exact hy.qOp hi H
    · have h1 := (H.2 j (ready_mono hj hji)).2
      obtain ⟨hjun, oj, hoj, hall⟩ := mem_ready.1 hj
      have hnot : ∀ e ∈ oj.after, Region.binds md e = true → e.on ≠ i := by
        intro e he hb heq
        have h1 := hall e he hb
        rw [heq, getD_both hun] at h1
        cases h1
      have h2 := qOp_put hoj (hfree j oj hoj hji hjun hnot) (fun cs b => hsel i oi cs b hi) (fun cs b => hsel j oj cs b hoj) hy h1
      refine qOp_mono (fun a' h3 => ih (m.setIfInBounds j true) a' (inv.set hj hjn) ?_ (ready_mono hr (Ne.symm hji)) h3.1 ?_) h2
      · intro k ok hk hki hkun hno
        refine hfree k ok hk hki ?_ hno
        by_cases hjk : j = k
        · subst hjk; exact hjun
        · rw [getD_set_ne true hjk] at hkun; exact hkun
      · rw [Array.setIfInBounds_comm _ _ hji]
        exact h3.2

theorem headQ_lex {n g : Nat} {Lq : Act → Prop} (hsel : Region.noSelect ops = true) (hs : Region.sinkB md ops n = true) (hc : Region.chainB md ops n = true) (hn : n < ops.size) :
    ∀ (l : List Oper) (k : Nat) (m : Array Bool) (a : Act), (∀ j, j < l.length → l[j]? = ops[k + j]?) → k + l.length = n → HeadInv md ops n m →
    Region.lexHead md ops g l.length k m = true → wpQuiet P ops C Lq l a →
    headQ P md ops C n (fun m' a' => Region.seqB md ops g n m' = true ∧ Lq a') l.length m a
  | [], k, m, a, _, hk, _, hB, h => by
    obtain rfl : k = n := by simpa using hk
    exact ⟨by simpa [Region.lexHead] using hB, h⟩
  | o :: l, k, m, a, hl, hk, inv, hB, h => by
    have h0 : ops[k]? = some o := by simpa using (hl 0 (by simp)).symm
    simp only [List.length_cons, Region.lexHead, Bool.and_eq_true] at hB
    obtain ⟨⟨hr, hf⟩, hB'⟩ := hB
    have hkn : k < n := by simp only [List.length_cons] at hk; omega
    have hr' : k ∈ Region.ready md ops m := by simpa using hr
    have hst : qOp P ops C k (wpQuiet P ops C Lq l) a := by unfold qOp; simp only [h0]; exact h
    obtain ⟨v, hy, hK⟩ := yieldsIn_of_qOp h0 hst
    refine headQ_first h0 (Region.noSelect_spec hsel) hs hc hn hkn (fun _ _ hL => seqB_ready hL.1) l.length m a inv (Region.free_spec h0 hf) hr' hy
      (headQ_lex hsel hs hc hn l (k + 1) _ _ (fun j hj => ?_) (by simp only [List.length_cons] at hk; omega) (inv.set hr' hkn) hB' hK)
    have := hl (j + 1) (by simp; omega)
    simpa [Nat.add_assoc, Nat.add_comm 1 j] using this

/-- A head that is quiet in C, a tail that is walked in its order. -/
theorem wp_region_quiet_tail {id : Nat} {Q : Exit → Act → World → Prop} {a : Act} {w : World} {l : List Oper} (n : Nat) (hm : P.follows .mixedOrders = true) (hB : Region.lexTailB .any l.toArray n = true)
    (hC : C { w with drawn := w.drawn + 1 }) (h : wpQuiet P l.toArray C (fun a' => ∀ w', C w' → wpList P l.toArray Q (l.drop n) a' w') (l.take n) a) : (Code.region id l.toArray true).wp P Q a w := by
  simp only [Region.lexTailB, Bool.and_eq_true, decide_eq_true_eq] at hB
  obtain ⟨⟨⟨⟨hsel, hn⟩, hs⟩, hc⟩, hlex⟩ := hB
  have hn' : n < l.length := by simpa using hn
  have htl : (l.take n).length = n := by simp; omega
  have hdl : (l.drop n).length = l.toArray.size - n := by simp
  have inv0 : HeadInv .any l.toArray n (Array.replicate l.toArray.size false) :=
    ⟨by simp, fun j oj _ hl => (by rw [getD_replicate_false] at hl; cases hl), fun t _ ht => getD_in (by simpa using ht) (getD_replicate_false _ _)⟩
  have H := headQ_lex (md := .any) (g := l.toArray.size - n) hsel hs hc hn (l.take n) 0 _ a (fun j hj => by
    have hj' : j < n := by rw [htl] at hj; exact hj
    simp [hj']) (by simpa using htl) inv0 (by rw [htl]; exact hlex) h
  refine wp_region_any hm ?_
  have := any_of_headQ (Q := Q) (g := l.toArray.size - n) (fun m a' w' hC' hL => by
    have := wpAny_of_seq (md := .any) (Q' := Q) (l.drop n) n m a' w' (fun j => by simp [List.getElem?_drop]) (by rw [hdl]; exact hL.1) (hL.2 w' hC')
    rwa [hdl] at this) _ _ _ _ hC H
  rw [htl, show n + (l.toArray.size - n) = l.toArray.size by omega] at this
  exact this
end

theorem moreC_one (w : World) : MoreC w { w with drawn := w.drawn + 1 } := ⟨⟨#[], w.drawn + 1⟩, by unfold more; simp⟩

/-- The same at the class 'w, and more'. -/
theorem wp_more_tail {P : Program} {id : Nat} {Q : Exit → Act → World → Prop} {a : Act} {w : World} {l : List Oper} (n : Nat) (hm : P.follows .mixedOrders = true) (hB : Region.lexTailB .any l.toArray n = true)
    (h : wpQuiet P l.toArray (fun w' => ∃ r, w' = more w r) (fun a' => ∀ r, wpList P l.toArray Q (l.drop n) a' (more w r)) (l.take n) a) : (Code.region id l.toArray true).wp P Q a w :=
  wp_region_quiet_tail (C := MoreC w) n hm hB (moreC_one w) (by
    have e : (fun a' => ∀ w', MoreC w w' → wpList P l.toArray Q (l.drop n) a' w') = (fun a' => ∀ r, wpList P l.toArray Q (l.drop n) a' (more w r)) := by
      funext a'
      exact propext ⟨fun h r => h _ ⟨r, rfl⟩, fun h w' ⟨r, e⟩ => by rw [e]; exact h r⟩
    rw [e]
    exact h)
theorem wp_more_lit {P : Program} {id : Nat} {Q : Exit → Act → World → Prop} {a : Act} {w : World} {l : List Oper} (hm : P.follows .mixedOrders = true) (hB : Region.lexB .any l.toArray = true)
    (h : wpQuiet P l.toArray (fun w' => ∃ r, w' = more w r) (fun a' => ∀ r, Q .normal a' (more w r)) l a) : (Code.region id l.toArray true).wp P Q a w :=
  wp_region_quiet (C := MoreC w) hm hB (moreC_one w) (by
    have e : (fun a' => ∀ w', MoreC w w' → Q .normal a' w') = (fun a' => ∀ r, Q .normal a' (more w r)) := by
      funext a'
      exact propext ⟨fun h r => h _ ⟨r, rfl⟩, fun h w' ⟨r, e⟩ => by rw [e]; exact h r⟩
    rw [e]
    exact h)
/-- The same in a world that is 'w, and more' already. -/
theorem wp_more_tail_m {P : Program} {id : Nat} {Q : Exit → Act → World → Prop} {a : Act} {w : World} {s : Rest} {l : List Oper} (n : Nat) (hm : P.follows .mixedOrders = true) (hB : Region.lexTailB .any l.toArray n = true)
    (h : wpQuiet P l.toArray (fun w' => ∃ r, w' = more w r) (fun a' => ∀ r, wpList P l.toArray Q (l.drop n) a' (more w r)) (l.take n) a) : (Code.region id l.toArray true).wp P Q a (more w s) :=
  wp_region_quiet_tail (C := MoreC w) n hm hB ⟨s.draw 1, by rw [← more_drew]; rfl⟩ (by
    have e : (fun a' => ∀ w', MoreC w w' → wpList P l.toArray Q (l.drop n) a' w') = (fun a' => ∀ r, wpList P l.toArray Q (l.drop n) a' (more w r)) := by
      funext a'
      exact propext ⟨fun h r => h _ ⟨r, rfl⟩, fun h w' ⟨r, e⟩ => by rw [e]; exact h r⟩
    rw [e]
    exact h)
theorem wp_more_lit_m {P : Program} {id : Nat} {Q : Exit → Act → World → Prop} {a : Act} {w : World} {s : Rest} {l : List Oper} (hm : P.follows .mixedOrders = true) (hB : Region.lexB .any l.toArray = true)
    (h : wpQuiet P l.toArray (fun w' => ∃ r, w' = more w r) (fun a' => ∀ r, Q .normal a' (more w r)) l a) : (Code.region id l.toArray true).wp P Q a (more w s) :=
  wp_region_quiet (C := MoreC w) hm hB ⟨s.draw 1, by rw [← more_drew]; rfl⟩ (by
    have e : (fun a' => ∀ w', MoreC w w' → Q .normal a' w') = (fun a' => ∀ r, Q .normal a' (more w r)) := by
      funext a'
      exact propext ⟨fun h r => h _ ⟨r, rfl⟩, fun h w' ⟨r, e⟩ => by rw [e]; exact h r⟩
    rw [e]
    exact h)
/-- A contract, met in the midst of such a region. -/
theorem quiet_call {P : Program} {f : FuncId} {args : Array Value} {w : World} {r : Rest} {v : Value}
    (h : Calls P f args (more w r) fun e w' => e = .returned v ∧ More (more w r) w') : Calls P f args (more w r) fun e w'' => e = .returned v ∧ ∃ s, w'' = more w s :=
  h.mono fun _ _ ⟨he, s, hm⟩ => ⟨he, r.plus s, by rw [hm, more_more]⟩
theorem quiet_call_same {P : Program} {f : FuncId} {args : Array Value} {w : World} {r : Rest} {v : Value}
    (h : Calls P f args (more w r) fun e w' => e = .returned v ∧ more w r = w') : Calls P f args (more w r) fun e w'' => e = .returned v ∧ ∃ s, w'' = more w s :=
  h.mono fun _ _ ⟨he, hm⟩ => ⟨he, r, hm.symm⟩
/-- The same where what it answers is known by a fact at hand. -/
theorem quiet_call_b {P : Program} {f : FuncId} {args : Array Value} {w : World} {r : Rest} {b c : Bool}
    (h : Calls P f args (more w r) fun e w' => e = .returned (.bool c) ∧ More (more w r) w') (e : c = b) : Calls P f args (more w r) fun e w'' => e = .returned (.bool b) ∧ ∃ s, w'' = more w s :=
  quiet_call (e ▸ h)
theorem quiet_same_b {P : Program} {f : FuncId} {args : Array Value} {w : World} {r : Rest} {b c : Bool}
    (h : Calls P f args (more w r) fun e w' => e = .returned (.bool c) ∧ more w r = w') (e : c = b) : Calls P f args (more w r) fun e w'' => e = .returned (.bool b) ∧ ∃ s, w'' = more w s :=
  quiet_call_same (e ▸ h)
/-- A contract at known arguments. -/
theorem lit_of {P : Program} {f : FuncId} {args : Array Value} {W : World} {v v' : Value} (h : Calls P f args W fun e w' => e = .returned v ∧ More W w') (e : v = v') : Calls P f args W fun e w' => e = .returned v' ∧ More W w' := e ▸ h
theorem lit_of_same {P : Program} {f : FuncId} {args : Array Value} {W : World} {v v' : Value} (h : Calls P f args W fun e w' => e = .returned v ∧ W = w') (e : v = v') : Calls P f args W fun e w' => e = .returned v' ∧ W = w' := e ▸ h
end Go.Proofs.YthhipepdkpoomaaDoor

