/-
  Regions that draw their order, with a slice laid in their midst and stores at their end: the head by itself, in whatever order; then the tail.
-/
import Derived.Test.YtolfobgpgmfnpaaDoorGa
import Derived.Test.YtolfobgpgmfnpaaDoorReg4
namespace Go.Proofs.YtolfobgpgmfnpaaDoor
set_option linter.unusedVariables false
set_option linter.unusedVariables false
open Go.RowKit

theorem any_fuel {P : Program} {ops : Array Oper} {Q : Exit → Act → World → Prop} : ∀ (f : Nat) (m : Array Bool) (a : Act) (w : World), wpAny P .any ops Q f m a w → wpAny P .any ops Q (f + 1) m a w
  | 0, m, a, w, h => ⟨fun _ => h.2, fun i hi => by rw [h.1] at hi; cases hi⟩
  | f + 1, m, a, w, h => ⟨h.1, fun i hi => wpOp_mono (fun a' w' h' => any_fuel f _ a' w' h') (h.2 i hi)⟩
theorem any_more {P : Program} {ops : Array Oper} {Q : Exit → Act → World → Prop} {f : Nat} {m : Array Bool} {a : Act} {w : World} : ∀ (k : Nat), wpAny P .any ops Q f m a w → wpAny P .any ops Q (k + f) m a w
  | 0, h => by rw [Nat.zero_add]; exact h
  | k + 1, h => by rw [Nat.add_right_comm]; exact any_fuel _ _ _ _ (any_more k h)
theorem lets_then {N : Act → World → Prop} {Q : Exit → Act → World → Prop} (h : LetsOut (Exit.then N Q)) : LetsOut Q := h
theorem wp_then {P : Program} {o : Oper} {a : Act} {w : World} {K N : Act → World → Prop} {Q : Exit → Act → World → Prop} (h : o.wp P a w K (Exit.then N Q)) : o.wp P a w K Q := by
  unfold Oper.wp at *
  generalize (execOp a.eval o).run P w = r at *
  cases r with
  | ok n w' =>
    cases n with
    | enter f args =>
      rw [Oper.upon_enter] at h ⊢
      refine h.mono fun e w'' he => ?_
      cases e with
      | returned v => exact he
      | panicked c => exact he
      | outgrown => exact lets_then he
    | _ => exact h
  | halt x w' => cases x <;> exact h
def guardB (l : List Oper) (n : Nat) : Bool := (l.take n).all fun o => match o.guard with
  | some (g, _) => decide (g < n)
  | none => true

theorem any_head {P : Program} {l : List Oper} {n : Nat} {Q : Exit → Act → World → Prop} (H : ∀ j o, l.toArray[j]? = some o → HeapAt l.toArray n l.length 0 j o) (hn : n ≤ l.length) (hG : guardB l n = true)
    (hB : allOk (l.take n).toArray (l.take n) 0 (l.take n) (bits (l.take n)) = true) :
    ∀ (f : Nat) (m mh : Array Bool) (a : Act) (w : World), mh.size = n → m.size = l.length → (∀ j, j < n → m.getD j false = mh.getD j false) → (∀ j, n ≤ j → j < l.length → m.getD j true = false) → Shut l.toArray m →
      wpAny P .any (l.take n).toArray (Exit.then (fun a w => wpList P l.toArray Q (l.drop n) a w) Q) f mh a w → wpAny P .any l.toArray Q (f + (l.drop n).length) m a w := by
  have htn : (l.take n).length = n := by simp; omega
  have hops : ∀ (j : Nat), j < n → (l.take n).toArray[j]? = l.toArray[j]? := fun j hj => by simp [hj]
  have fin : ∀ (m mh : Array Bool) (a : Act) (w : World), m.size = l.length → (∀ j, j < n → m.getD j false = mh.getD j false) → (∀ j, n ≤ j → j < l.length → m.getD j true = false) → (∀ j, j < n → mh.getD j false = true) →
      wpList P l.toArray Q (l.drop n) a w → wpAny P .any l.toArray Q (l.drop n).length m a w := fun m mh a w hs he ht hd h =>
    tail_list H (.inr (by simp)) (l.drop n) n m a w (fun j => by simp [List.getElem?_drop]) (Nat.le_refl _) (by simp; omega) ⟨by simpa using hs, fun j hj _ => by rw [he j hj]; exact hd j hj, fun hp => by simp at hp, fun j hj hjs _ => ht j hj (by simpa using hjs)⟩ h
  intro f
  induction f with
  | zero =>
    intro m mh a w hmh hm he ht hsh h
    rw [Nat.zero_add]
    exact fin m mh a w hm he ht (fun j hj => all_done rfl hB (by rw [htn]; exact hmh) h.1 j (by omega)) h.2
  | succ f ih =>
    intro m mh a w hmh hm he ht hsh h
    by_cases hr : Region.ready .any (l.take n).toArray mh = []
    · exact any_more _ (fin m mh a w hm he ht (fun j hj => all_done rfl hB (by rw [htn]; exact hmh) hr j (by omega)) (h.1 hr))
    · have up : ∀ i, i ∈ Region.ready .any (l.take n).toArray mh → i ∈ Region.ready .any l.toArray m := fun i hi => by
        obtain ⟨hun, o, ho, hall⟩ := mem_ready.1 hi
        have hin : i < n := by
          have := (Array.getElem?_eq_some_iff.1 ho).1
          simp at this
          omega
        rw [hops i hin] at ho
        refine mem_ready.2 ⟨getD_in (by omega) (by rw [he i hin]; exact getD_both hun), o, ho, fun e hh hb => ?_⟩
        have := (H i o ho).back e hh hb
        rw [he e.on (by omega)]
        exact hall e hh hb
      rw [Nat.add_right_comm]
      refine ⟨fun h0 => ?_, fun i hi => ?_⟩
      · exfalso
        obtain ⟨i, hi⟩ := List.exists_mem_of_ne_nil _ hr
        have := up i hi
        rw [h0] at this
        cases this
      · obtain ⟨hun, o, ho, hall⟩ := mem_ready.1 hi
        have hil : i < l.length := by
          have := (Array.getElem?_eq_some_iff.1 ho).1
          simpa using this
        have hin : i < n := by
          refine Nat.lt_of_not_le fun hni => hr ?_
          have hd : ∀ j, j < n → mh.getD j false = true := fun j hj => by
            rw [← he j hj]
            exact shut_bit hsh j i i rfl o ho hall ((H i o ho).tail (by omega) hni j (by omega))
          refine List.eq_nil_iff_forall_not_mem.2 fun k hk => ?_
          obtain ⟨hku, ok, hok, -⟩ := mem_ready.1 hk
          have hkn : k < n := by
            have := (Array.getElem?_eq_some_iff.1 hok).1
            simp at this
            omega
          have := hd k hkn
          rw [getD_both hku] at this
          cases this
        have ho' : (l.take n).toArray[i]? = some o := by rw [hops i hin]; exact ho
        have hi' : i ∈ Region.ready .any (l.take n).toArray mh := by
          refine mem_ready.2 ⟨getD_in (by omega) (by rw [← he i hin]; exact getD_both hun), o, ho', fun e hh hb => ?_⟩
          have := (H i o ho).back e hh hb
          rw [← he e.on (by omega)]
          exact hall e hh hb
        have step : ∀ a' w', wpAny P .any (l.take n).toArray (Exit.then (fun a w => wpList P l.toArray Q (l.drop n) a w) Q) f (mh.setIfInBounds i true) a' w' → wpAny P .any l.toArray Q (f + (l.drop n).length) (m.setIfInBounds i true) a' w' := fun a' w' h' =>
          ih _ _ a' w' (by simpa using hmh) (by simpa using hm) (fun j hj => by
            by_cases hij : i = j
            · subst hij
              simp [hm, hmh, hil, hin]
            · rw [getD_set_ne false hij, getD_set_ne false hij]
              exact he j hj) (fun j hj hjl => by
            rw [getD_set_ne true (by omega)]
            exact ht j hj hjl) (shut_set hsh hi) h'
        have hk := wpOp_mono step (h.2 i hi')
        have hw : Region.wanted o (yielded (l.take n).toArray a.tmps) = Region.wanted o (yielded l.toArray a.tmps) := by
          unfold Region.wanted
          cases hg : o.guard with
          | none => rfl
          | some gw =>
            obtain ⟨g, want⟩ := gw
            have hgn : g < n := by
              have hmem : o ∈ l.take n := by
                have := List.mem_of_getElem? (show (l.take n)[i]? = some o by simpa using ho')
                exact this
              have := List.all_eq_true.1 hG o hmem
              rw [hg] at this
              simpa using this
            have hy : yielded (l.take n).toArray a.tmps g = yielded l.toArray a.tmps g := by
              unfold yielded
              rw [hops g hgn]
            simp only [hy]
        unfold wpOp at hk ⊢
        simp only [ho', ho] at hk ⊢
        rw [hw] at hk
        split
        · rename_i hc
          rw [if_pos hc] at hk
          rcases hk with hk | ⟨hk1, hk2⟩
          · exact .inl (wp_then hk)
          · exact .inr ⟨hk1, lets_then hk2⟩
        · rename_i hc
          rwa [if_neg hc] at hk

theorem wp_loose_tail {P : Program} {id : Nat} {Q : Exit → Act → World → Prop} {a : Act} {w W : World} {l : List Oper} (n : Nat) (hm : P.follows .mixedOrders = true) (hB : heapB l n l.length 0 = true) (hL : looseB (l.take n) = true) (hG : guardB l n = true)
    (hW : ∃ r, { W with drawn := W.drawn + 1 } = more w r) (h : wpLoose P (l.take n).toArray w (fun a' w' => wpList P l.toArray Q (l.drop n) a' w') (l.take n) [] a) : (Code.region id l.toArray true).wp P Q a W := by
  simp only [heapB, Bool.and_eq_true, decide_eq_true_eq] at hB
  obtain ⟨⟨-, hn⟩, hok⟩ := hB
  have H : ∀ j o, l.toArray[j]? = some o → HeapAt l.toArray n l.length 0 j o := fun j o ho => by
    have := heapOk_spec (ops := l.toArray) rfl l 0 _ hok (fun i b hi => by
      rw [bits_eq, Array.getElem?_toList] at hi
      simp [Array.getD_eq_getD_getElem?, hi]) j o (by simpa using ho)
    rwa [Nat.zero_add] at this
  simp only [looseB, quickB, Bool.and_eq_true] at hL
  obtain ⟨⟨hsel, hok'⟩, hon⟩ := hL
  obtain ⟨rs, hl, hS, hF⟩ := loose_extract _ _ _ h
  have htn : (l.take n).length = n := by simp; omega
  have hq := loose_any (Q' := Exit.then (fun a w => wpList P l.toArray Q (l.drop n) a w) Q) (ops := (l.take n).toArray) rfl hsel hok' hon hl hS hF (fun _ _ h => h) n (Array.replicate n false) a { W with drawn := W.drawn + 1 } (by simpa using htn.symm)
    (fun j oj hj hlj => by rw [getD_replicate_false] at hlj; cases hlj)
    ⟨hW, rfl, rfl, fun j o v d _ _ _ hd => (by rw [getD_replicate_false] at hd; cases hd), fun j o V d _ _ _ hd => (by rw [getD_replicate_false] at hd; cases hd), fun d _ => rfl⟩
    (Nat.le_trans List.countP_le_length (by simp; omega))
  refine wp_region_any hm ?_
  have := any_head H hn hG hok' n (Array.replicate l.length false) (Array.replicate n false) a _ (by simp) (by simp) (fun j hj => by rw [getD_replicate_false, getD_replicate_false]) (fun j _ hj => getD_in (by simpa using hj) (getD_replicate_false _ _))
    (fun j oj hj hlj => by rw [getD_replicate_false] at hlj; cases hlj) hq
  have e : n + (l.drop n).length = l.toArray.size := by simp; omega
  rw [e] at this
  exact this
theorem wp_more_loose_tail {P : Program} {id : Nat} {Q : Exit → Act → World → Prop} {a : Act} {w : World} {l : List Oper} (n : Nat) (hm : P.follows .mixedOrders = true) (hB : heapB l n l.length 0 = true) (hL : looseB (l.take n) = true) (hG : guardB l n = true)
    (h : wpLoose P (l.take n).toArray w (fun a' w' => wpList P l.toArray Q (l.drop n) a' w') (l.take n) [] a) : (Code.region id l.toArray true).wp P Q a w :=
  wp_loose_tail n hm hB hL hG ⟨⟨#[], w.drawn + 1⟩, by unfold more; simp⟩ h
theorem wp_more_loose_tail_m {P : Program} {id : Nat} {Q : Exit → Act → World → Prop} {a : Act} {w : World} {s : Rest} {l : List Oper} (n : Nat) (hm : P.follows .mixedOrders = true) (hB : heapB l n l.length 0 = true) (hL : looseB (l.take n) = true) (hG : guardB l n = true)
    (h : wpLoose P (l.take n).toArray w (fun a' w' => wpList P l.toArray Q (l.drop n) a' w') (l.take n) [] a) : (Code.region id l.toArray true).wp P Q a (more w s) :=
  wp_loose_tail n hm hB hL hG ⟨s.draw 1, by rw [← more_drew]; rfl⟩ h
end Go.Proofs.YtolfobgpgmfnpaaDoor

