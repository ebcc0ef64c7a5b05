/-
  Several blocks laid in a statement's midst, where a part of an answer may be taken ahead of a store or behind it: XReg5's late edges with XReg7's blocks.
-/
import Derived.Test.YtggohceeeggnmaaGa
namespace Go.Proofs.Ytggohceeeggnmaa
set_option linter.unusedVariables false

theorem lateOp_op (q : Nat) (o : Oper) : (lateOp q o).op = o.op := by obtain ⟨A, h⟩ := lateOp_same q o; rw [h]
theorem late_looks (q : Nat) (l : List Oper) (o : Oper) : (lateOp q o).looksAt (late q l).toArray = o.looksAt l.toArray := by
  unfold Oper.looksAt
  rw [lateOp_op, lateOp_guard]
  congr 1
  cases o.guard with
  | none => rfl
  | some g =>
    obtain ⟨g, b⟩ := g
    dsimp only
    rw [late_get]
    cases l.toArray[g]? with
    | none => rfl
    | some x =>
      show ((lateOp q x).dst).toList = (x.dst).toList
      rw [lateOp_dst]
theorem late_looked (q : Nat) (l : List Oper) (o : Oper) (F : FL) : looked (late q l).toArray (lateOp q o) F = looked l.toArray o F := by
  unfold looked
  rw [late_looks]
theorem late_looseAt {P : Program} (q : Nat) (o : Oper) (a : Act) (w : World) (V : Value → World → Prop) : looseAt P (lateOp q o) a w V = looseAt P o a w V := by
  unfold looseAt
  rw [sameish_op (P := P) (lateOp_same q o)]
theorem late_step {P : Program} {w0 : World} (q : Nat) (l : List Oper) (o : Oper) (a : Act) (F : FL) (res : Res) : StepOK P (late q l).toArray w0 (lateOp q o) a F res = StepOK P l.toArray w0 o a F res := by
  cases res with
  | val v =>
    unfold StepOK
    rw [late_looked]
    simp only [lateOp_wanted, late_looseAt]
  | loose V =>
    unfold StepOK
    rw [late_looked, lateOp_dst]
    simp only [lateOp_wanted, late_looseAt]
theorem late_next (q : Nat) (o : Oper) (a : Act) (F : FL) (res : Res) : nextA (lateOp q o) a res = nextA o a res ∧ nextF (lateOp q o) F res = nextF o F res := by
  cases res <;> (unfold nextA nextF; rw [lateOp_dst]; exact ⟨rfl, rfl⟩)
theorem late_wpLoose {P : Program} {w0 : World} {Q : Act → World → Prop} {q : Nat} {l : List Oper} : ∀ (r : List Oper) (F : FL) (a : Act), wpLoose P (late q l).toArray w0 Q (late q r) F a = wpLoose P l.toArray w0 Q r F a
  | [], F, a => rfl
  | o :: r, F, a => by
    show (∃ res, StepOK P (late q l).toArray w0 (lateOp q o) a F res ∧ wpLoose P (late q l).toArray w0 Q (late q r) (nextF (lateOp q o) F res) (nextA (lateOp q o) a res)) = ∃ res, StepOK P l.toArray w0 o a F res ∧ wpLoose P l.toArray w0 Q r (nextF o F res) (nextA o a res)
    congr 1
    funext res
    rw [late_step, (late_next q o a F res).1, (late_next q o a F res).2, late_wpLoose r]
theorem lates_wpLoose {P : Program} {w0 : World} {Q : Act → World → Prop} : ∀ (qs : List Nat) (l r : List Oper) (F : FL) (a : Act), wpLoose P (lates qs l).toArray w0 Q (lates qs r) F a = wpLoose P l.toArray w0 Q r F a
  | [], l, r, F, a => rfl
  | q :: s, l, r, F, a => by rw [lates, lates, lates_wpLoose s, late_wpLoose]
theorem lates_far (qs : List Nat) (l : List Oper) (A : Act) : Far (lates qs l) A = Far l A := by
  have key : ∀ (j : Nat) (o : Oper), (lates qs l)[j]? = some o → ∃ x : Oper, l[j]? = some x ∧ o.op = x.op ∧ o.dst = x.dst := by
    intro j o h
    have hj := (List.getElem?_eq_some_iff.1 h).1
    rw [lates_length] at hj
    obtain ⟨B, hB⟩ := lates_get j qs l _ (List.getElem?_eq_getElem hj)
    rw [h] at hB
    obtain rfl := Option.some.inj hB
    exact ⟨_, List.getElem?_eq_getElem hj, rfl, rfl⟩
  refine propext ⟨fun h j k oj ok S T d e hj hk h1 h2 h3 h4 hne => ?_, fun h j k oj ok S T d e hj hk h1 h2 h3 h4 hne => ?_⟩
  · obtain ⟨A1, hA1⟩ := lates_get j qs l _ hj
    obtain ⟨A2, hA2⟩ := lates_get k qs l _ hk
    exact h j k _ _ S T d e hA1 hA2 h1 h2 h3 h4 hne
  · obtain ⟨x, hx, e1, e2⟩ := key j oj hj
    obtain ⟨y, hy, f1, f2⟩ := key k ok hk
    exact h j k x y S T d e hx hy (e1 ▸ h1) (f1 ▸ h2) (e2 ▸ h3) (f2 ▸ h4) hne
/-- XReg7's law, up to the choice of an order. -/
theorem apart_from {P : Program} {Q : Exit → Act → World → Prop} {a : Act} {w W : World} {l : List Oper} (n : Nat) (tz : List (TypeId × Array Value)) (hz : ∀ p ∈ tz, NewRun P p.1 p.2) (hB : heapB l n l.length 0 = true) (hL : looseB (l.take n) = true) (hG : guardB l n = true) {N : Nat} (hA : allocB tz N (l.take n) = true) (hsN : a.tmps.size = N)
    (hW : ∃ r, W = more w r) (h : wpLoose P (l.take n).toArray w (fun a' w' => Far (l.take n) a' → wpList P l.toArray Q (l.drop n) a' w') (l.take n) [] a) : wpAny P .any l.toArray Q l.toArray.size (Array.replicate l.length false) a W := by
  simp only [heapB, Bool.and_eq_true, decide_eq_true_eq] at hB
  obtain ⟨⟨-, hn⟩, hok⟩ := hB
  have H : ∀ j o, l.toArray[j]? = some o → HeapAt l.toArray n l.length 0 j o := fun j o ho => by
    have := heapOk_spec (ops := l.toArray) rfl l 0 _ hok (fun i b hi => by
      rw [bits_eq, Array.getElem?_toList] at hi
      simp [Array.getD_eq_getD_getElem?, hi]) j o (by simpa using ho)
    rwa [Nat.zero_add] at this
  simp only [looseB, quickB, Bool.and_eq_true] at hL
  obtain ⟨⟨hsel, hok'⟩, hon⟩ := hL
  obtain ⟨rs, hl, hS, hF⟩ := loose_extract _ _ _ h
  have htn : (l.take n).length = n := by simp; omega
  have hq := apart_any hz (Q := fun a' w' => Far (l.take n) a' → wpList P l.toArray Q (l.drop n) a' w') (Q' := Exit.then (fun a w => wpList P l.toArray Q (l.drop n) a w) Q) (ops := (l.take n).toArray) rfl hsel hok' hon hA hsN hl hS hF (fun _ _ h hf => h hf) n (Array.replicate n false) a W (by simpa using htn.symm)
    (fun j oj hj hlj => by rw [getD_replicate_false] at hlj; cases hlj)
    ⟨hW, rfl, rfl, fun j o v d _ _ _ hd => (by rw [getD_replicate_false] at hd; cases hd), fun j o V d _ _ _ hd => (by rw [getD_replicate_false] at hd; cases hd), fun d _ => rfl⟩ (AInv.start _ _ _ _)
    (Nat.le_trans List.countP_le_length (by simp; omega))
  have := any_head H hn hG hok' n (Array.replicate l.length false) (Array.replicate n false) a _ (by simp) (by simp) (fun j hj => by rw [getD_replicate_false, getD_replicate_false]) (fun j _ hj => getD_in (by simpa using hj) (getD_replicate_false _ _))
    (fun j oj hj hlj => by rw [getD_replicate_false] at hlj; cases hlj) hq
  have e : n + (l.drop n).length = l.toArray.size := by simp; omega
  rw [e] at this
  exact this
theorem wp_apart_late {P : Program} {id : Nat} {Q : Exit → Act → World → Prop} {a : Act} {w W : World} {l : List Oper} (n : Nat) (qs : List Nat) (tz : List (TypeId × Array Value)) (hz : ∀ p ∈ tz, NewRun P p.1 p.2) (hm : P.follows .mixedOrders = true) (hT : latesB qs l = true) (hB : heapB (lates qs l) n (lates qs l).length 0 = true) (hL : looseB ((lates qs l).take n) = true) (hG : guardB (lates qs l) n = true) {N : Nat} (hA : allocB tz N ((lates qs l).take n) = true) (hsN : a.tmps.size = N)
    (hQ : ∀ d v c a w, Q (.panic c) (a.put (some d) v) w → Q (.panic c) a w) (hW : ∃ r, { W with drawn := W.drawn + 1 } = more w r) (h : wpLoose P (l.take n).toArray w (fun a' w' => Far (l.take n) a' → wpList P l.toArray Q (l.drop n) a' w') (l.take n) [] a) : (Code.region id l.toArray true).wp P Q a W := by
  refine wp_region_any hm (lates_any hQ qs l hT _ _ _ _ (by simp) ?_)
  have hlen := lates_length qs l
  have h' : wpLoose P ((lates qs l).take n).toArray w (fun a' w' => Far ((lates qs l).take n) a' → wpList P (lates qs l).toArray Q ((lates qs l).drop n) a' w') ((lates qs l).take n) [] a := by
    rw [lates_take, lates_drop, lates_wpLoose]
    simp only [lates_far, lates_wpList]
    exact h
  have key := apart_from (W := { W with drawn := W.drawn + 1 }) n tz hz hB hL hG hA hsN hW h'
  have e : (lates qs l).toArray.size = l.toArray.size := by simp [hlen]
  rw [e, hlen] at key
  simpa using key
theorem wp_more_apartl {P : Program} {id : Nat} {Q : Exit → Act → World → Prop} {a : Act} {w : World} {l : List Oper} (n N : Nat) (qs : List Nat) (tz : List (TypeId × Array Value)) (hz : ∀ p ∈ tz, NewRun P p.1 p.2) (hm : P.follows .mixedOrders = true) (hT : latesB qs l = true) (hB : heapB (lates qs l) n (lates qs l).length 0 = true) (hL : looseB ((lates qs l).take n) = true) (hG : guardB (lates qs l) n = true) (hA : allocB tz N ((lates qs l).take n) = true) (hsN : a.tmps.size = N)
    (hQ : ∀ d v c a w, Q (.panic c) (a.put (some d) v) w → Q (.panic c) a w) (h : wpLoose P (l.take n).toArray w (fun a' w' => Far (l.take n) a' → wpList P l.toArray Q (l.drop n) a' w') (l.take n) [] a) : (Code.region id l.toArray true).wp P Q a w :=
  wp_apart_late n qs tz hz hm hT hB hL hG hA hsN hQ ⟨⟨#[], w.drawn + 1⟩, by unfold more; simp⟩ h
theorem wp_more_apartl_m {P : Program} {id : Nat} {Q : Exit → Act → World → Prop} {a : Act} {w : World} {s : Rest} {l : List Oper} (n N : Nat) (qs : List Nat) (tz : List (TypeId × Array Value)) (hz : ∀ p ∈ tz, NewRun P p.1 p.2) (hm : P.follows .mixedOrders = true) (hT : latesB qs l = true) (hB : heapB (lates qs l) n (lates qs l).length 0 = true) (hL : looseB ((lates qs l).take n) = true) (hG : guardB (lates qs l) n = true) (hA : allocB tz N ((lates qs l).take n) = true) (hsN : a.tmps.size = N)
    (hQ : ∀ d v c a w, Q (.panic c) (a.put (some d) v) w → Q (.panic c) a w) (h : wpLoose P (l.take n).toArray w (fun a' w' => Far (l.take n) a' → wpList P l.toArray Q (l.drop n) a' w') (l.take n) [] a) : (Code.region id l.toArray true).wp P Q a (more w s) :=
  wp_apart_late n qs tz hz hm hT hB hL hG hA hsN hQ ⟨s.draw 1, by rw [← more_drew]; rfl⟩ h
end Go.Proofs.Ytggohceeeggnmaa

