/-
  Lines of words and numbers whatever blanks and remarks stand between, and the tokens that are read of them; lenses: plain lists.
-/
import Derived.Test.YtgikkcnpnnbgdaaGreatDoorGg
namespace Go.Proofs.YtgikkcnpnnbgdaaGreatDoor
set_option linter.unusedVariables false
open Go.RowKit

/-! ### Lines, with blanks of some kind between and an end of some kind -/
abbrev It := Nat × List UInt8
def ktk (t : Tk) : It := (t.kind, t.text)
def restX (sep fin : List UInt8) : List It → List UInt8
  | [] => fin
  | y :: r => sep ++ (y.2 ++ restX sep fin r)
def lineX (sep fin : List UInt8) (l : It × List It) : List UInt8 := l.1.2 ++ restX sep fin l.2
def textX (sep fin : List UInt8) (ls : List (It × List It)) : List UInt8 := ls.flatMap (lineX sep fin)
def itsX (l : It × List It) : List It := l.1 :: (l.2 ++ [(3, [])])
def OkSep (sep : List UInt8) : Prop := sep.all isBl = true ∧ ∃ q, sep = 32 :: q
/-- What ends a line: it takes so much of what is counted down. -/
def OkFin (fin : List UInt8) : Prop := ∃ k s q, fin = s :: q ∧ (s = 32 ∨ s = 10) ∧ k ≤ fin.length ∧ ∀ (n : Nat) (r : List UInt8) (L C : Nat) (acc : List Tk), unended acc = true →
  ∃ t L', ktk t = (3, []) ∧ lexF (n + k) (fin ++ r) L C acc = lexF n r L' 1 (acc ++ [t])
theorem sep_one : OkSep [32] := ⟨rfl, [], rfl⟩
theorem sep_wide : OkSep [32, 9, 32] := ⟨rfl, _, rfl⟩
theorem fin_line : OkFin [10] := ⟨1, 10, [], rfl, .inr rfl, by decide, fun n r L C acc hu => ⟨⟨3, [], L, C⟩, L + 1, rfl, by
  rw [List.singleton_append, lexF_line]
  unfold endUp
  rw [if_pos hu]⟩⟩
theorem fin_wide : OkFin [32, 35, 32, 49, 10, 10] := ⟨2, 32, _, rfl, .inl rfl, by decide, fun n r L C acc hu => ⟨⟨3, [], L, C + 1 + 3⟩, L + 1 + 1, rfl, by
  simp only [List.cons_append, List.nil_append]
  rw [lexF_blank rfl, lexF_remark, remark_drop.1, remark_drop.2]
  have e1 : ((32 : UInt8) :: 49 :: 10 :: 10 :: r).dropWhile isRm = 10 :: 10 :: r := rfl
  have e2 : ((32 : UInt8) :: 49 :: 10 :: 10 :: r).takeWhile isRm = [32, 49] := rfl
  rw [e1, e2, lexF_line]
  have e3 : endUp acc L (C + 1 + ([35, 32, 49] : List UInt8).length) = acc ++ [⟨3, [], L, C + 1 + 3⟩] := by
    unfold endUp
    rw [if_pos hu]
    rfl
  rw [e3, lexF_line]
  unfold endUp
  rw [if_neg (by simp [unended])]⟩⟩
theorem sep_skip : ∀ (sep : List UInt8), sep.all isBl = true → ∀ (n : Nat) (r : List UInt8) (L C : Nat) (acc : List Tk), lexF (n + 1) (sep ++ r) L C acc = lexF (n + 1) r L (C + sep.length) acc
  | [], _, _, _, _, _, _ => rfl
  | b :: q, h, n, r, L, C, acc => by
    simp only [List.all_cons, Bool.and_eq_true] at h
    rw [List.cons_append, lexF_blank h.1, sep_skip q h.2, List.length_cons]
    congr 1
    omega
theorem it_ends (acc : List Tk) {x : It} (hx : OkIt x) (L C : Nat) : unended (acc ++ [⟨x.1, x.2, L, C⟩]) = true := by
  have := (it_pos hx).2
  simpa [unended] using this
theorem restX_lex {sep fin : List UInt8} (hs : OkSep sep) (hf : OkFin fin) : ∀ (r : List It) (x : It), OkIt x → (∀ y ∈ r, OkIt y) → ∀ (n : Nat) (q : List UInt8) (L C : Nat) (acc : List Tk), (x.2 ++ (restX sep fin r ++ q)).length < n →
    ∃ n' L' ts, q.length < n' ∧ ts.map ktk = x :: (r ++ [(3, [])]) ∧ lexF n (x.2 ++ (restX sep fin r ++ q)) L C acc = lexF n' q L' 1 (acc ++ ts)
  | [], x, hx, _, n, q, L, C, acc, hn => by
    have hp := it_pos hx
    obtain ⟨k, s, f, e, hs1, hk, hstep⟩ := hf
    unfold restX at hn ⊢
    simp only [List.length_append] at hn
    obtain ⟨j, rfl⟩ : ∃ j, n = (j + k) + 1 := ⟨n - k - 1, by omega⟩
    obtain ⟨t, L', ht, hl⟩ := hstep j q L (C + x.2.length) (acc ++ [⟨x.1, x.2, L, C⟩]) (it_ends acc hx L C)
    refine ⟨j, L', [⟨x.1, x.2, L, C⟩, t], by omega, ?_, ?_⟩
    · simp only [List.map_cons, List.map_nil, ht, List.nil_append]
      rfl
    · have e2 : fin ++ q = s :: (f ++ q) := by rw [e]; rfl
      rw [e2, it_step hx hs1, ← e2, hl, List.append_assoc]
      rfl
  | y :: r, x, hx, hr, n, q, L, C, acc, hn => by
    have hp := it_pos hx
    obtain ⟨hb, f, e⟩ := hs
    have hs2 : OkSep sep := ⟨hb, f, e⟩
    unfold restX at hn ⊢
    simp only [List.append_assoc, List.length_append] at hn ⊢
    have hl : 1 ≤ sep.length := by rw [e]; simp
    obtain ⟨j, rfl⟩ : ∃ j, n = j + 1 + 1 := ⟨n - 2, by omega⟩
    obtain ⟨n', L', ts, h1, h2, h3⟩ := restX_lex hs2 hf r y (hr y (by simp)) (fun z hz => hr z (by simp [hz])) (j + 1) q L (C + x.2.length + sep.length) (acc ++ [⟨x.1, x.2, L, C⟩]) (by simp only [List.length_append]; omega)
    refine ⟨n', L', ⟨x.1, x.2, L, C⟩ :: ts, h1, ?_, ?_⟩
    · rw [List.map_cons, h2]
      rfl
    · have e2 : sep ++ (y.2 ++ (restX sep fin r ++ q)) = 32 :: (f ++ (y.2 ++ (restX sep fin r ++ q))) := by rw [e]; rfl
      rw [e2, it_step hx (.inl rfl), ← e2, sep_skip sep hb, h3, List.append_assoc]
      rfl
theorem map_last {ts : List Tk} {a : List It} (h : ts.map ktk = a ++ [(3, [])]) (acc : List Tk) : unended (acc ++ ts) = false := by
  obtain ⟨u, v, rfl, -, hv⟩ := List.map_eq_append_iff.1 h
  obtain ⟨t, w, rfl, ht, hw⟩ := List.map_eq_cons_iff.1 hv
  obtain rfl := List.map_eq_nil_iff.1 hw
  have : t.kind = 3 := congrArg Prod.fst ht
  rw [← List.append_assoc]
  simp [unended, this]
def OkLines (ls : List (It × List It)) : Prop := ∀ l ∈ ls, OkIt l.1 ∧ ∀ y ∈ l.2, OkIt y
theorem textX_lex {sep fin : List UInt8} (hs : OkSep sep) (hf : OkFin fin) : ∀ (ls : List (It × List It)), OkLines ls → ∀ (n L : Nat) (acc : List Tk), (textX sep fin ls).length < n → unended acc = false →
    ∃ ts, ts.map ktk = ls.flatMap itsX ∧ lexF n (textX sep fin ls) L 1 acc = ⟨acc ++ ts, 0, 0, 0⟩
  | [], _, n, L, acc, hn, hu => by
    obtain ⟨m, rfl⟩ : ∃ m, n = m + 1 := ⟨n - 1, by omega⟩
    refine ⟨[], rfl, ?_⟩
    show lexF (m + 1) [] L 1 acc = _
    rw [lexF_nil]
    unfold endUp
    rw [if_neg (by rw [hu]; simp), List.append_nil]
  | l :: r, hl, n, L, acc, hn, hu => by
    have e : textX sep fin (l :: r) = l.1.2 ++ (restX sep fin l.2 ++ textX sep fin r) := by
      show lineX sep fin l ++ textX sep fin r = _
      unfold lineX
      rw [List.append_assoc]
    rw [e] at hn ⊢
    obtain ⟨n', L', ts, h1, h2, h3⟩ := restX_lex hs hf l.2 l.1 (hl l (by simp)).1 (hl l (by simp)).2 n (textX sep fin r) L 1 acc hn
    obtain ⟨us, h4, h5⟩ := textX_lex hs hf r (fun x hx => hl x (by simp [hx])) n' L' (acc ++ ts) h1 (map_last (a := l.1 :: l.2) (by rw [h2]; rfl) acc)
    refine ⟨ts ++ us, ?_, ?_⟩
    · rw [List.map_append, h2, h4]
      rfl
    · rw [h3, h5, List.append_assoc]
theorem textX_read {sep fin : List UInt8} (hs : OkSep sep) (hf : OkFin fin) {ls : List (It × List It)} (hl : OkLines ls) (hn : (textX sep fin ls).length ≤ 4000) : ∃ ts, ts.map ktk = ls.flatMap itsX ∧ lexP (textX sep fin ls) = ⟨ts, 0, 0, 0⟩ := by
  obtain ⟨ts, h1, h2⟩ := textX_lex hs hf ls hl _ 1 [] (Nat.lt_succ_self _) rfl
  refine ⟨ts, h1, ?_⟩
  unfold lexP
  rw [if_neg (by omega), h2, List.nil_append]

/-! ### The same text with wider blanks, remarks and empty lines -/
def widen (sep fin : List UInt8) (b : UInt8) : List UInt8 := if b = 32 then sep else if b = 10 then fin else [b]
theorem it_plain {x : It} (hx : OkIt x) : ∀ b ∈ x.2, b ≠ 32 ∧ b ≠ 10 := by
  have key : ∀ b : UInt8, isW b = true ∨ isNm b = true ∨ b = 45 ∨ isLet b = true ∨ isD b = true → b ≠ 32 ∧ b ≠ 10 := by
    intro b h
    refine ⟨?_, ?_⟩ <;> (rintro rfl; revert h; decide)
  intro b hb
  rcases hx with ⟨-, c, w, e, hc, hw, -⟩ | ⟨-, c, w, e, hc, hw, -⟩
  · rw [e] at hb
    rcases List.mem_cons.1 hb with rfl | hb
    · exact key _ (.inr (.inr (.inr (.inl hc))))
    · exact key _ (.inl (List.all_eq_true.1 hw b hb))
  · rw [e] at hb
    rcases List.mem_cons.1 hb with rfl | hb
    · rcases hc with h | h
      · exact key _ (.inr (.inr (.inl h)))
      · exact key _ (.inr (.inr (.inr (.inr h))))
    · exact key _ (.inr (.inl (List.all_eq_true.1 hw b hb)))
theorem widen_plain (sep fin : List UInt8) : ∀ (t : List UInt8), (∀ b ∈ t, b ≠ 32 ∧ b ≠ 10) → t.flatMap (widen sep fin) = t
  | [], _ => rfl
  | b :: r, h => by
    have hb := h b (by simp)
    rw [List.flatMap_cons, widen_plain sep fin r fun c hc => h c (by simp [hc])]
    unfold widen
    rw [if_neg hb.1, if_neg hb.2]
    rfl
theorem widen_rest (sep fin : List UInt8) : ∀ (r : List It), (∀ y ∈ r, OkIt y) → (restX [32] [10] r).flatMap (widen sep fin) = restX sep fin r
  | [], _ => by
    show widen sep fin 10 ++ [] = fin
    rw [List.append_nil]
    rfl
  | y :: r, h => by
    unfold restX
    rw [List.singleton_append, List.flatMap_cons, List.flatMap_append, widen_plain _ _ _ (it_plain (h y (by simp))), widen_rest sep fin r fun z hz => h z (by simp [hz])]
    rfl
theorem widen_text (sep fin : List UInt8) : ∀ (ls : List (It × List It)), OkLines ls → (textX [32] [10] ls).flatMap (widen sep fin) = textX sep fin ls
  | [], _ => rfl
  | l :: r, h => by
    show (lineX [32] [10] l ++ textX [32] [10] r).flatMap (widen sep fin) = lineX sep fin l ++ textX sep fin r
    unfold lineX
    rw [List.flatMap_append, List.flatMap_append, widen_plain _ _ _ (it_plain (h l (by simp)).1), widen_rest sep fin _ (h l (by simp)).2, widen_text sep fin r fun x hx => h x (by simp [hx])]
end Go.Proofs.YtgikkcnpnnbgdaaGreatDoor

