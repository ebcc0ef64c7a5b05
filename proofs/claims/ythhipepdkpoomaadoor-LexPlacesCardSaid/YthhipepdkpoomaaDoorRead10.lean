/-
  What the walks of chapter 10's statements have in common: a token's cells, its place as words, how many tokens there are.
-/
import Derived.Test.YthhipepdkpoomaaDoorKnown10
import Derived.Test.YthhipepdkpoomaaDoorPut
import Derived.Test.YthhipepdkpoomaaDoorPlaces
import Derived.Test.YthhipepdkpoomaaDoorPair
namespace Go.Proofs.YthhipepdkpoomaaDoor
set_option linter.unusedVariables false
open Go.ChangeShapes Go.WideShapes Go.ChangeAt Go.RowKit

@[go_sem] theorem eqIn_cx (a b c d : Nat) (w : World) : (Op.equalIn 9999 23 (.complex .f64 a b) (.complex .f64 c d)).run Tryd.prog w = .ok (Ieee.double.order a c == some .eq && Ieee.double.order b d == some .eq) w := by kernel_rfl
theorem neq_same (k : Int) (x : ByteArray) (p q : Nat) (hp : (Ieee.double.order p p == some .eq) = true) (hq : (Ieee.double.order q q == some .eq) = true) (w : World) : (binOp .neq 32 (.agg #[.int .i64 k, .string x, .complex .f64 p q]) (.agg #[.int .i64 k, .string x, .complex .f64 p q])).run Tryd.prog w = .ok (.bool false) w := by
  simp [go_sem, eqIn_cx, hp, hq, Result.andThen]
theorem neq_cx (p q p' q' : Nat) (w : World) : (binOp .neq 23 (.complex .f64 p q) (.complex .f64 p' q')).run Tryd.prog w = .ok (.bool (!((Ieee.double.order p p' == some .eq && Ieee.double.order q q' == some .eq)))) w := by
  kernel_rfl
theorem neq_same_cx (p q : Nat) (hp : (Ieee.double.order p p == some .eq) = true) (hq : (Ieee.double.order q q == some .eq) = true) (w : World) : (binOp .neq 23 (.complex .f64 p q) (.complex .f64 p q)).run Tryd.prog w = .ok (.bool false) w := by
  rw [neq_cx, hp, hq]; rfl
theorem ord_nw {n : Nat} (h : n ≤ 100000) : (Ieee.double.order (nw n) (nw n) == some .eq) = true := by
  rw [nw_eq, eq_ww (a := n) (b := n) false false (by unfold In52; omega) (by unfold In52; omega)]
  simp
theorem ord_eq {n : Nat} (h : n ≤ 100000) : Ieee.double.order (nw n) (nw n) = some .eq := by simpa using ord_nw h
theorem more_plus (w : World) (r s : Rest) : More (more w r) (more w (r.plus s)) := ⟨s, (more_more w r s).symm⟩
theorem endUp_len (acc : List Tk) (L C : Nat) : (endUp acc L C).length ≤ acc.length + 1 := by
  unfold endUp
  split <;> simp
theorem lexF_count : ∀ (n : Nat) (r : List UInt8) (L C : Nat) (acc : List Tk), (lexF n r L C acc).toks.length ≤ acc.length + r.length + 1
  | 0, _, _, _, _ => by simp [lexF]
  | n + 1, r, L, C, acc => by
    rw [lexF_blanks]
    have h1 := take_drop isBl r
    generalize C + (r.takeWhile isBl).length = D
    cases hd : r.dropWhile isBl with
    | nil =>
      rw [lexF_nil]
      have := endUp_len acc L D
      simp only
      omega
    | cons c q =>
      rw [hd, List.length_cons] at h1
      by_cases c10 : c = 10
      · subst c10
        rw [lexF_line]
        have h2 := lexF_count n q (L + 1) 1 (endUp acc L D)
        have := endUp_len acc L D
        omega
      by_cases c35 : c = 35
      · subst c35
        rw [lexF_remark]
        have h2 := take_drop isRm (35 :: q)
        rw [List.length_cons] at h2
        generalize D + ((35 :: q).takeWhile isRm).length = D2
        cases hz : (35 :: q).dropWhile isRm with
        | nil =>
          rw [lexF_nil]
          have := endUp_len acc L D2
          simp only
          omega
        | cons z y =>
          have hz2 : isRm z = false := by
            have := List.head?_dropWhile_not isRm (35 :: q)
            rw [hz] at this
            simpa using this
          have hz3 : z = 10 := by simpa [isRm] using hz2
          subst hz3
          rw [hz, List.length_cons] at h2
          rw [lexF_line]
          have h3 := lexF_count n y (L + 1) 1 (endUp acc L D2)
          have := endUp_len acc L D2
          omega
      cases hc : isLet c with
      | true =>
        rw [lexF_word hc]
        have h2 := take_drop isW (c :: q)
        have h4 : 0 < ((c :: q).takeWhile isW).length := by rw [(word_drop hc).2]; simp
        rw [List.length_cons] at h2
        split
        · simp
        · have h3 := lexF_count n ((c :: q).dropWhile isW) L (D + ((c :: q).takeWhile isW).length) (acc ++ [⟨1, (c :: q).takeWhile isW, L, D⟩])
          rw [List.length_append, List.length_singleton] at h3
          omega
      | false =>
        by_cases hn : c = 45 ∨ isD c = true
        · rw [lexF_number hn]
          have h2 := take_drop isNm q
          split
          · have h3 := lexF_count n (q.dropWhile isNm) L (D + (1 + (q.takeWhile isNm).length)) (acc ++ [⟨2, c :: q.takeWhile isNm, L, D⟩])
            rw [List.length_append, List.length_singleton] at h3
            omega
          · simp
        · have hb : isBl c = false := by
            have := List.head?_dropWhile_not isBl r
            rw [hd] at this
            simpa using this
          rw [lexF_other hb c10 c35 hc (fun h => hn (.inl h)) (by apply Bool.eq_false_iff.2; exact fun h => hn (.inr h))]
          simp
theorem lexP_count (s : List UInt8) : (lexP s).toks.length ≤ 4001 := by
  unfold lexP
  split
  · simp
  · have := lexF_count (s.length + 1) s 1 1 []
    simp only [List.length_nil] at this
    omega
theorem tokens_x {x : Lexed} (l : List UInt8) (hx : lexP l = x) (hz : l.length ≤ 9223372036854775807) (W : World) : Calls Tryd.prog 7 #[.string (bsOf l)] W fun e w' => ∃ v', e = .returned (.tuple #[v', .complex .f64 (nw x.line) (nw x.col), .int .i64 x.err]) ∧ More W w' ∧ GRow tk3 3 w' v' x.toks := tokens_k l hx hz W
/-- What a row says at one place. -/
theorem grow_at {α : Type} {f : α → List Value} {m : Nat} {w : World} {ao : Option Addr} {n c k : Nat} {l : List α} {a : α} (h : GRow f m w (.slice ao n c) l) (hk : l[k]? = some a) (hf : 0 < (f a).length) :
    ∃ b o, ao = some ⟨b, o, none⟩ ∧ b < w.heap.size ∧ ∀ j u, (f a)[j]? = some u → w.cell? ⟨b, o + (k * m + j), none⟩ = some u := by
  rcases h with ⟨-, rfl⟩ | ⟨b, o, c', hv, hc⟩
  · simp at hk
  · injection hv with h1 h2 h3
    subst h1
    refine ⟨b, o, rfl, ?_, hc k a hk⟩
    have := hc k a hk 0 ((f a)[0]'hf) (List.getElem?_eq_getElem _)
    exact World.block_lt_of_cell? w _ this

end Go.Proofs.YthhipepdkpoomaaDoor

