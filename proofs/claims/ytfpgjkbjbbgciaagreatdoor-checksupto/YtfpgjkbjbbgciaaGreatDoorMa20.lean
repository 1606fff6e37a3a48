import Derived.Test.YtfpgjkbjbbgciaaGreatDoorMa19
namespace Go.Proofs.YtfpgjkbjbbgciaaGreatDoor
open Go.RowKit Sp

theorem flush_len (now : ByteArray) (l : List ByteArray) : (flush now l).length ≤ l.length + 1 := by
  unfold flush; split <;> simp
theorem wordsAt_len (s : ByteArray) (i : Nat) (now : ByteArray) (l : List ByteArray) : (wordsAt s i now l).length ≤ l.length + (s.size - i) + 1 := by
  have hf := flush_len now l
  by_cases h : i < s.size
  · by_cases h1 : bt s i = 32 ∨ bt s i = 9 ∨ bt s i = 59
    · by_cases h2 : bt s i = 59
      · rw [wordsAt_stop s i now l h h2]; omega
      · rw [wordsAt_cut s i now l h (by omega)]
        have := wordsAt_len s (i + 1) ByteArray.empty (flush now l)
        omega
    · rw [wordsAt_on s i now l h h1]
      have := wordsAt_len s (i + 1) (now ++ s.extract i (i + 1)) l
      omega
  · rw [wordsAt_end s i now l h]; omega
termination_by s.size - i
theorem words_len (s : ByteArray) : (words s).length ≤ s.size + 1 := by
  have := wordsAt_len s 0 ByteArray.empty []
  simpa [words] using this
theorem shape_len (x : ByteArray) : (shapeOf x).length ≤ 3 := by
  unfold shapeOf
  repeat' split
  all_goals decide
theorem func_is (x : ByteArray) (h : isFunc x = true) : x = ⟨#[102, 117, 110, 99]⟩ := isW_eq x _ h

theorem say_any (s : ByteArray) (w : World) (hs : s.size ≤ 1048576) : Calls Tryz.prog 46 #[.string s] w (SaidPost w.heap.size w (say s)) := by
  cases hv : validAt s 0 with
  | false => have e : say s = ⟨0, [], false⟩ := by simp [say, hv]
             rw [e]; exact say_bad s w hs hv
  | true =>
    have e : say s = sayW (words s) := by simp [say, hv]
    rw [e]
    have hsz := words_sizes s
    have hln := words_len s
    cases hl : words s with
    | nil => exact say_none s w hs hv hl
    | cons x r =>
      rw [hl] at hsz hln
      have hx := hsz x (by simp)
      have hr : r.length ≤ 1048576 := by simp at hln; omega
      cases hf : isFunc x with
      | true =>
        have e1 : sayW (x :: r) = ⟨102, x :: r, decide ((x :: r).length = 2) && isName ((x :: r).getLast?.getD ByteArray.empty)⟩ := by simp only [sayW, hf, if_true]
        rw [e1]
        have := func_is x hf
        subst this
        match r, hl, hsz with
        | [y], hl, hsz =>
          have h2 := hsz y (by simp)
          exact say_func2 s w hs hv y hl (by omega)
        | [], hl, _ => exact say_func1 s w hs hv [] hl (by simp)
        | a :: b :: c, hl, _ => simpa using say_func1 s w hs hv (a :: b :: c) hl (by simp)
      | false =>
        have hnf : (x.toList == [102, 117, 110, 99]) = false := hf
        have hlastE := bt_eq x (x.size - 1) (by omega)
        by_cases hlab : (x :: r).length = 1 ∧ lastB x = 58
        · have e1 : sayW (x :: r) = ⟨108, [x.extract 0 (x.size - 1)], isName (x.extract 0 (x.size - 1))⟩ := by simp only [sayW, hf]; rw [if_neg (by simp), if_pos hlab]
          rw [e1]
          obtain ⟨h1, h2⟩ := hlab
          have hr0 : r = [] := List.eq_nil_of_length_eq_zero (by simpa using h1)
          subst hr0
          exact say_label s w hs hv x hl (by omega) (by omega) hnf (by rw [hlastE, beq_iff_eq]; exact h2)
        · have e1 : sayW (x :: r) = ⟨105, x :: r, if shapeOf x = [63] ∨ ¬ (x :: r).length = (shapeOf x).length + 1 then false else opsOk (shapeOf x) r⟩ := by simp only [sayW, hf]; rw [if_neg (by simp), if_neg hlab]
          rw [e1]
          have hsl := shape_len x
          by_cases hr0 : r = []
          · subst hr0
            have hlast : ((x[x.size - 1].toNat : Int) == 58) = false := by
              rw [hlastE]; simp [lastB] at hlab; simpa using hlab
            by_cases h63 : shapeOf x = [63]
            · rw [if_pos (.inl h63)]
              exact say_odd0a s w hs hv x hl (by omega) (by omega) hnf hlast (shapeOf x) rfl hsl (by simp [h63])
            · by_cases hn : (shapeOf x).length = 0
              · have h0 := List.eq_nil_of_length_eq_zero hn
                rw [if_neg (by simp [h0]), h0]
                exact say_ops0 s w hs hv x hl (by omega) (by omega) hnf hlast h0
              · rw [if_pos (.inr (by show ¬ 1 = _; omega))]
                exact say_odd0b s w hs hv x hl (by omega) (by omega) hnf hlast (shapeOf x) rfl hsl (by simpa using h63) (by simp; omega)
          · have hr1 : 1 ≤ r.length := by cases r with | nil => exact absurd rfl hr0 | cons a b => simp
            have hr2 : ((r.length : Int) + 1 == 1) = false := by simp; omega
            by_cases h63 : shapeOf x = [63]
            · rw [if_pos (.inl h63)]
              exact say_odd1a s w hs hv x r hl (by omega) (by omega) hnf hr hr1 hr2 (shapeOf x) rfl hsl (by simp [h63])
            · by_cases hn : r.length = (shapeOf x).length
              · rw [if_neg (by simp [h63]; omega)]
                exact say_ops1 s w hs hv x r hl (by omega) (by omega) hnf hr1 hr2 (fun j hj => by have := hsz r[j] (List.mem_cons_of_mem _ (List.getElem_mem hj)); omega) (shapeOf x) rfl hsl (by simpa using h63) hr (by omega) (by omega)
              · rw [if_pos (.inr (by simp; omega))]
                exact say_odd1b s w hs hv x r hl (by omega) (by omega) hnf hr hr1 hr2 (shapeOf x) rfl hsl (by simpa using h63) (len_ne _ _ hn)

end Go.Proofs.YtfpgjkbjbbgciaaGreatDoor
