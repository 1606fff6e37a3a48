import Derived.Test.YtfpgjkbjbbgciaaGreatDoorMb20
import Derived.Test.YtfpgjkbjbbgciaaGreatDoorMb25
import Derived.Test.YtfpgjkbjbbgciaaGreatDoorMb24
import Derived.Test.YtfpgjkbjbbgciaaGreatDoorMb09
namespace Go.Proofs.YtfpgjkbjbbgciaaGreatDoor
open Sp

/-- What an instruction's words may be. -/
inductive Form : List ByteArray → Prop
  | set_ (x1 x2 : ByteArray) (hx1 : 0 ≤ reg x1) (hx2 : (numOf x2).2 = true) : Form [⟨#[115, 101, 116]⟩, x1, x2]
  | inc_ (x1 x2 : ByteArray) (hx1 : 0 ≤ reg x1) (hx2 : (numOf x2).2 = true) : Form [⟨#[105, 110, 99]⟩, x1, x2]
  | mov_ (x1 x2 : ByteArray) (hx1 : 0 ≤ reg x1) (hx2 : 0 ≤ reg x2) : Form [⟨#[109, 111, 118]⟩, x1, x2]
  | load_ (x1 x2 : ByteArray) (hx1 : 0 ≤ reg x1) (hx2 : 0 ≤ reg x2) : Form [⟨#[108, 111, 97, 100]⟩, x1, x2]
  | store_ (x1 x2 : ByteArray) (hx1 : 0 ≤ reg x1) (hx2 : 0 ≤ reg x2) : Form [⟨#[115, 116, 111, 114, 101]⟩, x1, x2]
  | add_ (x1 x2 x3 : ByteArray) (hx1 : 0 ≤ reg x1) (hx2 : 0 ≤ reg x2) (hx3 : 0 ≤ reg x3) : Form [⟨#[97, 100, 100]⟩, x1, x2, x3]
  | sub_ (x1 x2 x3 : ByteArray) (hx1 : 0 ≤ reg x1) (hx2 : 0 ≤ reg x2) (hx3 : 0 ≤ reg x3) : Form [⟨#[115, 117, 98]⟩, x1, x2, x3]
  | mul_ (x1 x2 x3 : ByteArray) (hx1 : 0 ≤ reg x1) (hx2 : 0 ≤ reg x2) (hx3 : 0 ≤ reg x3) : Form [⟨#[109, 117, 108]⟩, x1, x2, x3]
  | read_ (x1 : ByteArray) (hx1 : 0 ≤ reg x1) : Form [⟨#[114, 101, 97, 100]⟩, x1]
  | write_ (x1 : ByteArray) (hx1 : 0 ≤ reg x1) : Form [⟨#[119, 114, 105, 116, 101]⟩, x1]
  | jump_ (x1 : ByteArray) (hx1 : isName x1 = true) : Form [⟨#[106, 117, 109, 112]⟩, x1]
  | call_ (x1 : ByteArray) (hx1 : isName x1 = true) : Form [⟨#[99, 97, 108, 108]⟩, x1]
  | less_ (x1 x2 x3 : ByteArray) (hx1 : 0 ≤ reg x1) (hx2 : 0 ≤ reg x2) (hx3 : isName x3 = true) : Form [⟨#[108, 101, 115, 115]⟩, x1, x2, x3]
  | same_ (x1 x2 x3 : ByteArray) (hx1 : 0 ≤ reg x1) (hx2 : 0 ≤ reg x2) (hx3 : isName x3 = true) : Form [⟨#[115, 97, 109, 101]⟩, x1, x2, x3]
  | back_ : Form [⟨#[98, 97, 99, 107]⟩]
  | stop_ : Form [⟨#[115, 116, 111, 112]⟩]
theorem op_r (x : ByteArray) : opOk 82 x = decide (0 ≤ reg x) := rfl
theorem op_k (x : ByteArray) : opOk 75 x = (numOf x).2 := rfl
theorem op_n (x : ByteArray) : opOk 78 x = isName x := rfl
theorem form_of (x : ByteArray) (r : List ByteArray) (h : insOk x r = true) : Form (x :: r) := by
  unfold insOk at h
  cases h0 : (x.toList == [115, 101, 116]) with
  | true =>
    have := isW_eq x _ h0
    subst this
    change (if shapeOf ⟨#[115, 101, 116]⟩ = [63] ∨ ¬ r.length = (shapeOf ⟨#[115, 101, 116]⟩).length then false else opsOk (shapeOf ⟨#[115, 101, 116]⟩) r) = true at h
    rw [shapeOf_set] at h
    split at h
    · cases h
    · rename_i hc
      have hl : r.length = 2 := by
        rcases Nat.decEq r.length 2 with h' | h'
        · exact absurd (.inr (by simpa using h')) hc
        · exact h'
      match r, hl, h with
      | [x1, x2], _, h =>
        simp only [opsOk, op_r, op_k, Bool.and_true, Bool.and_eq_true, decide_eq_true_eq] at h
        exact .set_ x1 x2 h.1 h.2
  | false =>
    cases h1 : (x.toList == [105, 110, 99]) with
    | true =>
      have := isW_eq x _ h1
      subst this
      change (if shapeOf ⟨#[105, 110, 99]⟩ = [63] ∨ ¬ r.length = (shapeOf ⟨#[105, 110, 99]⟩).length then false else opsOk (shapeOf ⟨#[105, 110, 99]⟩) r) = true at h
      rw [shapeOf_inc] at h
      split at h
      · cases h
      · rename_i hc
        have hl : r.length = 2 := by
          rcases Nat.decEq r.length 2 with h' | h'
          · exact absurd (.inr (by simpa using h')) hc
          · exact h'
        match r, hl, h with
        | [x1, x2], _, h =>
          simp only [opsOk, op_r, op_k, Bool.and_true, Bool.and_eq_true, decide_eq_true_eq] at h
          exact .inc_ x1 x2 h.1 h.2
    | false =>
      cases h2 : (x.toList == [109, 111, 118]) with
      | true =>
        have := isW_eq x _ h2
        subst this
        change (if shapeOf ⟨#[109, 111, 118]⟩ = [63] ∨ ¬ r.length = (shapeOf ⟨#[109, 111, 118]⟩).length then false else opsOk (shapeOf ⟨#[109, 111, 118]⟩) r) = true at h
        rw [shapeOf_mov] at h
        split at h
        · cases h
        · rename_i hc
          have hl : r.length = 2 := by
            rcases Nat.decEq r.length 2 with h' | h'
            · exact absurd (.inr (by simpa using h')) hc
            · exact h'
          match r, hl, h with
          | [x1, x2], _, h =>
            simp only [opsOk, op_r, Bool.and_true, Bool.and_eq_true, decide_eq_true_eq] at h
            exact .mov_ x1 x2 h.1 h.2
      | false =>
        cases h3 : (x.toList == [108, 111, 97, 100]) with
        | true =>
          have := isW_eq x _ h3
          subst this
          change (if shapeOf ⟨#[108, 111, 97, 100]⟩ = [63] ∨ ¬ r.length = (shapeOf ⟨#[108, 111, 97, 100]⟩).length then false else opsOk (shapeOf ⟨#[108, 111, 97, 100]⟩) r) = true at h
          rw [shapeOf_load] at h
          split at h
          · cases h
          · rename_i hc
            have hl : r.length = 2 := by
              rcases Nat.decEq r.length 2 with h' | h'
              · exact absurd (.inr (by simpa using h')) hc
              · exact h'
            match r, hl, h with
            | [x1, x2], _, h =>
              simp only [opsOk, op_r, Bool.and_true, Bool.and_eq_true, decide_eq_true_eq] at h
              exact .load_ x1 x2 h.1 h.2
        | false =>
          cases h4 : (x.toList == [115, 116, 111, 114, 101]) with
          | true =>
            have := isW_eq x _ h4
            subst this
            change (if shapeOf ⟨#[115, 116, 111, 114, 101]⟩ = [63] ∨ ¬ r.length = (shapeOf ⟨#[115, 116, 111, 114, 101]⟩).length then false else opsOk (shapeOf ⟨#[115, 116, 111, 114, 101]⟩) r) = true at h
            rw [shapeOf_store] at h
            split at h
            · cases h
            · rename_i hc
              have hl : r.length = 2 := by
                rcases Nat.decEq r.length 2 with h' | h'
                · exact absurd (.inr (by simpa using h')) hc
                · exact h'
              match r, hl, h with
              | [x1, x2], _, h =>
                simp only [opsOk, op_r, Bool.and_true, Bool.and_eq_true, decide_eq_true_eq] at h
                exact .store_ x1 x2 h.1 h.2
          | false =>
            cases h5 : (x.toList == [97, 100, 100]) with
            | true =>
              have := isW_eq x _ h5
              subst this
              change (if shapeOf ⟨#[97, 100, 100]⟩ = [63] ∨ ¬ r.length = (shapeOf ⟨#[97, 100, 100]⟩).length then false else opsOk (shapeOf ⟨#[97, 100, 100]⟩) r) = true at h
              rw [shapeOf_add] at h
              split at h
              · cases h
              · rename_i hc
                have hl : r.length = 3 := by
                  rcases Nat.decEq r.length 3 with h' | h'
                  · exact absurd (.inr (by simpa using h')) hc
                  · exact h'
                match r, hl, h with
                | [x1, x2, x3], _, h =>
                  simp only [opsOk, op_r, Bool.and_true, Bool.and_eq_true, decide_eq_true_eq] at h
                  exact .add_ x1 x2 x3 h.1 h.2.1 h.2.2
            | false =>
              cases h6 : (x.toList == [115, 117, 98]) with
              | true =>
                have := isW_eq x _ h6
                subst this
                change (if shapeOf ⟨#[115, 117, 98]⟩ = [63] ∨ ¬ r.length = (shapeOf ⟨#[115, 117, 98]⟩).length then false else opsOk (shapeOf ⟨#[115, 117, 98]⟩) r) = true at h
                rw [shapeOf_sub] at h
                split at h
                · cases h
                · rename_i hc
                  have hl : r.length = 3 := by
                    rcases Nat.decEq r.length 3 with h' | h'
                    · exact absurd (.inr (by simpa using h')) hc
                    · exact h'
                  match r, hl, h with
                  | [x1, x2, x3], _, h =>
                    simp only [opsOk, op_r, Bool.and_true, Bool.and_eq_true, decide_eq_true_eq] at h
                    exact .sub_ x1 x2 x3 h.1 h.2.1 h.2.2
              | false =>
                cases h7 : (x.toList == [109, 117, 108]) with
                | true =>
                  have := isW_eq x _ h7
                  subst this
                  change (if shapeOf ⟨#[109, 117, 108]⟩ = [63] ∨ ¬ r.length = (shapeOf ⟨#[109, 117, 108]⟩).length then false else opsOk (shapeOf ⟨#[109, 117, 108]⟩) r) = true at h
                  rw [shapeOf_mul] at h
                  split at h
                  · cases h
                  · rename_i hc
                    have hl : r.length = 3 := by
                      rcases Nat.decEq r.length 3 with h' | h'
                      · exact absurd (.inr (by simpa using h')) hc
                      · exact h'
                    match r, hl, h with
                    | [x1, x2, x3], _, h =>
                      simp only [opsOk, op_r, Bool.and_true, Bool.and_eq_true, decide_eq_true_eq] at h
                      exact .mul_ x1 x2 x3 h.1 h.2.1 h.2.2
                | false =>
                  cases h8 : (x.toList == [114, 101, 97, 100]) with
                  | true =>
                    have := isW_eq x _ h8
                    subst this
                    change (if shapeOf ⟨#[114, 101, 97, 100]⟩ = [63] ∨ ¬ r.length = (shapeOf ⟨#[114, 101, 97, 100]⟩).length then false else opsOk (shapeOf ⟨#[114, 101, 97, 100]⟩) r) = true at h
                    rw [shapeOf_read] at h
                    split at h
                    · cases h
                    · rename_i hc
                      have hl : r.length = 1 := by
                        rcases Nat.decEq r.length 1 with h' | h'
                        · exact absurd (.inr (by simpa using h')) hc
                        · exact h'
                      match r, hl, h with
                      | [x1], _, h =>
                        simp only [opsOk, op_r, Bool.and_true, decide_eq_true_eq] at h
                        exact .read_ x1 h
                  | false =>
                    cases h9 : (x.toList == [119, 114, 105, 116, 101]) with
                    | true =>
                      have := isW_eq x _ h9
                      subst this
                      change (if shapeOf ⟨#[119, 114, 105, 116, 101]⟩ = [63] ∨ ¬ r.length = (shapeOf ⟨#[119, 114, 105, 116, 101]⟩).length then false else opsOk (shapeOf ⟨#[119, 114, 105, 116, 101]⟩) r) = true at h
                      rw [shapeOf_write] at h
                      split at h
                      · cases h
                      · rename_i hc
                        have hl : r.length = 1 := by
                          rcases Nat.decEq r.length 1 with h' | h'
                          · exact absurd (.inr (by simpa using h')) hc
                          · exact h'
                        match r, hl, h with
                        | [x1], _, h =>
                          simp only [opsOk, op_r, Bool.and_true, decide_eq_true_eq] at h
                          exact .write_ x1 h
                    | false =>
                      cases h10 : (x.toList == [106, 117, 109, 112]) with
                      | true =>
                        have := isW_eq x _ h10
                        subst this
                        change (if shapeOf ⟨#[106, 117, 109, 112]⟩ = [63] ∨ ¬ r.length = (shapeOf ⟨#[106, 117, 109, 112]⟩).length then false else opsOk (shapeOf ⟨#[106, 117, 109, 112]⟩) r) = true at h
                        rw [shapeOf_jump] at h
                        split at h
                        · cases h
                        · rename_i hc
                          have hl : r.length = 1 := by
                            rcases Nat.decEq r.length 1 with h' | h'
                            · exact absurd (.inr (by simpa using h')) hc
                            · exact h'
                          match r, hl, h with
                          | [x1], _, h =>
                            simp only [opsOk, op_n, Bool.and_true] at h
                            exact .jump_ x1 h
                      | false =>
                        cases h11 : (x.toList == [99, 97, 108, 108]) with
                        | true =>
                          have := isW_eq x _ h11
                          subst this
                          change (if shapeOf ⟨#[99, 97, 108, 108]⟩ = [63] ∨ ¬ r.length = (shapeOf ⟨#[99, 97, 108, 108]⟩).length then false else opsOk (shapeOf ⟨#[99, 97, 108, 108]⟩) r) = true at h
                          rw [shapeOf_call] at h
                          split at h
                          · cases h
                          · rename_i hc
                            have hl : r.length = 1 := by
                              rcases Nat.decEq r.length 1 with h' | h'
                              · exact absurd (.inr (by simpa using h')) hc
                              · exact h'
                            match r, hl, h with
                            | [x1], _, h =>
                              simp only [opsOk, op_n, Bool.and_true] at h
                              exact .call_ x1 h
                        | false =>
                          cases h12 : (x.toList == [108, 101, 115, 115]) with
                          | true =>
                            have := isW_eq x _ h12
                            subst this
                            change (if shapeOf ⟨#[108, 101, 115, 115]⟩ = [63] ∨ ¬ r.length = (shapeOf ⟨#[108, 101, 115, 115]⟩).length then false else opsOk (shapeOf ⟨#[108, 101, 115, 115]⟩) r) = true at h
                            rw [shapeOf_less] at h
                            split at h
                            · cases h
                            · rename_i hc
                              have hl : r.length = 3 := by
                                rcases Nat.decEq r.length 3 with h' | h'
                                · exact absurd (.inr (by simpa using h')) hc
                                · exact h'
                              match r, hl, h with
                              | [x1, x2, x3], _, h =>
                                simp only [opsOk, op_r, op_n, Bool.and_true, Bool.and_eq_true, decide_eq_true_eq] at h
                                exact .less_ x1 x2 x3 h.1 h.2.1 h.2.2
                          | false =>
                            cases h13 : (x.toList == [115, 97, 109, 101]) with
                            | true =>
                              have := isW_eq x _ h13
                              subst this
                              change (if shapeOf ⟨#[115, 97, 109, 101]⟩ = [63] ∨ ¬ r.length = (shapeOf ⟨#[115, 97, 109, 101]⟩).length then false else opsOk (shapeOf ⟨#[115, 97, 109, 101]⟩) r) = true at h
                              rw [shapeOf_same] at h
                              split at h
                              · cases h
                              · rename_i hc
                                have hl : r.length = 3 := by
                                  rcases Nat.decEq r.length 3 with h' | h'
                                  · exact absurd (.inr (by simpa using h')) hc
                                  · exact h'
                                match r, hl, h with
                                | [x1, x2, x3], _, h =>
                                  simp only [opsOk, op_r, op_n, Bool.and_true, Bool.and_eq_true, decide_eq_true_eq] at h
                                  exact .same_ x1 x2 x3 h.1 h.2.1 h.2.2
                            | false =>
                              cases h14 : (x.toList == [98, 97, 99, 107]) with
                              | true =>
                                have := isW_eq x _ h14
                                subst this
                                change (if shapeOf ⟨#[98, 97, 99, 107]⟩ = [63] ∨ ¬ r.length = (shapeOf ⟨#[98, 97, 99, 107]⟩).length then false else opsOk (shapeOf ⟨#[98, 97, 99, 107]⟩) r) = true at h
                                rw [shapeOf_back] at h
                                split at h
                                · cases h
                                · rename_i hc
                                  have hl : r.length = 0 := by
                                    rcases Nat.decEq r.length 0 with h' | h'
                                    · exact absurd (.inr (by simpa using h')) hc
                                    · exact h'
                                  obtain rfl : r = [] := List.eq_nil_of_length_eq_zero hl
                                  exact .back_
                              | false =>
                                cases h15 : (x.toList == [115, 116, 111, 112]) with
                                | true =>
                                  have := isW_eq x _ h15
                                  subst this
                                  change (if shapeOf ⟨#[115, 116, 111, 112]⟩ = [63] ∨ ¬ r.length = (shapeOf ⟨#[115, 116, 111, 112]⟩).length then false else opsOk (shapeOf ⟨#[115, 116, 111, 112]⟩) r) = true at h
                                  rw [shapeOf_stop] at h
                                  split at h
                                  · cases h
                                  · rename_i hc
                                    have hl : r.length = 0 := by
                                      rcases Nat.decEq r.length 0 with h' | h'
                                      · exact absurd (.inr (by simpa using h')) hc
                                      · exact h'
                                    obtain rfl : r = [] := List.eq_nil_of_length_eq_zero hl
                                    exact .stop_
                                | false =>
                                  rw [if_pos (.inl (shape_no x h0 h1 h2 h3 h4 h5 h6 h7 h8 h9 h10 h11 h12 h13 h14 h15))] at h; cases h

theorem reg_nat (x : ByteArray) (h : 0 ≤ reg x) : regN x < 8 ∧ reg x = (regN x : Int) := by
  have : reg x ≤ 7 := by
    unfold reg at h ⊢
    split
    · rename_i hb
      unfold regB at hb
      simp at hb
      omega
    · omega
  unfold regN
  omega
theorem say_ins (s : ByteArray) (h : (say s).ok = true) (h5 : (say s).kind = 105) : Form (say s).kept := by
  have hv : validAt s 0 = true := by
    cases hv : validAt s 0 with
    | true => rfl
    | false => rw [say_invalid s hv] at h; cases h
  rw [say_words s hv] at h h5 ⊢
  generalize words s = l at h h5 ⊢
  cases l with
  | nil => simp [sayW] at h5
  | cons x r =>
    have e : sayW (x :: r) = ⟨105, x :: r, if shapeOf x = [63] ∨ ¬ (x :: r).length = (shapeOf x).length + 1 then false else opsOk (shapeOf x) r⟩ := by
      unfold sayW at h5 ⊢
      dsimp only at h5 ⊢
      split at h5
      · simp at h5
      · rename_i hf
        rw [if_neg hf]
        split at h5
        · simp at h5
        · rename_i hg
          rw [if_neg hg]
    rw [e] at h ⊢
    refine form_of x r ?_
    simpa [insOk] using h

end Go.Proofs.YtfpgjkbjbbgciaaGreatDoor

namespace Go.Proofs.YtfpgjkbjbbgciaaGreatDoor
open Sp

/-- A program that has been read without an error. -/
structure Good (L : List Said) : Prop where
  wf : ∀ k (h : k < L.length), Wf L[k]
  form : ∀ k (h : k < L.length), L[k].kind = 105 → Form L[k].kept
  size : ∀ k (h : k < L.length), ∀ x ∈ L[k].kept, x.size ≤ 4000
  head : ∃ i, ∃ h : i < L.length, L[i].kind = 102 ∧ ∀ j (h' : j < L.length), j < i → L[j].kind = 0
  twice : ∀ k, k < L.length → twiceB L k = false
  miss : ∀ k, k < L.length → missingB L k = false
  endl : ∀ k, k < L.length → endlessB L k = false
  few : L.length ≤ 300
theorem pass_zero (L : List Said) (q j : Nat) (c : Int × Int) (h : pass L q j c = (0, 0)) : c = (0, 0) ∧ ∀ k, j ≤ k → k < L.length → badB L q k = false := by
  by_cases hj : j < L.length
  · cases hb : badB L q j with
    | true =>
      rw [pass_bad L q j c hj hb] at h
      have := congrArg Prod.fst h
      simp at this
      omega
    | false =>
      rw [pass_on L q j c hj hb] at h
      obtain ⟨h1, h2⟩ := pass_zero L q (j + 1) c h
      refine ⟨h1, fun k hk hl => ?_⟩
      by_cases e : k = j
      · subst e; exact hb
      · exact h2 k (by omega) hl
  · rw [pass_end L q j c hj] at h
    exact ⟨h, fun k hk hl => by omega⟩
termination_by L.length - j
theorem start_zero (L : List Said) (i : Nat) (h : startAt L i = (0, 0)) : (∃ j, ∃ hj : j < L.length, i ≤ j ∧ L[j].kind = 102 ∧ ∀ k (hk : k < L.length), i ≤ k → k < j → L[k].kind = 0) ∧ tail L 0 = (0, 0) := by
  by_cases hi : i < L.length
  · by_cases h0 : L[i].kind = 0
    · rw [startAt_on L i hi h0] at h
      obtain ⟨⟨j, hj, h1, h2, h3⟩, h4⟩ := start_zero L (i + 1) h
      refine ⟨⟨j, hj, by omega, h2, fun k hk ha hb => ?_⟩, h4⟩
      by_cases e : k = i
      · subst e; exact h0
      · exact h3 k hk (by omega) hb
    · by_cases h2 : L[i].kind = 102
      · rw [startAt_f L i hi h0 h2] at h
        exact ⟨⟨i, hi, Nat.le_refl _, h2, fun k hk ha hb => by omega⟩, h⟩
      · rw [startAt_n L i hi h0 h2] at h
        have := congrArg Prod.fst h
        simp at this
  · rw [startAt_end L i hi] at h
    have := congrArg Prod.fst h
    simp at this
termination_by L.length - i
theorem good_of (s : ByteArray) (h : readS s = (0, 0)) : Good ((lines s).map say) := by
  unfold readS at h
  split at h
  · have := congrArg Prod.fst h; simp at this
  · rename_i hfar
    have hok : ∀ x ∈ lines s, (say x).ok = true := by
      by_cases hok : ∀ x ∈ lines s, (say x).ok = true
      · exact hok
      · exfalso
        have key : ∀ i, (∃ j, ∃ hj : j < (lines s).length, i ≤ j ∧ (say (lines s)[j]).ok = false) → ¬ sayAt (lines s) i = (0, 0) := by
          intro i
          intro ⟨j, hj, hij, hb⟩
          have hil : i ≤ j := hij
          clear hij
          induction hd : j - i generalizing i with
          | zero =>
            obtain rfl : j = i := by omega
            rw [sayAt_bad _ j hj hb]
            intro e
            have := congrArg Prod.fst e
            simp at this
          | succ d ih =>
            cases hi : (say ((lines s)[i]'(by omega))).ok with
            | false =>
              rw [sayAt_bad _ i (by omega) hi]
              intro e
              have := congrArg Prod.fst e
              simp at this
            | true =>
              rw [sayAt_on _ i (by omega) hi]
              exact ih (i + 1) (by omega) (by omega)
        have : ∃ x ∈ lines s, ¬ (say x).ok = true := by
          refine Classical.byContradiction fun hn => hok fun x hx => ?_
          refine Classical.byContradiction fun hx' => hn ⟨x, hx, hx'⟩
        obtain ⟨x, hx, hb⟩ := this
        obtain ⟨j, hj, rfl⟩ := List.mem_iff_getElem.1 hx
        exact key 0 ⟨j, hj, by omega, by simpa using hb⟩ h
    rw [sayAt_ok _ hok 0] at h
    obtain ⟨⟨i, hi, _, h2, h3⟩, ht⟩ := start_zero _ 0 h
    have e0 : tail ((lines s).map say) 0 = pass ((lines s).map say) 0 0 (pass ((lines s).map say) 1 0 (pass ((lines s).map say) 2 0 (0, 0))) := rfl
    rw [e0] at ht
    obtain ⟨t1, p0⟩ := pass_zero _ _ _ _ ht
    obtain ⟨t2, p1⟩ := pass_zero _ _ _ _ t1
    obtain ⟨_, p2⟩ := pass_zero _ _ _ _ t2
    refine ⟨fun k hk => ?_, fun k hk h5 => ?_, fun k hk x hx => ?_, ⟨i, hi, h2, fun j hj hji => h3 j hj (by omega) hji⟩, fun k hk => p0 k (by omega) hk, fun k hk => p1 k (by omega) hk, fun k hk => p2 k (by omega) hk, by simp; omega⟩
    · rw [List.getElem_map]; exact say_wf _ (hok _ (List.getElem_mem _))
    · rw [List.getElem_map] at h5 ⊢; exact say_ins _ (hok _ (List.getElem_mem _)) h5
    · rw [List.getElem_map] at hx
      have h4 := kept_size _ x hx
      have h5 := lines_sizes s ((lines s)[k]'(by simpa using hk)) (List.getElem_mem _)
      omega
/-- A line at which an instruction stands. -/
def ValidAt (L : List Said) (z : Int) : Prop := ∃ j : Nat, z = (j : Int) ∧ ∃ h : j < L.length, L[j].kind = 105
theorem end_next (L : List Said) (k : Nat) (h : endAt L k false = true) : ValidAt L (nextFrom L k) := by
  by_cases hk : k < L.length
  · by_cases h2 : L[k].kind = 102
    · rw [endAt_f L k _ hk h2] at h; cases h
    · by_cases h5 : L[k].kind = 105
      · rw [nextFrom_hit L k hk h5]; exact ⟨k, rfl, hk, h5⟩
      · rw [nextFrom_on L k hk h2 h5]
        rw [endAt_on L k _ hk h2, if_neg h5] at h
        refine end_next L (k + 1) ?_
        split at h <;> exact h
  · rw [endAt_end L k _ hk] at h; cases h
termination_by L.length - k
theorem Good.live {L : List Said} (G : Good L) (k : Nat) (hk : k < L.length) (h1 : ¬ L[k].kind = 0) (h2 : ¬ L[k].kind = 102) : ∃ e, endAt L k e = true := by
  obtain ⟨i, hi, h3, h4⟩ := G.head
  have hik : i < k := by
    by_cases e : k = i
    · subst e; exact absurd h3 h2
    · by_cases e2 : k < i
      · exact absurd (h4 k hk e2) h1
      · omega
  have begin_ : ∀ j (hj : j < L.length), L[j].kind = 102 → endAt L (j + 1) false = true := fun j hj h => by
    have := G.endl j hj
    rw [endless_f L j hj (by simp [h])] at this
    simpa using this
  have key : ∀ d j, j = i + 1 + d → j ≤ L.length → ∃ e, endAt L j e = true := by
    intro d
    induction d with
    | zero => intro j hj _; subst hj; exact ⟨false, begin_ i hi h3⟩
    | succ d ih =>
      intro j hj hl
      obtain ⟨e, he⟩ := ih (j - 1) (by omega) (by omega)
      have hj1 : j - 1 < L.length := by omega
      obtain ⟨p, rfl⟩ : ∃ p, j = p + 1 := ⟨j - 1, by omega⟩
      simp only [Nat.add_sub_cancel] at he hj1
      by_cases hf : L[p].kind = 102
      · exact ⟨false, begin_ p hj1 hf⟩
      · rw [endAt_on L p e hj1 hf] at he; exact ⟨_, he⟩
  exact key (k - i - 1) k (by omega) (by omega)
theorem Good.lab {L : List Said} (G : Good L) (j : Nat) (hj : j < L.length) (h8 : L[j].kind = 108) : ValidAt L (nextFrom L j) := by
  obtain ⟨e, he⟩ := G.live j hj (by omega) (by omega)
  rw [endAt_on L j e hj (by omega), if_pos h8] at he
  rw [nextFrom_on L j hj (by omega) (by omega)]
  exact end_next L _ he
theorem Good.fn {L : List Said} (G : Good L) (j : Nat) (hj : j < L.length) (h2 : L[j].kind = 102) : ValidAt L (nextFrom L (j + 1)) := by
  have := G.endl j hj
  rw [endless_f L j hj (by simp [h2])] at this
  exact end_next L _ (by simpa using this)
theorem Good.next {L : List Said} (G : Good L) (k : Nat) (hk : k < L.length) (h5 : L[k].kind = 105) (he : ends (L[k].word 0) = false) : ValidAt L (nextFrom L (k + 1)) := by
  obtain ⟨e, h⟩ := G.live k hk (by omega) (by omega)
  rw [endAt_on L k e hk (by omega), if_neg (by omega), if_pos h5, he] at h
  exact end_next L _ h
theorem labFrom_is (L : List Said) (x : ByteArray) (i : Nat) (h : 0 ≤ labFrom L x i) : ∃ j : Nat, labFrom L x i = (j : Int) ∧ ∃ hj : j < L.length, L[j].kind = 108 := by
  by_cases hi : i < L.length
  · by_cases h2 : L[i].kind = 102
    · rw [labFrom_f L x i hi h2] at h; omega
    · cases hl : isLab L[i] x with
      | true =>
        rw [labFrom_hit L x i hi h2 hl]
        refine ⟨i, rfl, hi, ?_⟩
        unfold isLab at hl
        simp at hl
        exact hl.1
      | false =>
        rw [labFrom_on L x i hi h2 hl] at h ⊢
        exact labFrom_is L x (i + 1) h
  · rw [labFrom_end L x i hi] at h; omega
termination_by L.length - i
theorem fnFrom_is (L : List Said) (x : ByteArray) (i : Nat) (h : 0 ≤ fnFrom L x i) : ∃ j : Nat, fnFrom L x i = (j : Int) ∧ ∃ hj : j < L.length, L[j].kind = 102 := by
  by_cases hi : i < L.length
  · cases hl : isFn L[i] x with
    | true =>
      rw [fnFrom_hit L x i hi hl]
      refine ⟨i, rfl, hi, ?_⟩
      unfold isFn at hl
      simp at hl
      exact hl.1
    | false =>
      rw [fnFrom_on L x i hi hl] at h ⊢
      exact fnFrom_is L x (i + 1) h
  · rw [fnFrom_end L x i hi] at h; omega
termination_by L.length - i

end Go.Proofs.YtfpgjkbjbbgciaaGreatDoor
