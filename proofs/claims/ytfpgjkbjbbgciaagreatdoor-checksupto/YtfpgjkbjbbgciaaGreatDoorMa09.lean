import Derived.Test.YtfpgjkbjbbgciaaGreatDoorMa06
import Derived.Lib.ParseIntB
namespace Go.Proofs.YtfpgjkbjbbgciaaGreatDoor.Sp

def numL : List UInt8 → Int → Option Int
  | [], n => some n
  | c :: r, n => if numBad n ((c.toNat : Int) - 48) = true then none else numL r (10 * n - ((c.toNat : Int) - 48))
theorem bt_drop (s : ByteArray) (i : Nat) (h : i < s.size) : ∃ c r, s.data.toList.drop i = c :: r ∧ (c.toNat : Int) = bt s i ∧ r = s.data.toList.drop (i + 1) := by
  have h' : i < s.data.toList.length := by simpa using h
  refine ⟨s.data.toList[i], s.data.toList.drop (i + 1), List.drop_eq_getElem_cons h', ?_, rfl⟩
  unfold bt
  have h2 : i < s.data.size := h
  rw [Array.getElem?_eq_getElem h2]
  simp
theorem numAt_L (s : ByteArray) (i : Nat) (n : Int) : numAt s i n = numL (s.data.toList.drop i) n := by
  by_cases h : i < s.size
  · obtain ⟨c, r, h1, h2, h3⟩ := bt_drop s i h
    rw [h1]
    cases hb : numBad n (bt s i - 48) with
    | true => rw [numAt_bad s i n h hb]; simp [numL, h2, hb]
    | false =>
      rw [numAt_next s i n h (by simp [hb]), numAt_L s (i + 1), ← h3]
      simp [numL, h2, hb]
  · rw [numAt_end s i n h, List.drop_of_length_le (by simpa using h)]; rfl
termination_by s.size - i

def digitsB : List UInt8 → Bool
  | [] => true
  | c :: r => decide (48 ≤ c.toNat ∧ c.toNat ≤ 57) && digitsB r
theorem numBad_iff (a : Nat) (d : Int) (h0 : 0 ≤ d) (h9 : d ≤ 9) : numBad (-(a : Int)) d = decide (9223372036854775808 < 10 * (a : Int) + d) := by
  unfold numBad
  rw [tdiv_low d h9]
  by_cases h : 9223372036854775808 < 10 * (a : Int) + d
  · have : -(a : Int) < -((9223372036854775808 - d) / 10) := by omega
    simp [h, this]
  · have : ¬ -(a : Int) < -((9223372036854775808 - d) / 10) := by omega
    have h1 : ¬ d < 0 := by omega
    have h2 : ¬ 9 < d := by omega
    simp [h, this, h1, h2]
theorem parseM_mono (M : Nat) (l : List UInt8) (a u : Nat) (h : Lib.parseUintM M a l = .ok u) : a ≤ u := by
  induction l generalizing a with
  | nil => simp [Lib.parseUintM] at h; omega
  | cons c r ih =>
    unfold Lib.parseUintM at h
    split at h
    · split at h
      · cases h
      · split at h
        · cases h
        · have := ih _ h; omega
    · cases h
def magEnd : Lib.NumEnd Nat → Option Int
  | .ok u => if u ≤ 9223372036854775808 then some (-(u : Int)) else none
  | _ => none
theorem numL_mag (l : List UInt8) (a : Nat) (hd : digitsB l = true) (ha : a ≤ 9223372036854775808) : numL l (-(a : Int)) = magEnd (Lib.parseUintM (2 ^ 64 - 1) a l) := by
  induction l generalizing a with
  | nil => simp [numL, Lib.parseUintM, magEnd, ha]
  | cons c r ih =>
    simp only [digitsB, Bool.and_eq_true, decide_eq_true_eq] at hd
    obtain ⟨hc, hr⟩ := hd
    unfold numL Lib.parseUintM
    rw [if_pos hc, numBad_iff a _ (by omega) (by omega)]
    by_cases hb : 9223372036854775808 < 10 * (a : Int) + ((c.toNat : Int) - 48)
    · rw [if_pos (by simpa using hb)]
      split
      · rfl
      · split
        · rfl
        · cases he : Lib.parseUintM (2 ^ 64 - 1) (a * 10 + (c.toNat - 48)) r with
          | ok u =>
            have := parseM_mono _ _ _ _ he
            simp [magEnd]; omega
          | «syntax» => rfl
          | range => rfl
    · rw [if_neg (by simpa using hb), if_neg (by omega), if_neg (by omega)]
      have e : 10 * -(a : Int) - ((c.toNat : Int) - 48) = -((a * 10 + (c.toNat - 48) : Nat) : Int) := by omega
      rw [e]
      exact ih _ hr (by omega)
theorem numL_not (l : List UInt8) (n : Int) (hd : digitsB l = false) : numL l n = none := by
  induction l generalizing n with
  | nil => simp [digitsB] at hd
  | cons c r ih =>
    unfold numL
    cases hb : numBad n ((c.toNat : Int) - 48) with
    | true => rfl
    | false =>
      have hr : digitsB r = false := by
        simp only [digitsB] at hd
        have hc : 48 ≤ c.toNat ∧ c.toNat ≤ 57 := by
          simp [numBad] at hb
          omega
        simpa [hc] using hd
      simp only [Bool.false_eq_true, if_false]
      exact ih _ hr
/-- The word without its sign. -/
def bare (l : List UInt8) : List UInt8 := match l with | 45 :: r => r | l => l

theorem minus_head (s : ByteArray) : minusB s = (match s.data.toList with | 45 :: _ => true | _ => false) := by
  by_cases h : 0 < s.size
  · obtain ⟨c, r, h1, h2, _⟩ := bt_drop s 0 h
    rw [List.drop_zero] at h1
    rw [h1]
    unfold minusB
    rw [← h2]
    by_cases hc : c = 45
    · subst hc; simp [h]
    · have : ¬ (c.toNat : Int) = 45 := by
        intro e; apply hc; exact UInt8.toNat_inj.1 (by simp; omega)
      simp [h, this]
      split
      · rename_i heq; simp at heq; exact absurd heq.1 hc
      · rfl
  · have h0 : s.data.toList = [] := List.eq_nil_of_length_eq_zero (by simpa using h)
    rw [h0]
    simp [minusB, h]

theorem num_none (s : ByteArray) (h : digitsB (bare s.data.toList) = false) : (numOf s).2 = false := by
  have hm := minus_head s
  unfold numOf
  split at hm
  · rename_i r heq
    rw [hm, if_pos rfl]
    rw [heq] at h
    split
    · rfl
    · rw [numAt_L, heq]
      simp only [List.drop_succ_cons, List.drop_zero]
      rw [numL_not r 0 (by simpa [bare] using h)]; rfl
  · rename_i hne
    rw [hm, if_neg (by simp)]
    have hb : bare s.data.toList = s.data.toList := by
      unfold bare; split
      · rename_i r heq; exact absurd heq (hne r)
      · rfl
    rw [hb] at h
    split
    · rfl
    · rw [numAt_L, List.drop_zero, numL_not _ 0 h]; rfl

theorem num_some (s : ByteArray) (h : digitsB (bare s.data.toList) = true) : (∀ v, Lib.parseIntB 64 s.data.toList = .ok v → numOf s = (v, true)) ∧ (Lib.parseIntB 64 s.data.toList = .«syntax» → (numOf s).2 = false) ∧ (Lib.parseIntB 64 s.data.toList = .range → (numOf s).2 = false) := by
  have hm := minus_head s
  have hsz : s.data.toList.length = s.size := by simp
  split at hm
  · rename_i r heq
    have hr : digitsB r = true := by rw [heq] at h; simpa [bare] using h
    rw [heq] at hsz ⊢
    have e : numOf s = if s.size = 1 then (0, false) else numEnd true (numAt s 1 0) := by unfold numOf; rw [hm, if_pos rfl]
    rw [e, numAt_L, heq]
    simp only [List.drop_succ_cons, List.drop_zero]
    have hmag := numL_mag r 0 hr (by omega)
    simp only [Int.ofNat_zero, Int.neg_zero] at hmag
    rw [hmag]
    simp only [List.length_cons] at hsz
    have hp : Lib.parseIntB 64 (45 :: r) = (match Lib.parseUintB 64 r with | .«syntax» => .«syntax» | .range => .range | .ok u => if 9223372036854775808 < u then .range else .ok (-(u : Int))) := by
      unfold Lib.parseIntB
      simp
      cases Lib.parseUintB 64 r <;> rfl
    rw [hp]
    unfold Lib.parseUintB
    by_cases h0 : r = []
    · subst h0
      have : s.size = 1 := by simp at hsz; omega
      simp [this]
    · have h1 : ¬ s.size = 1 := by cases r with | nil => exact absurd rfl h0 | cons a b => simp at hsz; omega
      rw [if_neg h0, if_neg h1]
      cases he : Lib.parseUintM (2 ^ 64 - 1) 0 r with
      | «syntax» => simp [magEnd, numEnd]
      | range => simp [magEnd, numEnd]
      | ok u =>
        by_cases hu : u ≤ 9223372036854775808
        · have hu' : ¬ 9223372036854775808 < u := by omega
          simp [magEnd, hu, hu', numEnd]
        · have hu' : 9223372036854775808 < u := by omega
          simp [magEnd, hu, hu', numEnd]
  · rename_i hne
    have hb : bare s.data.toList = s.data.toList := by
      unfold bare; split
      · rename_i r heq; exact absurd heq (hne r)
      · rfl
    rw [hb] at h
    have e : numOf s = if s.size = 0 then (0, false) else numEnd false (numAt s 0 0) := by unfold numOf; rw [hm, if_neg (by simp)]
    rw [e, numAt_L, List.drop_zero]
    have hmag := numL_mag s.data.toList 0 h (by omega)
    simp only [Int.ofNat_zero, Int.neg_zero] at hmag
    rw [hmag]
    generalize s.data.toList = l at *
    cases l with
    | nil =>
      have : s.size = 0 := by simpa using hsz.symm
      simp [this, Lib.parseIntB]
    | cons c r =>
      have h1 : ¬ s.size = 0 := by simp at hsz; omega
      rw [if_neg h1]
      simp only [digitsB, Bool.and_eq_true, decide_eq_true_eq] at h
      have c1 : ¬ c.toNat = 43 := by omega
      have c2 : ¬ c.toNat = 45 := by omega
      have hp : Lib.parseIntB 64 (c :: r) = (match Lib.parseUintB 64 (c :: r) with | .«syntax» => .«syntax» | .range => .range | .ok u => if 9223372036854775808 ≤ u then .range else .ok (u : Int)) := by
        unfold Lib.parseIntB
        simp [c1, c2]
        cases Lib.parseUintB 64 (c :: r) <;> rfl
      rw [hp]
      unfold Lib.parseUintB
      rw [if_neg (by simp)]
      cases he : Lib.parseUintM (2 ^ 64 - 1) 0 (c :: r) with
      | «syntax» => simp [magEnd, numEnd]
      | range => simp [magEnd, numEnd]
      | ok u =>
        by_cases hu : 9223372036854775808 ≤ u
        · by_cases hu2 : u ≤ 9223372036854775808
          · have hu3 : u = 9223372036854775808 := by omega
            subst hu3
            simp [magEnd, numEnd, least]
          · simp [magEnd, numEnd, hu, hu2]
        · have hu2 : u ≤ 9223372036854775808 := by omega
          have hu3 : ¬ (-(u : Int)) = least := by unfold least; omega
          have hu4 : least < -(u : Int) := by unfold least; omega
          simp [magEnd, numEnd, hu, hu2, hu3, hu4]

end Go.Proofs.YtfpgjkbjbbgciaaGreatDoor.Sp
