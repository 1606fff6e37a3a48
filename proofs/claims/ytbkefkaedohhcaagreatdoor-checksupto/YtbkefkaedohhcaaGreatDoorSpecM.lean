import Derived.Test.YtbkefkaedohhcaaGreatDoorSpecI
import Derived.Lib.ParseIntB
import Derived.Lib.SplitLaws
namespace Go.Proofs.YtbkefkaedohhcaaGreatDoor.Sp

def numL : List UInt8 → Int → Option Int
  | [], n => some n
  | c :: r, n => if numBad n ((c.toNat : Int) - 48) = true then none else numL r (10 * n - ((c.toNat : Int) - 48))
theorem bt_drop (s : ByteArray) (i : Nat) (h : i < s.size) : ∃ c r, s.data.toList.drop i = c :: r ∧ (c.toNat : Int) = bt s i ∧ r = s.data.toList.drop (i + 1) := by
  have h' : i < s.data.toList.length := by simpa using h
  refine ⟨s.data.toList[i], s.data.toList.drop (i + 1), List.drop_eq_getElem_cons h', ?_, rfl⟩
  unfold bt
  have h2 : i < s.data.size := h
  rw [Array.getElem?_eq_getElem h2]
  simp
theorem numAt_L (s : ByteArray) (i : Nat) (n : Int) : numAt s i n = numL (s.data.toList.drop i) n := by
  by_cases h : i < s.size
  · obtain ⟨c, r, h1, h2, h3⟩ := bt_drop s i h
    rw [h1]
    cases hb : numBad n (bt s i - 48) with
    | true => rw [numAt_bad s i n h hb]; simp [numL, h2, hb]
    | false =>
      rw [numAt_next s i n h (by simp [hb]), numAt_L s (i + 1), ← h3]
      simp [numL, h2, hb]
  · rw [numAt_end s i n h, List.drop_of_length_le (by simpa using h)]; rfl
termination_by s.size - i

def digitsB : List UInt8 → Bool
  | [] => true
  | c :: r => decide (48 ≤ c.toNat ∧ c.toNat ≤ 57) && digitsB r
theorem numBad_iff (a : Nat) (d : Int) (h0 : 0 ≤ d) (h9 : d ≤ 9) : numBad (-(a : Int)) d = decide (9223372036854775808 < 10 * (a : Int) + d) := by
  unfold numBad
  rw [tdiv_low d h9]
  by_cases h : 9223372036854775808 < 10 * (a : Int) + d
  · have : -(a : Int) < -((9223372036854775808 - d) / 10) := by omega
    simp [h, this]
  · have : ¬ -(a : Int) < -((9223372036854775808 - d) / 10) := by omega
    have h1 : ¬ d < 0 := by omega
    have h2 : ¬ 9 < d := by omega
    simp [h, this, h1, h2]
theorem parseM_mono (M : Nat) (l : List UInt8) (a u : Nat) (h : Lib.parseUintM M a l = .ok u) : a ≤ u := by
  induction l generalizing a with
  | nil => simp [Lib.parseUintM] at h; omega
  | cons c r ih =>
    unfold Lib.parseUintM at h
    split at h
    · split at h
      · cases h
      · split at h
        · cases h
        · have := ih _ h; omega
    · cases h
def magEnd : Lib.NumEnd Nat → Option Int
  | .ok u => if u ≤ 9223372036854775808 then some (-(u : Int)) else none
  | _ => none
theorem numL_mag (l : List UInt8) (a : Nat) (hd : digitsB l = true) (ha : a ≤ 9223372036854775808) : numL l (-(a : Int)) = magEnd (Lib.parseUintM (2 ^ 64 - 1) a l) := by
  induction l generalizing a with
  | nil => simp [numL, Lib.parseUintM, magEnd, ha]
  | cons c r ih =>
    simp only [digitsB, Bool.and_eq_true, decide_eq_true_eq] at hd
    obtain ⟨hc, hr⟩ := hd
    unfold numL Lib.parseUintM
    rw [if_pos hc, numBad_iff a _ (by omega) (by omega)]
    by_cases hb : 9223372036854775808 < 10 * (a : Int) + ((c.toNat : Int) - 48)
    · rw [if_pos (by simpa using hb)]
      split
      · rfl
      · split
        · rfl
        · cases he : Lib.parseUintM (2 ^ 64 - 1) (a * 10 + (c.toNat - 48)) r with
          | ok u =>
            have := parseM_mono _ _ _ _ he
            simp [magEnd]; omega
          | «syntax» => rfl
          | range => rfl
    · rw [if_neg (by simpa using hb), if_neg (by omega), if_neg (by omega)]
      have e : 10 * -(a : Int) - ((c.toNat : Int) - 48) = -((a * 10 + (c.toNat - 48) : Nat) : Int) := by omega
      rw [e]
      exact ih _ hr (by omega)
theorem numL_not (l : List UInt8) (n : Int) (hd : digitsB l = false) : numL l n = none := by
  induction l generalizing n with
  | nil => simp [digitsB] at hd
  | cons c r ih =>
    unfold numL
    cases hb : numBad n ((c.toNat : Int) - 48) with
    | true => rfl
    | false =>
      have hr : digitsB r = false := by
        simp only [digitsB] at hd
        have hc : 48 ≤ c.toNat ∧ c.toNat ≤ 57 := by
          simp [numBad] at hb
          omega
        simpa [hc] using hd
      simp only [Bool.false_eq_true, if_false]
      exact ih _ hr
/-- The word without its sign. -/
def bare (l : List UInt8) : List UInt8 := match l with | 45 :: r => r | l => l

theorem minus_head (s : ByteArray) : minusB s = (match s.data.toList with | 45 :: _ => true | _ => false) := by
  by_cases h : 0 < s.size
  · obtain ⟨c, r, h1, h2, _⟩ := bt_drop s 0 h
    rw [List.drop_zero] at h1
    rw [h1]
    unfold minusB
    rw [← h2]
    by_cases hc : c = 45
    · subst hc; simp [h]
    · have : ¬ (c.toNat : Int) = 45 := by
        intro e; apply hc; exact UInt8.toNat_inj.1 (by simp; omega)
      simp [h, this]
      split
      · rename_i heq; simp at heq; exact absurd heq.1 hc
      · rfl
  · have h0 : s.data.toList = [] := List.eq_nil_of_length_eq_zero (by simpa using h)
    rw [h0]
    simp [minusB, h]

theorem num_none (s : ByteArray) (h : digitsB (bare s.data.toList) = false) : (numOf s).2 = false := by
  have hm := minus_head s
  unfold numOf
  split at hm
  · rename_i r heq
    rw [hm, if_pos rfl]
    rw [heq] at h
    split
    · rfl
    · rw [numAt_L, heq]
      simp only [List.drop_succ_cons, List.drop_zero]
      rw [numL_not r 0 (by simpa [bare] using h)]; rfl
  · rename_i hne
    rw [hm, if_neg (by simp)]
    have hb : bare s.data.toList = s.data.toList := by
      unfold bare; split
      · rename_i r heq; exact absurd heq (hne r)
      · rfl
    rw [hb] at h
    split
    · rfl
    · rw [numAt_L, List.drop_zero, numL_not _ 0 h]; rfl

theorem num_some (s : ByteArray) (h : digitsB (bare s.data.toList) = true) : (∀ v, Lib.parseIntB 64 s.data.toList = .ok v → numOf s = (v, true)) ∧ (Lib.parseIntB 64 s.data.toList = .«syntax» → (numOf s).2 = false) ∧ (Lib.parseIntB 64 s.data.toList = .range → (numOf s).2 = false) := by
  have hm := minus_head s
  have hsz : s.data.toList.length = s.size := by simp
  split at hm
  · rename_i r heq
    have hr : digitsB r = true := by rw [heq] at h; simpa [bare] using h
    rw [heq] at hsz ⊢
    have e : numOf s = if s.size = 1 then (0, false) else numEnd true (numAt s 1 0) := by unfold numOf; rw [hm, if_pos rfl]
    rw [e, numAt_L, heq]
    simp only [List.drop_succ_cons, List.drop_zero]
    have hmag := numL_mag r 0 hr (by omega)
    simp only [Int.ofNat_zero, Int.neg_zero] at hmag
    rw [hmag]
    simp only [List.length_cons] at hsz
    have hp : Lib.parseIntB 64 (45 :: r) = (match Lib.parseUintB 64 r with | .«syntax» => .«syntax» | .range => .range | .ok u => if 9223372036854775808 < u then .range else .ok (-(u : Int))) := by
      unfold Lib.parseIntB
      simp
      cases Lib.parseUintB 64 r <;> rfl
    rw [hp]
    unfold Lib.parseUintB
    by_cases h0 : r = []
    · subst h0
      have : s.size = 1 := by simp at hsz; omega
      simp [this]
    · have h1 : ¬ s.size = 1 := by cases r with | nil => exact absurd rfl h0 | cons a b => simp at hsz; omega
      rw [if_neg h0, if_neg h1]
      cases he : Lib.parseUintM (2 ^ 64 - 1) 0 r with
      | «syntax» => simp [magEnd, numEnd]
      | range => simp [magEnd, numEnd]
      | ok u =>
        by_cases hu : u ≤ 9223372036854775808
        · have hu' : ¬ 9223372036854775808 < u := by omega
          simp [magEnd, hu, hu', numEnd]
        · have hu' : 9223372036854775808 < u := by omega
          simp [magEnd, hu, hu', numEnd]
  · rename_i hne
    have hb : bare s.data.toList = s.data.toList := by
      unfold bare; split
      · rename_i r heq; exact absurd heq (hne r)
      · rfl
    rw [hb] at h
    have e : numOf s = if s.size = 0 then (0, false) else numEnd false (numAt s 0 0) := by unfold numOf; rw [hm, if_neg (by simp)]
    rw [e, numAt_L, List.drop_zero]
    have hmag := numL_mag s.data.toList 0 h (by omega)
    simp only [Int.ofNat_zero, Int.neg_zero] at hmag
    rw [hmag]
    generalize s.data.toList = l at *
    cases l with
    | nil =>
      have : s.size = 0 := by simpa using hsz.symm
      simp [this, Lib.parseIntB]
    | cons c r =>
      have h1 : ¬ s.size = 0 := by simp at hsz; omega
      rw [if_neg h1]
      simp only [digitsB, Bool.and_eq_true, decide_eq_true_eq] at h
      have c1 : ¬ c.toNat = 43 := by omega
      have c2 : ¬ c.toNat = 45 := by omega
      have hp : Lib.parseIntB 64 (c :: r) = (match Lib.parseUintB 64 (c :: r) with | .«syntax» => .«syntax» | .range => .range | .ok u => if 9223372036854775808 ≤ u then .range else .ok (u : Int)) := by
        unfold Lib.parseIntB
        simp [c1, c2]
        cases Lib.parseUintB 64 (c :: r) <;> rfl
      rw [hp]
      unfold Lib.parseUintB
      rw [if_neg (by simp)]
      cases he : Lib.parseUintM (2 ^ 64 - 1) 0 (c :: r) with
      | «syntax» => simp [magEnd, numEnd]
      | range => simp [magEnd, numEnd]
      | ok u =>
        by_cases hu : 9223372036854775808 ≤ u
        · by_cases hu2 : u ≤ 9223372036854775808
          · have hu3 : u = 9223372036854775808 := by omega
            subst hu3
            simp [magEnd, numEnd, least]
          · simp [magEnd, numEnd, hu, hu2]
        · have hu2 : u ≤ 9223372036854775808 := by omega
          have hu3 : ¬ (-(u : Int)) = least := by unfold least; omega
          have hu4 : least < -(u : Int) := by unfold least; omega
          simp [magEnd, numEnd, hu, hu2, hu3, hu4]

end Go.Proofs.YtbkefkaedohhcaaGreatDoor.Sp

namespace Go.Proofs.YtbkefkaedohhcaaGreatDoor.Sp

theorem ext_app (s : ByteArray) (a b c : Nat) (h1 : a ≤ b) (h2 : b ≤ c) : s.extract a b ++ s.extract b c = s.extract a c := by
  apply ByteArray.ext
  rw [ByteArray.data_append, ByteArray.data_extract, ByteArray.data_extract, ByteArray.data_extract]
  rw [Array.extract_append_extract]
  congr 1 <;> omega
theorem ext_nil (s : ByteArray) (a : Nat) : s.extract a a = ByteArray.empty := by
  apply ByteArray.ext
  rw [ByteArray.data_extract]
  simp
  omega
theorem words_run (s : ByteArray) (n i : Nat) (now : ByteArray) (l : List ByteArray) (hn : i + n ≤ s.size) (h : ∀ j, i ≤ j → j < i + n → ¬ (bt s j = 32 ∨ bt s j = 9 ∨ bt s j = 59)) : wordsAt s i now l = wordsAt s (i + n) (now ++ s.extract i (i + n)) l := by
  induction n generalizing i now with
  | zero =>
    rw [Nat.add_zero, ext_nil]
    congr 1
    simp
  | succ n ih =>
    rw [wordsAt_on s i now l (by omega) (h i (by omega) (by omega)), ih (i + 1) _ (by omega) (fun j h1 h2 => h j (by omega) (by omega))]
    rw [show i + 1 + n = i + (n + 1) by omega]
    congr 1
    rw [ByteArray.append_assoc, ext_app s i (i + 1) (i + (n + 1)) (by omega) (by omega)]
theorem conts_bytes (s : ByteArray) (k i : Nat) (v u : Int) (h : conts s i k v = some u) : ∀ j, i ≤ j → j < i + k → 128 ≤ bt s j := by
  induction k generalizing i v with
  | zero => intro j h1 h2; omega
  | succ k ih =>
    unfold conts at h
    split at h
    · rename_i hc
      intro j h1 h2
      by_cases hj : j = i
      · subst hj; omega
      · exact ih _ _ h j (by omega) (by omega)
    · cases h
/-- A character's bytes are all 128 or more, or it is one byte below. -/
theorem chr_bytes (s : ByteArray) (i : Nat) (hi : i < s.size) (h0 : ¬ (chr s i).1 = 0) : (bt s i < 128 ∧ chr s i = (1, bt s i)) ∨ (128 ≤ (chr s i).2 ∧ ∀ j, i ≤ j → j < i + chrN s i → 128 ≤ bt s j) := by
  by_cases h : bt s i < 128
  · left; exact ⟨h, by unfold chr; rw [if_pos h]⟩
  · right
    unfold chrN
    unfold chr at h0 ⊢
    rw [if_neg h] at h0 ⊢
    split at h0
    · rename_i hc
      rw [if_pos hc]
      rcases chrEnd_bd 2 128 (conts s (i + 1) 1 (bt s i - 192)) with h' | ⟨v, h1, h2, h3, _⟩
      · rw [h'] at h0; exact absurd rfl h0
      · rw [h2]
        refine ⟨h3, fun j a b => ?_⟩
        by_cases hj : j = i
        · subst hj; omega
        · exact conts_bytes s 1 (i + 1) _ _ h1 j (by omega) (by simp at b; omega)
    · rename_i hc
      rw [if_neg hc]
      split at h0
      · rename_i hd
        rw [if_pos hd]
        rcases chrEnd_bd 3 2048 (conts s (i + 1) 2 (bt s i - 224)) with h' | ⟨v, h1, h2, h3, _⟩
        · rw [h'] at h0; exact absurd rfl h0
        · rw [h2]
          refine ⟨by show 128 ≤ v; omega, fun j a b => ?_⟩
          by_cases hj : j = i
          · subst hj; omega
          · exact conts_bytes s 2 (i + 1) _ _ h1 j (by omega) (by simp at b; omega)
      · rename_i hd
        rw [if_neg hd]
        split at h0
        · rename_i he
          rw [if_pos he]
          rcases chrEnd_bd 4 65536 (conts s (i + 1) 3 (bt s i - 240)) with h' | ⟨v, h1, h2, h3, _⟩
          · rw [h'] at h0; exact absurd rfl h0
          · rw [h2]
            refine ⟨by show 128 ≤ v; omega, fun j a b => ?_⟩
            by_cases hj : j = i
            · subst hj; omega
            · exact conts_bytes s 3 (i + 1) _ _ h1 j (by omega) (by simp at b; omega)
        · exact absurd rfl h0
/-- A character that is no blank is gone over whole. -/
theorem words_char (s : ByteArray) (i : Nat) (now : ByteArray) (l : List ByteArray) (hi : i < s.size) (h0 : ¬ (chr s i).1 = 0) (hc : ¬ ((chr s i).2 = 32 ∨ (chr s i).2 = 9 ∨ (chr s i).2 = 59)) : wordsAt s i now l = wordsAt s (i + chrN s i) (now ++ s.extract i (i + chrN s i)) l := by
  have hp := chrN_pos s i hi h0
  refine words_run s (chrN s i) i now l (by omega) (fun j h1 h2 => ?_)
  rcases chr_bytes s i hi h0 with ⟨ha, hb⟩ | ⟨_, hb⟩
  · have hN : chrN s i = 1 := by unfold chrN; rw [hb]; rfl
    have : j = i := by omega
    subst this
    rw [hb] at hc
    exact hc
  · have := hb j h1 h2; omega
/-- One that is a blank is one byte. -/
theorem chr_blank (s : ByteArray) (i : Nat) (hi : i < s.size) (h0 : ¬ (chr s i).1 = 0) (hc : (chr s i).2 < 128) : bt s i = (chr s i).2 ∧ chrN s i = 1 := by
  rcases chr_bytes s i hi h0 with ⟨ha, hb⟩ | ⟨hb, _⟩
  · unfold chrN; rw [hb]; exact ⟨rfl, rfl⟩
  · omega

end Go.Proofs.YtbkefkaedohhcaaGreatDoor.Sp

namespace Go.Proofs.YtbkefkaedohhcaaGreatDoor.Sp

def pre (p : List UInt8) : List (List UInt8) → List (List UInt8)
  | h :: t => (p ++ h) :: t
  | [] => [p]
def linesL : List UInt8 → List (List UInt8)
  | [] => [[]]
  | c :: r => if c = 10 then [] :: linesL r else pre [c] (linesL r)
theorem pre_nil (l : List (List UInt8)) (h : l ≠ []) : pre [] l = l := by
  cases l with
  | nil => exact absurd rfl h
  | cons a b => rfl
theorem linesL_ne (l : List UInt8) : linesL l ≠ [] := by
  cases l with
  | nil => simp [linesL]
  | cons c r =>
    unfold linesL
    split
    · simp
    · cases linesL r <;> simp [pre]
theorem pre_pre (p q : List UInt8) (l : List (List UInt8)) : pre p (pre q l) = pre (p ++ q) l := by
  cases l <;> simp [pre]
theorem lines_L (s : ByteArray) (f i : Nat) (hf : f ≤ i) (hi : i ≤ s.size) : (linesAt s f i).map (·.data.toList) = pre ((s.data.toList.drop f).take (i - f)) (linesL (s.data.toList.drop i)) := by
  by_cases h : i < s.size
  · obtain ⟨c, r, h1, h2, h3⟩ := bt_drop s i h
    by_cases h10 : bt s i = 10
    · rw [linesAt_cut s f i h h10, List.map_cons, lines_L s (i + 1) (i + 1) (by omega) (by omega), h1, ← h3]
      have hc : c = 10 := by
        apply UInt8.toNat_inj.1
        have : (c.toNat : Int) = 10 := by omega
        simp; omega
      subst hc
      simp only [Nat.sub_self, List.take_zero]
      rw [pre_nil _ (linesL_ne _)]
      simp [linesL, pre]
    · rw [linesAt_on s f i h h10, lines_L s f (i + 1) (by omega) (by omega), h1, ← h3]
      have hc : ¬ c = 10 := by
        intro e; apply h10; rw [← h2, e]; rfl
      simp only [linesL, hc, if_false]
      rw [pre_pre]
      congr 1
      have e : i + 1 - f = (i - f) + 1 := by omega
      rw [e, List.take_add_one]
      congr 1
      rw [List.getElem?_drop]
      have e2 : f + (i - f) = i := by omega
      rw [e2]
      have h5 : s.data.toList[i]? = some c := by
        have : (s.data.toList.drop i)[0]? = some c := by rw [h1]; rfl
        rw [List.getElem?_drop] at this
        simpa using this
      rw [h5]; rfl
  · have hz : i = s.size := by omega
    rw [linesAt_end s f i h]
    have hl : s.data.toList.drop i = [] := List.drop_of_length_le (by simp; omega)
    rw [hl]
    simp [linesL, pre, hz]
termination_by s.size - i
theorem split_L (l : List UInt8) : Lib.splitK [10] 0 (Lib.count l [10]) l = linesL l := by
  induction l with
  | nil => rw [Lib.count_miss (by simp [Lib.index])]; rfl
  | cons c r ih =>
    by_cases hc : c = 10
    · subst hc
      rw [Lib.count_cons_eq, Nat.add_comm]
      have hix : Lib.index (10 :: r) [10] = 0 := by rw [Lib.index]; simp [List.isPrefixOf]
      unfold Lib.splitK
      rw [hix]
      simp only [linesL, if_true]
      rw [← ih]
      simp
    · rw [Lib.count_cons_ne c 10 r hc]
      have hp : ([10] : List UInt8).isPrefixOf (c :: r) = false := by simp [List.isPrefixOf, Ne.symm hc]
      have hix : Lib.index (c :: r) [10] = if Lib.index r [10] == -1 then -1 else Lib.index r [10] + 1 := by rw [Lib.index, hp]; simp
      simp only [linesL, hc, if_false]
      rw [← ih]
      by_cases hm : Lib.index r [10] = -1
      · rw [Lib.count_miss hm]; rfl
      · have hge := Lib.index_ge r [10]
        obtain ⟨j, hj⟩ : ∃ j : Nat, Lib.index r [10] = j := ⟨(Lib.index r [10]).toNat, by omega⟩
        rw [Lib.count_hit (by simp) hj, Nat.add_comm]
        unfold Lib.splitK
        rw [hix, hj]
        have b1 : (((j : Nat) : Int) == -1) = false := by simp
        have b2 : (((j : Nat) : Int) + 1 == -1) = false := by simp; omega
        simp only [b1, b2, if_false, Bool.false_eq_true]
        have e1 : ((j : Int) + 1).toNat = j + 1 := by omega
        have e2 : ((j : Nat) : Int).toNat = j := by omega
        rw [e1, e2]
        simp [pre]
theorem split_lines (s : ByteArray) : Lib.splitB ⟨#[10]⟩ 0 (Lib.countB s ⟨#[10]⟩) s = lines s := by
  have h1 : (Lib.splitB ⟨#[10]⟩ 0 (Lib.countB s ⟨#[10]⟩) s).map (·.data.toList) = (lines s).map (·.data.toList) := by
    rw [Lib.splitB_data]
    have h2 := lines_L s 0 0 (by omega) (by omega)
    simp only [List.drop_zero, Nat.sub_self, List.take_zero] at h2
    rw [pre_nil _ (linesL_ne _)] at h2
    show Lib.splitK [10] 0 (Lib.count s.data.toList [10]) s.data.toList = (linesAt s 0 0).map _
    rw [h2, split_L]
  refine (List.map_inj_right ?_).1 h1
  intro a b h
  exact ByteArray.ext (Array.ext' h)
theorem count_lines (s : ByteArray) : (lines s).length = Lib.countByte s.data.toList 10 + 1 ∧ Lib.countB s ⟨#[10]⟩ + 1 = (lines s).length := by
  have h := Lib.splitB_all ⟨#[10]⟩ (by decide) 0 _ s rfl
  rw [split_lines] at h
  refine ⟨?_, h.symm⟩
  rw [h]
  unfold Lib.countByte
  rw [← Lib.count_one]

end Go.Proofs.YtbkefkaedohhcaaGreatDoor.Sp
