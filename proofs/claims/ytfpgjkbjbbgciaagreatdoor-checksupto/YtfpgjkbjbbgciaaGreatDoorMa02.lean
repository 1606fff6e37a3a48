import Derived.Test.YtfpgjkbjbbgciaaGreatDoorMa00
import Derived.Test.YtfpgjkbjbbgciaaGreatDoorMa01
namespace Go.Proofs.YtfpgjkbjbbgciaaGreatDoor.Sp

theorem conts_bd (s : ByteArray) (i k : Nat) (v u : Int) (h : conts s i k v = some u) : i + k ≤ s.size ∨ k = 0 := by
  induction k generalizing i v with
  | zero => exact .inr rfl
  | succ k ih =>
    unfold conts at h
    split at h
    · rename_i hc
      rcases ih _ _ h with h' | h'
      · exact .inl (by omega)
      · subst h'; exact .inl (by omega)
    · cases h
theorem chrEnd_bd (n least : Int) (o : Option Int) : (chrEnd n least o = (0, 0)) ∨ (∃ v, o = some v ∧ chrEnd n least o = (n, v) ∧ least ≤ v ∧ v ≤ 1114111) := by
  cases o with
  | none => exact .inl rfl
  | some v =>
    by_cases h : v < least ∨ 1114111 < v ∨ (55296 ≤ v ∧ v ≤ 57343)
    · exact .inl (if_pos h)
    · exact .inr ⟨v, rfl, if_neg h, by omega, by omega⟩
theorem chr_bd (s : ByteArray) (i : Nat) (hi : i < s.size) : chr s i = (0, 0) ∨ (1 ≤ (chr s i).1 ∧ (chr s i).1 ≤ 4 ∧ i + (chr s i).1 ≤ s.size ∧ 0 ≤ (chr s i).2 ∧ (chr s i).2 ≤ 1114111) := by
  have hb := bt_lo s i
  unfold chr
  split
  · exact .inr ⟨by simp, by simp, by simp; omega, by simpa using hb.1, by simp; omega⟩
  split
  · rcases chrEnd_bd 2 128 (conts s (i + 1) 1 (bt s i - 192)) with h | ⟨v, h1, h2, h3, h4⟩
    · exact .inl h
    · rw [h2]
      rcases conts_bd _ _ _ _ _ h1 with h | h
      · exact .inr ⟨by simp, by simp, by simp; omega, by simp; omega, by simpa using h4⟩
      · omega
  split
  · rcases chrEnd_bd 3 2048 (conts s (i + 1) 2 (bt s i - 224)) with h | ⟨v, h1, h2, h3, h4⟩
    · exact .inl h
    · rw [h2]
      rcases conts_bd _ _ _ _ _ h1 with h | h
      · exact .inr ⟨by simp, by simp, by simp; omega, by simp; omega, by simpa using h4⟩
      · omega
  split
  · rcases chrEnd_bd 4 65536 (conts s (i + 1) 3 (bt s i - 240)) with h | ⟨v, h1, h2, h3, h4⟩
    · exact .inl h
    · rw [h2]
      rcases conts_bd _ _ _ _ _ h1 with h | h
      · exact .inr ⟨by simp, by simp, by simp; omega, by simp; omega, by simpa using h4⟩
      · omega
  · exact .inl rfl

def chrN (s : ByteArray) (i : Nat) : Nat := (chr s i).1.toNat
theorem chrN_pos (s : ByteArray) (i : Nat) (hi : i < s.size) (h : ¬ (chr s i).1 = 0) : ((chrN s i : Nat) : Int) = (chr s i).1 ∧ 1 ≤ chrN s i ∧ chrN s i ≤ 4 ∧ i + chrN s i ≤ s.size ∧ 0 ≤ (chr s i).2 ∧ (chr s i).2 ≤ 1114111 := by
  rcases chr_bd s i hi with h' | h'
  · rw [h'] at h; simp at h
  · unfold chrN; omega

/-- Are the bytes from a place on UTF-8? -/
def validAt (s : ByteArray) (i : Nat) : Bool :=
  if _hi : i < s.size then
    if _h : (chr s i).1 = 0 then false else validAt s (i + chrN s i)
  else true
termination_by s.size - i
decreasing_by have := chrN_pos s i _hi _h; omega
theorem validAt_end (s : ByteArray) (i : Nat) (h : ¬ i < s.size) : validAt s i = true := by
  rw [validAt, dif_neg h]
theorem validAt_bad (s : ByteArray) (i : Nat) (h : i < s.size) (h0 : (chr s i).1 = 0) : validAt s i = false := by
  rw [validAt, dif_pos h, dif_pos h0]
theorem validAt_next (s : ByteArray) (i : Nat) (h : i < s.size) (h0 : ¬ (chr s i).1 = 0) : validAt s i = validAt s (i + chrN s i) := by
  rw [validAt, dif_pos h, dif_neg h0]

def smallB (c : Int) : Bool := decide (97 ≤ c ∧ c ≤ 122 ∨ c = 95 ∨ 945 ≤ c ∧ c ≤ 969)
def digitB (c : Int) : Bool := decide (48 ≤ c ∧ c ≤ 57)
/-- How many characters of a name stand from a place on; none: one of them may not. -/
def nameAt (s : ByteArray) (i : Nat) (c : Nat) : Option Nat :=
  if hi : i < s.size then
    if h : (chr s i).1 = 0 then none
    else if smallB (chr s i).2 = true ∨ (digitB (chr s i).2 = true ∧ ¬ i = 0) then nameAt s (i + chrN s i) (c + 1) else none
  else some c
termination_by s.size - i
decreasing_by have := chrN_pos s i hi h; omega
def nameEnd : Option Nat → Bool
  | none => false
  | some c => decide (1 ≤ c ∧ c ≤ 12)
def isName (s : ByteArray) : Bool := nameEnd (nameAt s 0 0)
theorem nameAt_end (s : ByteArray) (i c : Nat) (h : ¬ i < s.size) : nameAt s i c = some c := by
  rw [nameAt, dif_neg h]
theorem nameAt_bad (s : ByteArray) (i c : Nat) (h : i < s.size) (h0 : (chr s i).1 = 0) : nameAt s i c = none := by
  rw [nameAt, dif_pos h, dif_pos h0]
theorem nameAt_next (s : ByteArray) (i c : Nat) (h : i < s.size) (h0 : ¬ (chr s i).1 = 0) (h1 : smallB (chr s i).2 = true ∨ (digitB (chr s i).2 = true ∧ ¬ i = 0)) : nameAt s i c = nameAt s (i + chrN s i) (c + 1) := by
  rw [nameAt, dif_pos h, dif_neg h0, if_pos h1]
theorem nameAt_not (s : ByteArray) (i c : Nat) (h : i < s.size) (h0 : ¬ (chr s i).1 = 0) (h1 : ¬ (smallB (chr s i).2 = true ∨ (digitB (chr s i).2 = true ∧ ¬ i = 0))) : nameAt s i c = none := by
  rw [nameAt, dif_pos h, dif_neg h0, if_neg h1]

end Go.Proofs.YtfpgjkbjbbgciaaGreatDoor.Sp

namespace Go.Proofs.YtfpgjkbjbbgciaaGreatDoor
open Go.RowKit Sp

theorem ret_bool {a b : Bool} (h : a = b) : Ending.returned (.bool a) = .returned (.bool b) := by rw [h]

set_option maxRecDepth 100000 in
set_option maxHeartbeats 1000000 in
theorem valid_any (s : ByteArray) (w : World) (hs : s.size ≤ 140737488355328) :
    Calls Tryz.prog 71 #[.string s] w fun e w' => e = .returned (.bool (validAt s 0)) ∧ w' = w := by
  go_enter Tryz.func71, Tryz.ntmps71
  go_wp2
  go_loop [3] (fun ti => ∃ j : Nat, j ≤ s.size ∧ ti = .int .i64 (j : Int) ∧ validAt s 0 = validAt s j) (fun ti => s.size - (intOf ti).toNat)
  case atStart => exact ⟨0, by omega, rfl, rfl⟩
  case round =>
    obtain ⟨j, hj, rfl, hR⟩ := hrel
    have HR : Hid (validAt s 0 = validAt s j) := hR
    clear hR
    by_cases hlt : j < s.size
    · by_cases h0 : (chr s j).1 = 0
      · go_wp2_with (go_at_call 106; refine (chr_any s j _ hs hlt).mono ?_; rintro e w' ⟨rfl, rfl⟩)
        go_ret
        exact ⟨ret_bool (by rw [HR.out, validAt_bad s j hlt h0]), rfl⟩
      · have hp := chrN_pos s j hlt h0
        obtain ⟨hp1, hp2, hp3, hp4, _, _⟩ := hp
        have HP : Hid (((chrN s j : Nat) : Int) = (chr s j).1) := hp1
        have hq1 : 1 ≤ (chr s j).1 := by omega
        have hq2 : (chr s j).1 ≤ 4 := by omega
        have hq : ((chr s j).1 == 0) = false := by simpa using h0
        clear hp1
        go_wp2_with (go_at_call 106; refine (chr_any s j _ hs hlt).mono ?_; rintro e w' ⟨rfl, rfl⟩)
        go_round
        case rel => have e := HP.out; exact ⟨j + chrN s j, by omega, by go_num, by rw [HR.out, validAt_next s j hlt h0]⟩
        case measure => have e := HP.out; simp [intOf]; omega
    · go_wp2
      go_ret
      exact ⟨ret_bool (by rw [HR.out, validAt_end s j hlt]), rfl⟩

end Go.Proofs.YtfpgjkbjbbgciaaGreatDoor
