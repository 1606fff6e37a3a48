import Derived.Test.YtfpgjkbjbbgciaaGreatDoorMa02
import Derived.Lib.DecodeN
namespace Go.Proofs.YtfpgjkbjbbgciaaGreatDoor.Sp

theorem get_bt (s : ByteArray) (j : Nat) : bt s j = ((s.get! j).toNat : Int) := by
  unfold bt ByteArray.get!
  cases h : s.data[j]? with
  | none =>
    have : ¬ j < s.data.size := by
      intro hj; rw [Array.getElem?_eq_getElem hj] at h; cases h
    simp [getElem!_def, h]
    rfl
  | some v => simp [getElem!_def, h]

theorem conts1 (s : ByteArray) (i : Nat) (v : Int) : conts s i 1 v = if i < s.size ∧ 128 ≤ bt s i ∧ bt s i ≤ 191 then some (64 * v + bt s i - 128) else none := rfl
theorem conts2 (s : ByteArray) (i : Nat) (v : Int) : conts s i 2 v = if i < s.size ∧ 128 ≤ bt s i ∧ bt s i ≤ 191 then (if i + 1 < s.size ∧ 128 ≤ bt s (i + 1) ∧ bt s (i + 1) ≤ 191 then some (64 * (64 * v + bt s i - 128) + bt s (i + 1) - 128) else none) else none := rfl
theorem conts3 (s : ByteArray) (i : Nat) (v : Int) : conts s i 3 v = if i < s.size ∧ 128 ≤ bt s i ∧ bt s i ≤ 191 then (if i + 1 < s.size ∧ 128 ≤ bt s (i + 1) ∧ bt s (i + 1) ≤ 191 then (if i + 1 + 1 < s.size ∧ 128 ≤ bt s (i + 1 + 1) ∧ bt s (i + 1 + 1) ≤ 191 then some (64 * (64 * (64 * v + bt s i - 128) + bt s (i + 1) - 128) + bt s (i + 1 + 1) - 128) else none) else none) else none := rfl
/-- The document's character, of four bytes. -/
def chrB (i z : Nat) (b0 b1 b2 b3 : Int) : Int × Int :=
  if b0 < 128 then (1, b0)
  else if 194 ≤ b0 ∧ b0 < 224 then chrEnd 2 128 (if i + 1 < z ∧ 128 ≤ b1 ∧ b1 ≤ 191 then some (64 * (b0 - 192) + b1 - 128) else none)
  else if 224 ≤ b0 ∧ b0 < 240 then chrEnd 3 2048 (if i + 1 < z ∧ 128 ≤ b1 ∧ b1 ≤ 191 then (if i + 1 + 1 < z ∧ 128 ≤ b2 ∧ b2 ≤ 191 then some (64 * (64 * (b0 - 224) + b1 - 128) + b2 - 128) else none) else none)
  else if 240 ≤ b0 ∧ b0 < 245 then chrEnd 4 65536 (if i + 1 < z ∧ 128 ≤ b1 ∧ b1 ≤ 191 then (if i + 1 + 1 < z ∧ 128 ≤ b2 ∧ b2 ≤ 191 then (if i + 1 + 1 + 1 < z ∧ 128 ≤ b3 ∧ b3 ≤ 191 then some (64 * (64 * (64 * (b0 - 240) + b1 - 128) + b2 - 128) + b3 - 128) else none) else none) else none)
  else (0, 0)
theorem chr_B (s : ByteArray) (i : Nat) : chr s i = chrB i s.size (bt s i) (bt s (i + 1)) (bt s (i + 2)) (bt s (i + 3)) := rfl
set_option maxRecDepth 100000 in
set_option maxHeartbeats 4000000 in
theorem decB (i z b0 b1 b2 b3 : Nat) (h0 : b0 < 256) (h1 : b1 < 256) (h2 : b2 < 256) (h3 : b3 < 256) :
    ((chrB i z b0 b1 b2 b3).1 = 0 → Lib.decodeN (z - i) b0 b1 b2 b3 = (65533, 1)) ∧ (¬ (chrB i z b0 b1 b2 b3).1 = 0 → Lib.decodeN (z - i) b0 b1 b2 b3 = ((chrB i z b0 b1 b2 b3).2.toNat, (chrB i z b0 b1 b2 b3).1.toNat)) := by
  unfold chrB
  split
  · refine ⟨fun h => absurd h (by simp), fun _ => ?_⟩
    unfold Lib.decodeN
    rw [if_pos (by omega)]
    exact Prod.ext (by simp) rfl
  split
  · split
    · by_cases hb : 64 * ((b0 : Int) - 192) + b1 - 128 < 128 ∨ 1114111 < 64 * ((b0 : Int) - 192) + b1 - 128 ∨ (55296 ≤ 64 * ((b0 : Int) - 192) + b1 - 128 ∧ 64 * ((b0 : Int) - 192) + b1 - 128 ≤ 57343)
      · rw [chrEnd, if_pos hb]
        refine ⟨fun _ => ?_, fun h => absurd rfl h⟩
        unfold Lib.decodeN
        repeat' split
        all_goals first | rfl | (exfalso; omega)
      · rw [chrEnd, if_neg hb]
        refine ⟨fun h => absurd h (by simp), fun _ => ?_⟩
        unfold Lib.decodeN
        repeat' split
        all_goals first | (exfalso; omega) | (apply Prod.ext <;> simp only <;> omega)
    · refine ⟨fun _ => ?_, fun h => absurd rfl h⟩
      unfold Lib.decodeN
      repeat' split
      all_goals first | rfl | (exfalso; omega)
  split
  · split
    · split
      · by_cases hb : 64 * (64 * ((b0 : Int) - 224) + b1 - 128) + b2 - 128 < 2048 ∨ 1114111 < 64 * (64 * ((b0 : Int) - 224) + b1 - 128) + b2 - 128 ∨ (55296 ≤ 64 * (64 * ((b0 : Int) - 224) + b1 - 128) + b2 - 128 ∧ 64 * (64 * ((b0 : Int) - 224) + b1 - 128) + b2 - 128 ≤ 57343)
        · rw [chrEnd, if_pos hb]
          refine ⟨fun _ => ?_, fun h => absurd rfl h⟩
          unfold Lib.decodeN
          repeat' split
          all_goals first | rfl | (exfalso; omega)
        · rw [chrEnd, if_neg hb]
          refine ⟨fun h => absurd h (by simp), fun _ => ?_⟩
          unfold Lib.decodeN
          repeat' split
          all_goals first | (exfalso; omega) | (apply Prod.ext <;> simp only <;> omega)
      · refine ⟨fun _ => ?_, fun h => absurd rfl h⟩
        unfold Lib.decodeN
        repeat' split
        all_goals first | rfl | (exfalso; omega)
    · refine ⟨fun _ => ?_, fun h => absurd rfl h⟩
      unfold Lib.decodeN
      repeat' split
      all_goals first | rfl | (exfalso; omega)
  split
  · split
    · split
      · split
        · by_cases hb : 64 * (64 * (64 * ((b0 : Int) - 240) + b1 - 128) + b2 - 128) + b3 - 128 < 65536 ∨ 1114111 < 64 * (64 * (64 * ((b0 : Int) - 240) + b1 - 128) + b2 - 128) + b3 - 128 ∨ (55296 ≤ 64 * (64 * (64 * ((b0 : Int) - 240) + b1 - 128) + b2 - 128) + b3 - 128 ∧ 64 * (64 * (64 * ((b0 : Int) - 240) + b1 - 128) + b2 - 128) + b3 - 128 ≤ 57343)
          · rw [chrEnd, if_pos hb]
            refine ⟨fun _ => ?_, fun h => absurd rfl h⟩
            unfold Lib.decodeN
            repeat' split
            all_goals first | rfl | (exfalso; omega)
          · rw [chrEnd, if_neg hb]
            refine ⟨fun h => absurd h (by simp), fun _ => ?_⟩
            unfold Lib.decodeN
            repeat' split
            all_goals first | (exfalso; omega) | (apply Prod.ext <;> simp only <;> omega)
        · refine ⟨fun _ => ?_, fun h => absurd rfl h⟩
          unfold Lib.decodeN
          repeat' split
          all_goals first | rfl | (exfalso; omega)
      · refine ⟨fun _ => ?_, fun h => absurd rfl h⟩
        unfold Lib.decodeN
        repeat' split
        all_goals first | rfl | (exfalso; omega)
    · refine ⟨fun _ => ?_, fun h => absurd rfl h⟩
      unfold Lib.decodeN
      repeat' split
      all_goals first | rfl | (exfalso; omega)
  · refine ⟨fun _ => ?_, fun h => absurd rfl h⟩
    unfold Lib.decodeN
    repeat' split
    all_goals first | rfl | (exfalso; omega)
/-- The model's decoding is the document's. -/
theorem dec_chr (s : ByteArray) (i : Nat) : ((chr s i).1 = 0 → Utf8.decode s i = (65533, 1)) ∧ (¬ (chr s i).1 = 0 → Utf8.decode s i = ((chr s i).2.toNat, (chr s i).1.toNat)) := by
  rw [chr_B, Lib.decode_at, get_bt s i, get_bt s (i + 1), get_bt s (i + 2), get_bt s (i + 3)]
  exact decB i s.size _ _ _ _ (s.get! i).toNat_lt (s.get! (i + 1)).toNat_lt (s.get! (i + 2)).toNat_lt (s.get! (i + 3)).toNat_lt

end Go.Proofs.YtfpgjkbjbbgciaaGreatDoor.Sp
