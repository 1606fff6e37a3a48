import Derived.Test.YtfpgjkbjbbgciaaGreatDoorMb00
import Derived.Lib.DecodeN
import Derived.Lib.OthersKept
namespace Go.Proofs.YtfpgjkbjbbgciaaGreatDoor
open Go.RowKit Sp

theorem small_yes (c : Int) (h : 97 ≤ c ∧ c ≤ 122 ∨ c = 95 ∨ 945 ≤ c ∧ c ≤ 969) : smallB c = true := by simpa [smallB] using h
theorem small_no (c : Int) (h : ¬ (97 ≤ c ∧ c ≤ 122 ∨ c = 95 ∨ 945 ≤ c ∧ c ≤ 969)) : ¬ smallB c = true := by simpa [smallB] using h
theorem digit_yes (c : Int) (h : 48 ≤ c ∧ c ≤ 57) : digitB c = true := by simpa [digitB] using h
theorem digit_no (c : Int) (h : ¬ (48 ≤ c ∧ c ≤ 57)) : ¬ digitB c = true := by simpa [digitB] using h

theorem name_in (c : Int) (j : Nat) (h : 97 ≤ c ∧ c ≤ 122 ∨ 95 ≤ c ∧ c ≤ 95 ∨ 945 ≤ c ∧ c ≤ 969 ∨ (48 ≤ c ∧ c ≤ 57) ∧ ¬ j = 0) : smallB c = true ∨ digitB c = true ∧ ¬ j = 0 := by
  rcases h with h | h | h | ⟨h, h'⟩
  · exact .inl (small_yes c (by omega))
  · exact .inl (small_yes c (by omega))
  · exact .inl (small_yes c (by omega))
  · exact .inr ⟨digit_yes c h, h'⟩
theorem name_out (c : Int) (j : Nat) (h : ¬ (97 ≤ c ∧ c ≤ 122 ∨ 95 ≤ c ∧ c ≤ 95 ∨ 945 ≤ c ∧ c ≤ 969 ∨ (48 ≤ c ∧ c ≤ 57) ∧ ¬ j = 0)) : ¬ (smallB c = true ∨ digitB c = true ∧ ¬ j = 0) := by
  intro hh
  rcases hh with h1 | ⟨h1, h2⟩
  · exact absurd h1 (small_no c (by omega))
  · exact absurd h1 (digit_no c (by omega))
theorem name_ways (c : Int) (j : Nat) (h0 : 0 ≤ c) (h1 : c ≤ 1114111) : ((97 ≤ c ∧ c ≤ 122) ∨ (95 ≤ c ∧ c ≤ 95 ∧ (c == 95) = true) ∨ (945 ≤ c ∧ c ≤ 969 ∧ (c == 95) = false) ∨ (48 ≤ c ∧ c ≤ 57 ∧ ((j : Int) == 0) = false ∧ (c == 95) = false)) ∨
    ((48 ≤ c ∧ c ≤ 57 ∧ ((j : Int) == 0) = true ∧ (c == 95) = false) ∨ (0 ≤ c ∧ c < 48 ∧ (c == 95) = false) ∨ (57 < c ∧ c < 95 ∧ (c == 95) = false) ∨ (95 < c ∧ c < 97 ∧ (c == 95) = false) ∨ (122 < c ∧ c < 945 ∧ (c == 95) = false) ∨ (969 < c ∧ c ≤ 1114111 ∧ (c == 95) = false)) := by
  by_cases h : (j : Int) = 0
  · by_cases h' : c = 95 <;> simp [h, h'] <;> omega
  · by_cases h' : c = 95 <;> simp [h'] <;> omega
theorem nameEnd_yes (c : Nat) (h : 1 ≤ c) : decide ((c : Int) ≤ 12) = nameEnd (some c) := by
  unfold nameEnd
  by_cases h' : c ≤ 12
  · simp [h, h']; omega
  · simp [h']; omega
theorem nameEnd_no (c : Nat) (h : ¬ 1 ≤ c) : false = nameEnd (some c) := by
  unfold nameEnd; simp; omega

set_option maxRecDepth 100000 in
set_option maxHeartbeats 8000000 in
theorem name_any (s : ByteArray) (w : World) (hs : s.size ≤ 140737488355328) :
    Calls Tryz.prog 73 #[.string s] w fun e w' => e = .returned (.bool (isName s)) ∧ w' = w := by
  go_enter Tryz.func73, Tryz.ntmps73
  go_wp2
  go_loop [3, 4] (fun tc ti => ∃ j c : Nat, j ≤ s.size ∧ c ≤ j ∧ ti = .int .i64 (j : Int) ∧ tc = .int .i64 (c : Int) ∧ isName s = nameEnd (nameAt s j c)) (fun _ ti => s.size - (intOf ti).toNat)
  case atStart => exact ⟨0, 0, by omega, by omega, rfl, rfl, rfl⟩
  case round =>
    obtain ⟨j, c, hj, hc, rfl, rfl, hR⟩ := hrel
    have HR : Hid (isName s = nameEnd (nameAt s j c)) := hR
    clear hR
    by_cases hlt : j < s.size
    · by_cases h0 : (chr s j).1 = 0
      · have h2 : (chr s j).2 = 0 := by
          rcases chr_bd s j hlt with h | h
          · rw [h]
          · omega
        go_wp2_with (go_at_call 106; refine (chr_any s j _ hs hlt).mono ?_; rintro e w' ⟨rfl, rfl⟩)
        go_ret
        exact ⟨ret_bool (by rw [HR.out, nameAt_bad s j c hlt h0]; rfl), rfl⟩
      · have hp := chrN_pos s j hlt h0
        obtain ⟨hp1, hp2, hp3, hp4, hp5, hp6⟩ := hp
        have HP : Hid (((chrN s j : Nat) : Int) = (chr s j).1) := hp1
        have hq1 : 1 ≤ (chr s j).1 := by omega
        have hq2 : (chr s j).1 ≤ 4 := by omega
        have hq : ((chr s j).1 == 0) = false := by simpa using h0
        clear hp1
        rcases name_ways (chr s j).2 j hp5 hp6 with hw | hw
        · have HI : Hid (isName s = nameEnd (nameAt s (j + chrN s j) (c + 1))) := by
            rw [HR.out, nameAt_next s j c hlt h0 (name_in _ _ (by simp only [beq_eq_false_iff_ne, ne_eq] at hw; omega))]; rfl
          rcases hw with ⟨h, h'⟩ | ⟨h, h', hx⟩ | ⟨h, h', hx⟩ | ⟨h, h', hz, hx⟩
          all_goals
            go_wp2_with (go_at_call 106; refine (chr_any s j _ hs hlt).mono ?_; rintro e w' ⟨rfl, rfl⟩)
            go_round
            case rel => have e := HP.out; exact ⟨j + chrN s j, c + 1, by omega, by omega, by go_num, by go_num, HI.out⟩
            case measure => have e := HP.out; simp [intOf]; omega
        · have HI : Hid (false = isName s) := by
            rw [HR.out, nameAt_not s j c hlt h0 (name_out _ _ (by simp only [beq_iff_eq] at hw; omega))]; rfl
          rcases hw with ⟨h, h', hz, hx⟩ | ⟨h, h', hx⟩ | ⟨h, h', hx⟩ | ⟨h, h', hx⟩ | ⟨h, h', hx⟩ | ⟨h, h', hx⟩
          all_goals
            go_wp2_with (go_at_call 106; refine (chr_any s j _ hs hlt).mono ?_; rintro e w' ⟨rfl, rfl⟩)
          all_goals first
            | (exfalso; omega)
            | (exfalso; rename_i hh; simp only [Bool.not_eq_false', decide_eq_true_eq] at hh; omega)
            | (go_ret; exact ⟨ret_bool HI.out, rfl⟩)
    · have HF : Hid (isName s = nameEnd (some c)) := by rw [HR.out, nameAt_end s j c hlt]; rfl
      by_cases h1 : 1 ≤ c
      · go_wp2
        go_ret
        exact ⟨ret_bool (by rw [HF.out]; exact nameEnd_yes c h1), rfl⟩
      · go_wp2
        go_ret
        exact ⟨ret_bool (by rw [HF.out]; exact nameEnd_no c h1), rfl⟩

end Go.Proofs.YtfpgjkbjbbgciaaGreatDoor

namespace Go.Proofs.YtfpgjkbjbbgciaaGreatDoor.Sp

theorem get_bt (s : ByteArray) (j : Nat) : bt s j = ((s.get! j).toNat : Int) := by
  unfold bt ByteArray.get!
  cases h : s.data[j]? with
  | none =>
    have : ¬ j < s.data.size := by
      intro hj; rw [Array.getElem?_eq_getElem hj] at h; cases h
    simp [getElem!_def, h]
    rfl
  | some v => simp [getElem!_def, h]

theorem conts1 (s : ByteArray) (i : Nat) (v : Int) : conts s i 1 v = if i < s.size ∧ 128 ≤ bt s i ∧ bt s i ≤ 191 then some (64 * v + bt s i - 128) else none := rfl
theorem conts2 (s : ByteArray) (i : Nat) (v : Int) : conts s i 2 v = if i < s.size ∧ 128 ≤ bt s i ∧ bt s i ≤ 191 then (if i + 1 < s.size ∧ 128 ≤ bt s (i + 1) ∧ bt s (i + 1) ≤ 191 then some (64 * (64 * v + bt s i - 128) + bt s (i + 1) - 128) else none) else none := rfl
theorem conts3 (s : ByteArray) (i : Nat) (v : Int) : conts s i 3 v = if i < s.size ∧ 128 ≤ bt s i ∧ bt s i ≤ 191 then (if i + 1 < s.size ∧ 128 ≤ bt s (i + 1) ∧ bt s (i + 1) ≤ 191 then (if i + 1 + 1 < s.size ∧ 128 ≤ bt s (i + 1 + 1) ∧ bt s (i + 1 + 1) ≤ 191 then some (64 * (64 * (64 * v + bt s i - 128) + bt s (i + 1) - 128) + bt s (i + 1 + 1) - 128) else none) else none) else none := rfl
/-- The document's character, of four bytes. -/
def chrB (i z : Nat) (b0 b1 b2 b3 : Int) : Int × Int :=
  if b0 < 128 then (1, b0)
  else if 194 ≤ b0 ∧ b0 < 224 then chrEnd 2 128 (if i + 1 < z ∧ 128 ≤ b1 ∧ b1 ≤ 191 then some (64 * (b0 - 192) + b1 - 128) else none)
  else if 224 ≤ b0 ∧ b0 < 240 then chrEnd 3 2048 (if i + 1 < z ∧ 128 ≤ b1 ∧ b1 ≤ 191 then (if i + 1 + 1 < z ∧ 128 ≤ b2 ∧ b2 ≤ 191 then some (64 * (64 * (b0 - 224) + b1 - 128) + b2 - 128) else none) else none)
  else if 240 ≤ b0 ∧ b0 < 245 then chrEnd 4 65536 (if i + 1 < z ∧ 128 ≤ b1 ∧ b1 ≤ 191 then (if i + 1 + 1 < z ∧ 128 ≤ b2 ∧ b2 ≤ 191 then (if i + 1 + 1 + 1 < z ∧ 128 ≤ b3 ∧ b3 ≤ 191 then some (64 * (64 * (64 * (b0 - 240) + b1 - 128) + b2 - 128) + b3 - 128) else none) else none) else none)
  else (0, 0)
theorem chr_B (s : ByteArray) (i : Nat) : chr s i = chrB i s.size (bt s i) (bt s (i + 1)) (bt s (i + 2)) (bt s (i + 3)) := rfl
set_option maxRecDepth 100000 in
set_option maxHeartbeats 4000000 in
theorem decB (i z b0 b1 b2 b3 : Nat) (h0 : b0 < 256) (h1 : b1 < 256) (h2 : b2 < 256) (h3 : b3 < 256) :
    ((chrB i z b0 b1 b2 b3).1 = 0 → Lib.decodeN (z - i) b0 b1 b2 b3 = (65533, 1)) ∧ (¬ (chrB i z b0 b1 b2 b3).1 = 0 → Lib.decodeN (z - i) b0 b1 b2 b3 = ((chrB i z b0 b1 b2 b3).2.toNat, (chrB i z b0 b1 b2 b3).1.toNat)) := by
  unfold chrB
  split
  · refine ⟨fun h => absurd h (by simp), fun _ => ?_⟩
    unfold Lib.decodeN
    rw [if_pos (by omega)]
    exact Prod.ext (by simp) rfl
  split
  · split
    · by_cases hb : 64 * ((b0 : Int) - 192) + b1 - 128 < 128 ∨ 1114111 < 64 * ((b0 : Int) - 192) + b1 - 128 ∨ (55296 ≤ 64 * ((b0 : Int) - 192) + b1 - 128 ∧ 64 * ((b0 : Int) - 192) + b1 - 128 ≤ 57343)
      · rw [chrEnd, if_pos hb]
        refine ⟨fun _ => ?_, fun h => absurd rfl h⟩
        unfold Lib.decodeN
        repeat' split
        all_goals first | rfl | (exfalso; omega)
      · rw [chrEnd, if_neg hb]
        refine ⟨fun h => absurd h (by simp), fun _ => ?_⟩
        unfold Lib.decodeN
        repeat' split
        all_goals first | (exfalso; omega) | (apply Prod.ext <;> simp only <;> omega)
    · refine ⟨fun _ => ?_, fun h => absurd rfl h⟩
      unfold Lib.decodeN
      repeat' split
      all_goals first | rfl | (exfalso; omega)
  split
  · split
    · split
      · by_cases hb : 64 * (64 * ((b0 : Int) - 224) + b1 - 128) + b2 - 128 < 2048 ∨ 1114111 < 64 * (64 * ((b0 : Int) - 224) + b1 - 128) + b2 - 128 ∨ (55296 ≤ 64 * (64 * ((b0 : Int) - 224) + b1 - 128) + b2 - 128 ∧ 64 * (64 * ((b0 : Int) - 224) + b1 - 128) + b2 - 128 ≤ 57343)
        · rw [chrEnd, if_pos hb]
          refine ⟨fun _ => ?_, fun h => absurd rfl h⟩
          unfold Lib.decodeN
          repeat' split
          all_goals first | rfl | (exfalso; omega)
        · rw [chrEnd, if_neg hb]
          refine ⟨fun h => absurd h (by simp), fun _ => ?_⟩
          unfold Lib.decodeN
          repeat' split
          all_goals first | (exfalso; omega) | (apply Prod.ext <;> simp only <;> omega)
      · refine ⟨fun _ => ?_, fun h => absurd rfl h⟩
        unfold Lib.decodeN
        repeat' split
        all_goals first | rfl | (exfalso; omega)
    · refine ⟨fun _ => ?_, fun h => absurd rfl h⟩
      unfold Lib.decodeN
      repeat' split
      all_goals first | rfl | (exfalso; omega)
  split
  · split
    · split
      · split
        · by_cases hb : 64 * (64 * (64 * ((b0 : Int) - 240) + b1 - 128) + b2 - 128) + b3 - 128 < 65536 ∨ 1114111 < 64 * (64 * (64 * ((b0 : Int) - 240) + b1 - 128) + b2 - 128) + b3 - 128 ∨ (55296 ≤ 64 * (64 * (64 * ((b0 : Int) - 240) + b1 - 128) + b2 - 128) + b3 - 128 ∧ 64 * (64 * (64 * ((b0 : Int) - 240) + b1 - 128) + b2 - 128) + b3 - 128 ≤ 57343)
          · rw [chrEnd, if_pos hb]
            refine ⟨fun _ => ?_, fun h => absurd rfl h⟩
            unfold Lib.decodeN
            repeat' split
            all_goals first | rfl | (exfalso; omega)
          · rw [chrEnd, if_neg hb]
            refine ⟨fun h => absurd h (by simp), fun _ => ?_⟩
            unfold Lib.decodeN
            repeat' split
            all_goals first | (exfalso; omega) | (apply Prod.ext <;> simp only <;> omega)
        · refine ⟨fun _ => ?_, fun h => absurd rfl h⟩
          unfold Lib.decodeN
          repeat' split
          all_goals first | rfl | (exfalso; omega)
      · refine ⟨fun _ => ?_, fun h => absurd rfl h⟩
        unfold Lib.decodeN
        repeat' split
        all_goals first | rfl | (exfalso; omega)
    · refine ⟨fun _ => ?_, fun h => absurd rfl h⟩
      unfold Lib.decodeN
      repeat' split
      all_goals first | rfl | (exfalso; omega)
  · refine ⟨fun _ => ?_, fun h => absurd rfl h⟩
    unfold Lib.decodeN
    repeat' split
    all_goals first | rfl | (exfalso; omega)
/-- The model's decoding is the document's. -/
theorem dec_chr (s : ByteArray) (i : Nat) : ((chr s i).1 = 0 → Utf8.decode s i = (65533, 1)) ∧ (¬ (chr s i).1 = 0 → Utf8.decode s i = ((chr s i).2.toNat, (chr s i).1.toNat)) := by
  rw [chr_B, Lib.decode_at, get_bt s i, get_bt s (i + 1), get_bt s (i + 2), get_bt s (i + 3)]
  exact decB i s.size _ _ _ _ (s.get! i).toNat_lt (s.get! (i + 1)).toNat_lt (s.get! (i + 2)).toNat_lt (s.get! (i + 3)).toNat_lt

end Go.Proofs.YtfpgjkbjbbgciaaGreatDoor.Sp

namespace Go.Proofs.YtfpgjkbjbbgciaaGreatDoor
open Go.RowKit Sp

theorem digit_is (c : Int) : digitB c = decide (48 ≤ c ∧ c ≤ 57) := rfl
set_option maxRecDepth 100000 in
theorem isDigit_any (c : Int) (w : World) : Calls Tryz.prog 163 #[.int .i32 c] w fun e w' => e = .returned (.bool (digitB c)) ∧ w' = w := by
  by_cases h1 : 48 ≤ c
  · by_cases h2 : c ≤ 57
    · have HQ : Hid (true = digitB c) := by unfold Hid; simp [digitB, h1, h2]
      go_enter Tryz.func163, Tryz.ntmps163
      go_wp2
      go_ret
      exact ⟨ret_bool HQ.out, rfl⟩
    · have h3 : 57 < c := by omega
      have HQ : Hid (false = digitB c) := by unfold Hid; simp [digitB]; omega
      go_enter Tryz.func163, Tryz.ntmps163
      go_wp2
      go_ret
      exact ⟨ret_bool HQ.out, rfl⟩
  · have h3 : c < 48 := by omega
    have HQ : Hid (false = digitB c) := by unfold Hid; simp [digitB]; omega
    go_enter Tryz.func163, Tryz.ntmps163
    go_wp2
    go_ret
    exact ⟨ret_bool HQ.out, rfl⟩
def charB (c : Int) : Bool := smallB c || digitB c
theorem char_ways (c : Int) : ((97 ≤ c ∧ c ≤ 122) ∨ (48 ≤ c ∧ c ≤ 57 ∧ digitB c = true) ∨ (95 ≤ c ∧ c ≤ 95 ∧ (c == 95) = true ∧ digitB c = false) ∨ (945 ≤ c ∧ c ≤ 969 ∧ (c == 95) = false ∧ digitB c = false)) ∨
    ((c < 48 ∧ (c == 95) = false ∧ digitB c = false) ∨ (57 < c ∧ c < 95 ∧ (c == 95) = false ∧ digitB c = false) ∨ (95 < c ∧ c < 97 ∧ (c == 95) = false ∧ digitB c = false) ∨ (122 < c ∧ c < 945 ∧ (c == 95) = false ∧ digitB c = false) ∨ (969 < c ∧ (c == 95) = false ∧ digitB c = false)) := by
  by_cases h' : c = 95 <;> simp [h', digitB] <;> omega
set_option maxRecDepth 100000 in
set_option maxHeartbeats 1000000 in
theorem isNameChar_any (c : Int) (w : World) : Calls Tryz.prog 162 #[.int .i32 c] w fun e w' => e = .returned (.bool (charB c)) ∧ w' = w := by
  rcases char_ways c with hw | hw
  · have HQ : Hid (true = charB c) := by
      unfold Hid charB
      rcases hw with h | h | h | h
      · simp [smallB]; omega
      · simp [h.2.2]
      · simp [smallB]; omega
      · simp [smallB]; omega
    rcases hw with ⟨h1, h2⟩ | ⟨h1, h2, h3⟩ | ⟨h1, h2, h3, h4⟩ | ⟨h1, h2, h3, h4⟩
    all_goals
      go_enter Tryz.func162, Tryz.ntmps162
      go_wp2_with (go_at_call 163; refine (isDigit_any c _).mono ?_; rintro e w' ⟨rfl, rfl⟩)
      go_ret
      exact ⟨ret_bool HQ.out, rfl⟩
  · have HQ : Hid (false = charB c) := by
      unfold Hid charB
      rcases hw with h | h | h | h | h
      · rw [h.2.2]; simp [smallB]; omega
      · rw [h.2.2.2]; simp [smallB]; omega
      · rw [h.2.2.2]; simp [smallB]; omega
      · rw [h.2.2.2]; simp [smallB]; omega
      · rw [h.2.2]; simp [smallB]; omega
    rcases hw with ⟨h1, h3, h4⟩ | ⟨h1, h2, h3, h4⟩ | ⟨h1, h2, h3, h4⟩ | ⟨h1, h2, h3, h4⟩ | ⟨h1, h3, h4⟩
    all_goals
      go_enter Tryz.func162, Tryz.ntmps162
      go_wp2_with (go_at_call 163; refine (isDigit_any c _).mono ?_; rintro e w' ⟨rfl, rfl⟩)
    all_goals first
      | (exfalso; omega)
      | (exfalso; rename_i hh; simp only [Bool.not_eq_false', decide_eq_true_eq, beq_iff_eq] at hh; omega)
      | (go_ret; exact ⟨ret_bool (by first | exact HQ.out | (rw [← HQ.out]; simp; omega)), rfl⟩)

/-- What the range over a string hands out. -/
theorem next_bad (w : World) (k : Nat) (s : ByteArray) (pos : Nat) (hk : w.heap[k]? = some (.stringIter s pos)) (h : pos < s.size) (h0 : (chr s pos).1 = 0) (ty : TypeId) :
    (Instr.next (.pointer (some ⟨k, 0, none⟩)) true ty).run Tryz.prog w = .ok (.tuple #[.bool true, .int .i64 pos, .int .i32 65533]) (w.iterAt k s (pos + 1)) := by
  have e := (dec_chr s pos).1 h0
  have r := Lib.run_next_any_at (P := Tryz.prog) w k s pos ty hk h
  rw [e] at r
  exact r
theorem next_good (w : World) (k : Nat) (s : ByteArray) (pos : Nat) (hk : w.heap[k]? = some (.stringIter s pos)) (h : pos < s.size) (h0 : ¬ (chr s pos).1 = 0) (ty : TypeId) :
    (Instr.next (.pointer (some ⟨k, 0, none⟩)) true ty).run Tryz.prog w = .ok (.tuple #[.bool true, .int .i64 pos, .int .i32 (chr s pos).2]) (w.iterAt k s (pos + chrN s pos)) := by
  have e := (dec_chr s pos).2 h0
  have p := chrN_pos s pos h h0
  have r := Lib.run_next_any_at (P := Tryz.prog) w k s pos ty hk h
  rw [e] at r
  have e2 : (((chr s pos).2.toNat : Nat) : Int) = (chr s pos).2 := by omega
  simp only [e2] at r
  exact r

set_option maxRecDepth 100000 in
set_option maxHeartbeats 2000000 in
theorem cname_any (s : ByteArray) (w : World) (hs : s.size ≤ 1048576) :
    Calls Tryz.prog 147 #[.string s] w fun e w' => e = .returned (.bool (isName s)) ∧ Below w.heap.size w w' := by
  have hk0 : (w.iter s 0).heap[w.heap.size]? = some (.stringIter s 0) := World.iter_heap w s 0
  have hb0 : Below w.heap.size w (w.iter s 0) := (Below.refl _ w).alloc (Nat.le_refl _) _
  go_enter Tryz.func147, Tryz.ntmps147
  go_wp2
  go_loopw [3] (fun tc wr => ∃ pos c : Nat, pos ≤ s.size ∧ c ≤ pos ∧ (c = 0 ∧ pos = 0 ∨ 1 ≤ c ∧ 1 ≤ pos) ∧ tc = .int .i64 (c : Int) ∧ wr.heap[w.heap.size]? = some (.stringIter s pos) ∧ Below w.heap.size w wr ∧ isName s = nameEnd (nameAt s pos c)) (fun _ wr => s.size - wr.iterPos w.heap.size)
  case atStart => exact ⟨0, 0, by omega, by omega, .inl ⟨rfl, rfl⟩, rfl, hk0, hb0, rfl⟩
  case round =>
    obtain ⟨pos, c, hp, hc, hcp, rfl, hk, hnx, hR⟩ := hrel
    have HR : Hid (isName s = nameEnd (nameAt s pos c)) := hR
    clear hR hk0 hb0
    have hmu : wr.iterPos w.heap.size = pos := by simp [World.iterPos, hk]
    have HMU : Hid (wr.iterPos w.heap.size = pos) := hmu
    clear hmu
    by_cases hlt : pos < s.size
    · by_cases h0 : (chr s pos).1 = 0
      · have hnext := next_bad wr w.heap.size s pos hk hlt h0
        have hb1 := Lib.below_iterAt hnx (Nat.le_refl _) s (pos + 1)
        have HQ : Hid (false = isName s) := by unfold Hid; rw [HR.out, nameAt_bad s pos c hlt h0]; rfl
        have hch : charB 65533 = false := by decide
        generalize wr.iterAt w.heap.size s (pos + 1) = W1 at hnext hb1
        go_wp2_with (first | (go_at_call 162; refine (isNameChar_any _ _).mono ?_; rintro e w' ⟨rfl, rfl⟩) | (go_at_call 163; refine (isDigit_any _ _).mono ?_; rintro e w' ⟨rfl, rfl⟩))
        go_ret
        exact ⟨ret_bool HQ.out, hb1⟩
      · have hnext := next_good wr w.heap.size s pos hk hlt h0
        have hb1 := Lib.below_iterAt hnx (Nat.le_refl _) s (pos + chrN s pos)
        have hk1 := Lib.iterAt_heap wr w.heap.size s pos (pos + chrN s pos) hk
        have hpp := chrN_pos s pos hlt h0
        generalize wr.iterAt w.heap.size s (pos + chrN s pos) = W1 at hnext hb1 hk1
        have hmu1 : W1.iterPos w.heap.size = pos + chrN s pos := by simp [World.iterPos, hk1]
        have HMU1 : Hid (W1.iterPos w.heap.size = pos + chrN s pos) := hmu1
        obtain ⟨hp1, hp2, hp3, hp4, hp5, hp6⟩ := hpp
        clear hmu1 hp1
        cases hch : charB (chr s pos).2 with
        | false =>
          have HQ : Hid (false = isName s) := by
            unfold Hid; rw [HR.out, nameAt_not s pos c hlt h0 (by intro hh; simp [charB] at hch; simp [hch.1, hch.2] at hh)]; rfl
          go_wp2_with (first | (go_at_call 162; refine (isNameChar_any _ _).mono ?_; rintro e w' ⟨rfl, rfl⟩) | (go_at_call 163; refine (isDigit_any _ _).mono ?_; rintro e w' ⟨rfl, rfl⟩))
          go_ret
          exact ⟨ret_bool HQ.out, hb1⟩
        | true =>
          by_cases hc0 : 1 ≤ c
          · have hz : ((c : Int) == 0) = false := by simp; omega
            have HQ : Hid (isName s = nameEnd (nameAt s (pos + chrN s pos) (c + 1))) := by
              unfold Hid; rw [HR.out, nameAt_next s pos c hlt h0 (by simp [charB] at hch; rcases hch with h | h; exact .inl h; exact .inr ⟨h, by omega⟩)]
            go_wp2_with (first | (go_at_call 162; refine (isNameChar_any _ _).mono ?_; rintro e w' ⟨rfl, rfl⟩) | (go_at_call 163; refine (isDigit_any _ _).mono ?_; rintro e w' ⟨rfl, rfl⟩))
            go_roundw
            case rel => exact ⟨pos + chrN s pos, c + 1, by omega, by omega, .inr ⟨by omega, by omega⟩, by go_num, hk1, hb1, HQ.out⟩
            case measure => rw [HMU.out, HMU1.out]; omega
          · have hz : ((c : Int) == 0) = true := by simp; omega
            have hpos0 : Hid (pos = 0) := by unfold Hid; omega
            cases hd : digitB (chr s pos).2 with
            | true =>
              have HQ : Hid (false = isName s) := by
                unfold Hid; rw [HR.out, nameAt_not s pos c hlt h0 (by
                  intro hh
                  rcases hh with h | ⟨_, h⟩
                  · simp [smallB] at h; simp [digitB] at hd; omega
                  · exact h hpos0.out)]; rfl
              go_wp2_with (first | (go_at_call 162; refine (isNameChar_any _ _).mono ?_; rintro e w' ⟨rfl, rfl⟩) | (go_at_call 163; refine (isDigit_any _ _).mono ?_; rintro e w' ⟨rfl, rfl⟩))
              go_ret
              exact ⟨ret_bool HQ.out, hb1⟩
            | false =>
              have HQ : Hid (isName s = nameEnd (nameAt s (pos + chrN s pos) (c + 1))) := by
                unfold Hid; rw [HR.out, nameAt_next s pos c hlt h0 (by simp [charB, hd] at hch; exact .inl hch)]
              go_wp2_with (first | (go_at_call 162; refine (isNameChar_any _ _).mono ?_; rintro e w' ⟨rfl, rfl⟩) | (go_at_call 163; refine (isDigit_any _ _).mono ?_; rintro e w' ⟨rfl, rfl⟩))
              go_roundw
              case rel => exact ⟨pos + chrN s pos, c + 1, by omega, by omega, .inr ⟨by omega, by omega⟩, by go_num, hk1, hb1, HQ.out⟩
              case measure => rw [HMU.out, HMU1.out]; omega
    · have hnext : ∀ ty, (Instr.next (.pointer (some ⟨w.heap.size, 0, none⟩)) true ty).run Tryz.prog wr = .ok (.tuple #[.bool false]) wr := fun ty => Lib.run_next_end_at wr w.heap.size s pos ty hk hlt
      have HF : Hid (isName s = nameEnd (some c)) := by unfold Hid; rw [HR.out, nameAt_end s pos c hlt]
      by_cases h1 : 1 ≤ c
      · go_wp2
        go_ret
        exact ⟨ret_bool (by rw [HF.out]; exact nameEnd_yes c h1), hnx⟩
      · go_wp2
        go_ret
        exact ⟨ret_bool (by rw [HF.out]; exact nameEnd_no c h1), hnx⟩

end Go.Proofs.YtfpgjkbjbbgciaaGreatDoor

namespace Go.Proofs.YtfpgjkbjbbgciaaGreatDoor.Sp

/-- The least of the numbers, behind a name. -/
def least : Int := -9223372036854775808
def numBad (n d : Int) : Bool := decide (d < 0) || decide (9 < d) || decide (n < (least + d).tdiv 10)
/-- The number that the digits from a place on are, kept below nought. -/
def numAt (s : ByteArray) (i : Nat) (n : Int) : Option Int :=
  if i < s.size then
    if numBad n (bt s i - 48) = true then none else numAt s (i + 1) (10 * n - (bt s i - 48))
  else some n
termination_by s.size - i
theorem numAt_end (s : ByteArray) (i : Nat) (n : Int) (h : ¬ i < s.size) : numAt s i n = some n := by
  rw [numAt, if_neg h]
theorem numAt_bad (s : ByteArray) (i : Nat) (n : Int) (h : i < s.size) (h' : numBad n (bt s i - 48) = true) : numAt s i n = none := by
  rw [numAt, if_pos h, if_pos h']
theorem numAt_next (s : ByteArray) (i : Nat) (n : Int) (h : i < s.size) (h' : ¬ numBad n (bt s i - 48) = true) : numAt s i n = numAt s (i + 1) (10 * n - (bt s i - 48)) := by
  rw [numAt, if_pos h, if_neg h']
def numEnd (minus : Bool) : Option Int → Int × Bool
  | none => (0, false)
  | some n => if minus = true then (n, true) else (if n = least then least else -n, decide (least < n))
def minusB (s : ByteArray) : Bool := decide (0 < s.size) && decide (bt s 0 = 45)
def numOf (s : ByteArray) : Int × Bool :=
  if minusB s = true then (if s.size = 1 then (0, false) else numEnd true (numAt s 1 0))
  else (if s.size = 0 then (0, false) else numEnd false (numAt s 0 0))
theorem tdiv_low (d : Int) (h : d ≤ 9) : (least + d).tdiv 10 = -((9223372036854775808 - d) / 10) := by
  have e : least + d = -(9223372036854775808 - d) := by unfold least; omega
  rw [e, Int.neg_tdiv, Int.tdiv_eq_ediv_of_nonneg (by omega)]
theorem num_step (n d : Int) (h : ¬ numBad n d = true) (h0 : least ≤ n) (h1 : n ≤ 0) : least ≤ 10 * n - d ∧ 10 * n - d ≤ 0 ∧ 0 ≤ d ∧ d ≤ 9 := by
  simp [numBad] at h
  obtain ⟨⟨h2, h3⟩, h4⟩ := h
  rw [tdiv_low d h3] at h4
  unfold least at *
  omega

end Go.Proofs.YtfpgjkbjbbgciaaGreatDoor.Sp
