import Derived.Test.YtfpgjkbjbbgciaaGreatDoorMa02
namespace Go.Proofs.YtfpgjkbjbbgciaaGreatDoor
open Go.RowKit Sp

theorem small_yes (c : Int) (h : 97 ≤ c ∧ c ≤ 122 ∨ c = 95 ∨ 945 ≤ c ∧ c ≤ 969) : smallB c = true := by simpa [smallB] using h
theorem small_no (c : Int) (h : ¬ (97 ≤ c ∧ c ≤ 122 ∨ c = 95 ∨ 945 ≤ c ∧ c ≤ 969)) : ¬ smallB c = true := by simpa [smallB] using h
theorem digit_yes (c : Int) (h : 48 ≤ c ∧ c ≤ 57) : digitB c = true := by simpa [digitB] using h
theorem digit_no (c : Int) (h : ¬ (48 ≤ c ∧ c ≤ 57)) : ¬ digitB c = true := by simpa [digitB] using h

theorem name_in (c : Int) (j : Nat) (h : 97 ≤ c ∧ c ≤ 122 ∨ 95 ≤ c ∧ c ≤ 95 ∨ 945 ≤ c ∧ c ≤ 969 ∨ (48 ≤ c ∧ c ≤ 57) ∧ ¬ j = 0) : smallB c = true ∨ digitB c = true ∧ ¬ j = 0 := by
  rcases h with h | h | h | ⟨h, h'⟩
  · exact .inl (small_yes c (by omega))
  · exact .inl (small_yes c (by omega))
  · exact .inl (small_yes c (by omega))
  · exact .inr ⟨digit_yes c h, h'⟩
theorem name_out (c : Int) (j : Nat) (h : ¬ (97 ≤ c ∧ c ≤ 122 ∨ 95 ≤ c ∧ c ≤ 95 ∨ 945 ≤ c ∧ c ≤ 969 ∨ (48 ≤ c ∧ c ≤ 57) ∧ ¬ j = 0)) : ¬ (smallB c = true ∨ digitB c = true ∧ ¬ j = 0) := by
  intro hh
  rcases hh with h1 | ⟨h1, h2⟩
  · exact absurd h1 (small_no c (by omega))
  · exact absurd h1 (digit_no c (by omega))
theorem name_ways (c : Int) (j : Nat) (h0 : 0 ≤ c) (h1 : c ≤ 1114111) : ((97 ≤ c ∧ c ≤ 122) ∨ (95 ≤ c ∧ c ≤ 95 ∧ (c == 95) = true) ∨ (945 ≤ c ∧ c ≤ 969 ∧ (c == 95) = false) ∨ (48 ≤ c ∧ c ≤ 57 ∧ ((j : Int) == 0) = false ∧ (c == 95) = false)) ∨
    ((48 ≤ c ∧ c ≤ 57 ∧ ((j : Int) == 0) = true ∧ (c == 95) = false) ∨ (0 ≤ c ∧ c < 48 ∧ (c == 95) = false) ∨ (57 < c ∧ c < 95 ∧ (c == 95) = false) ∨ (95 < c ∧ c < 97 ∧ (c == 95) = false) ∨ (122 < c ∧ c < 945 ∧ (c == 95) = false) ∨ (969 < c ∧ c ≤ 1114111 ∧ (c == 95) = false)) := by
  by_cases h : (j : Int) = 0
  · by_cases h' : c = 95 <;> simp [h, h'] <;> omega
  · by_cases h' : c = 95 <;> simp [h'] <;> omega
theorem nameEnd_yes (c : Nat) (h : 1 ≤ c) : decide ((c : Int) ≤ 12) = nameEnd (some c) := by
  unfold nameEnd
  by_cases h' : c ≤ 12
  · simp [h, h']; omega
  · simp [h']; omega
theorem nameEnd_no (c : Nat) (h : ¬ 1 ≤ c) : false = nameEnd (some c) := by
  unfold nameEnd; simp; omega

set_option maxRecDepth 100000 in
set_option maxHeartbeats 8000000 in
theorem name_any (s : ByteArray) (w : World) (hs : s.size ≤ 140737488355328) :
    Calls Tryz.prog 73 #[.string s] w fun e w' => e = .returned (.bool (isName s)) ∧ w' = w := by
  go_enter Tryz.func73, Tryz.ntmps73
  go_wp2
  go_loop [3, 4] (fun tc ti => ∃ j c : Nat, j ≤ s.size ∧ c ≤ j ∧ ti = .int .i64 (j : Int) ∧ tc = .int .i64 (c : Int) ∧ isName s = nameEnd (nameAt s j c)) (fun _ ti => s.size - (intOf ti).toNat)
  case atStart => exact ⟨0, 0, by omega, by omega, rfl, rfl, rfl⟩
  case round =>
    obtain ⟨j, c, hj, hc, rfl, rfl, hR⟩ := hrel
    have HR : Hid (isName s = nameEnd (nameAt s j c)) := hR
    clear hR
    by_cases hlt : j < s.size
    · by_cases h0 : (chr s j).1 = 0
      · have h2 : (chr s j).2 = 0 := by
          rcases chr_bd s j hlt with h | h
          · rw [h]
          · omega
        go_wp2_with (go_at_call 106; refine (chr_any s j _ hs hlt).mono ?_; rintro e w' ⟨rfl, rfl⟩)
        go_ret
        exact ⟨ret_bool (by rw [HR.out, nameAt_bad s j c hlt h0]; rfl), rfl⟩
      · have hp := chrN_pos s j hlt h0
        obtain ⟨hp1, hp2, hp3, hp4, hp5, hp6⟩ := hp
        have HP : Hid (((chrN s j : Nat) : Int) = (chr s j).1) := hp1
        have hq1 : 1 ≤ (chr s j).1 := by omega
        have hq2 : (chr s j).1 ≤ 4 := by omega
        have hq : ((chr s j).1 == 0) = false := by simpa using h0
        clear hp1
        rcases name_ways (chr s j).2 j hp5 hp6 with hw | hw
        · have HI : Hid (isName s = nameEnd (nameAt s (j + chrN s j) (c + 1))) := by
            rw [HR.out, nameAt_next s j c hlt h0 (name_in _ _ (by simp only [beq_eq_false_iff_ne, ne_eq] at hw; omega))]; rfl
          rcases hw with ⟨h, h'⟩ | ⟨h, h', hx⟩ | ⟨h, h', hx⟩ | ⟨h, h', hz, hx⟩
          all_goals
            go_wp2_with (go_at_call 106; refine (chr_any s j _ hs hlt).mono ?_; rintro e w' ⟨rfl, rfl⟩)
            go_round
            case rel => have e := HP.out; exact ⟨j + chrN s j, c + 1, by omega, by omega, by go_num, by go_num, HI.out⟩
            case measure => have e := HP.out; simp [intOf]; omega
        · have HI : Hid (false = isName s) := by
            rw [HR.out, nameAt_not s j c hlt h0 (name_out _ _ (by simp only [beq_iff_eq] at hw; omega))]; rfl
          rcases hw with ⟨h, h', hz, hx⟩ | ⟨h, h', hx⟩ | ⟨h, h', hx⟩ | ⟨h, h', hx⟩ | ⟨h, h', hx⟩ | ⟨h, h', hx⟩
          all_goals
            go_wp2_with (go_at_call 106; refine (chr_any s j _ hs hlt).mono ?_; rintro e w' ⟨rfl, rfl⟩)
          all_goals first
            | (exfalso; omega)
            | (exfalso; rename_i hh; simp only [Bool.not_eq_false', decide_eq_true_eq] at hh; omega)
            | (go_ret; exact ⟨ret_bool HI.out, rfl⟩)
    · have HF : Hid (isName s = nameEnd (some c)) := by rw [HR.out, nameAt_end s j c hlt]; rfl
      by_cases h1 : 1 ≤ c
      · go_wp2
        go_ret
        exact ⟨ret_bool (by rw [HF.out]; exact nameEnd_yes c h1), rfl⟩
      · go_wp2
        go_ret
        exact ⟨ret_bool (by rw [HF.out]; exact nameEnd_no c h1), rfl⟩

end Go.Proofs.YtfpgjkbjbbgciaaGreatDoor
