import Derived.Test.YtfpgjkbjbbgciaaGreatDoorMa07
import Derived.Test.YtfpgjkbjbbgciaaGreatDoorMa14
namespace Go.Proofs.YtfpgjkbjbbgciaaGreatDoor
open Go.RowKit Sp

theorem flush_no (now : ByteArray) (l : List ByteArray) (h : now.size = 0) : flush now l = l := by unfold flush; rw [if_pos h]
theorem flush_yes (now : ByteArray) (l : List ByteArray) (h : ¬ now.size = 0) : flush now l = l ++ [now] := by unfold flush; rw [if_neg h]
theorem byte_ways (b : Int) : ((b != 32) = true ∧ (b != 9) = true ∧ (b != 59) = true ∧ ¬ (b = 32 ∨ b = 9 ∨ b = 59)) ∨ ((b != 32) = false ∧ (b == 59) = false ∧ b = 32) ∨ ((b != 32) = true ∧ (b != 9) = false ∧ (b == 59) = false ∧ b = 9) ∨ ((b != 32) = true ∧ (b != 9) = true ∧ (b != 59) = false ∧ (b == 59) = true ∧ b = 59) := by
  by_cases h1 : b = 32
  · subst h1; simp
  · by_cases h2 : b = 9
    · subst h2; simp
    · by_cases h3 : b = 59
      · subst h3; simp
      · left; simp [h1, h2, h3]
theorem size_step (now s : ByteArray) (k : Nat) (h : k < s.size) : (now ++ s.extract k (k + 1)).size = now.size + 1 := by
  rw [ByteArray.size_append, ByteArray.size_extract]; omega
theorem size_empty : ByteArray.empty.size = 0 := rfl

set_option maxRecDepth 100000 in
set_option maxHeartbeats 4000000 in
theorem words_any (s : ByteArray) (w : World) (hs : s.size ≤ 1048576) :
    Calls Tryz.prog 72 #[.string s] w fun e w' => ∃ v, e = .returned v ∧ w'.ownsRow w.heap.size 9 1 v (words s).length ((words s).map Value.string) ∧ Below w.heap.size w w' := by
  obtain ⟨i0, hi, hz0, hz1, hz2⟩ := info_parts Tryz.info9
  go_enter Tryz.func72, Tryz.ntmps72
  go_wp2
  go_loopw [3, 4, 5] (fun v tn ti wr => ∃ (k : Nat) (now : ByteArray) (acc : List ByteArray), now.size ≤ k ∧ acc.length ≤ k ∧ ti = .int .i64 (k : Int) ∧ tn = .string now ∧ wr.ownsRow w.heap.size 9 1 v acc.length (acc.map Value.string) ∧ Below w.heap.size w wr ∧ (k ≤ s.size ∧ words s = wordsAt s k now acc ∨ k = s.size + 1 ∧ words s = acc)) (fun _ _ ti _ => s.size + 1 - (intOf ti).toNat)
  case atStart => exact ⟨0, ByteArray.empty, [], by simp, by simp, rfl, rfl, World.ownsRow_nil _ _ _ _, Below.refl _ _, .inl ⟨by omega, rfl⟩⟩
  case round =>
    obtain ⟨k, now, acc, hn, hacc, rfl, rfl, hown, hnx, hR⟩ := hrel
    have HR : Hid (k ≤ s.size ∧ words s = wordsAt s k now acc ∨ k = s.size + 1 ∧ words s = acc) := hR
    clear hR
    have hsz := hnx.size
    by_cases hlt : k < s.size
    · have HW : Hid (words s = wordsAt s k now acc) := by rcases HR.out with h | h; exact h.2; omega
      clear HR
      have hc0 : 0 ≤ (s[k].toNat : Int) := by omega
      have hc1 : (s[k].toNat : Int) ≤ 255 := by have := s[k].toNat_lt; omega
      have HE : Hid ((s[k].toNat : Int) = bt s k) := bt_eq s k hlt
      rcases byte_ways (s[k].toNat : Int) with ⟨h1, h2, h3, h4⟩ | ⟨h1, h3, h4⟩ | ⟨h1, h2, h3, h4⟩ | ⟨h1, h2, h3, h5, h4⟩
      · have HF : Hid (words s = wordsAt s (k + 1) (now ++ s.extract k (k + 1)) acc) := by
          rw [HW.out, wordsAt_on s k now acc hlt (by have := HE.out; omega)]; rfl
        have hnow := size_step now s k hlt
        have HN : Hid ((now ++ s.extract k (k + 1)).size = now.size + 1) := hnow
        clear hnow h4
        go_wp2
        go_roundw
        case rel => exact ⟨k + 1, now ++ s.extract k (k + 1), acc, by have := HN.out; omega, by omega, by go_num, rfl, hown, hnx, .inl ⟨by omega, HF.out⟩⟩
        case measure => simp [intOf]; omega
      · have H4 : Hid ((s[k].toNat : Int) = 32) := h4
        clear h4
        by_cases hz : now.size = 0
        · have he := isEmpty_yes now hz
          have HF : Hid (words s = wordsAt s (k + 1) ByteArray.empty acc) := by
            rw [HW.out, wordsAt_cut s k now acc hlt (by have := HE.out; have := H4.out; omega), flush_no now acc hz]; rfl
          go_wp2
          go_roundw
          case rel => exact ⟨k + 1, ByteArray.empty, acc, by simp, by omega, by go_num, rfl, hown, hnx, .inl ⟨by omega, HF.out⟩⟩
          case measure => simp [intOf]; omega
        · have he := isEmpty_no now hz
          have HF : Hid (words s = wordsAt s (k + 1) ByteArray.empty (acc ++ [now])) := by
            rw [HW.out, wordsAt_cut s k now acc hlt (by have := HE.out; have := H4.out; omega), flush_yes now acc hz]; rfl
          go_wp2_with (at_builtin; refine wpList_append_own _ rfl _ _ 67 rfl w.heap.size 9 i0 (.string ByteArray.empty) 1 16 Tryz.under67 hi hz0 hz1 hz2 rfl (by decide) _ _ _ rfl (hown.alloc _) ⟨wr.heap.size, 0, none⟩ 1 1 [.string now] rfl rfl (cell_one_new _ _ _) (one_cell _) (by unfold maxLen; omega) (by omega) (by simp; omega) ?_)
          intro v' w1 hown' hgrow _
          have hb1 := own_grow hown hsz hnx hgrow
          clear hgrow
          go_wp2
          go_roundw
          case rel => exact ⟨k + 1, ByteArray.empty, acc ++ [now], by simp, by simp; omega, by go_num, rfl, by simpa using hown', hb1, .inl ⟨by omega, HF.out⟩⟩
          case measure => simp [intOf]; omega
      · have H4 : Hid ((s[k].toNat : Int) = 9) := h4
        clear h4
        by_cases hz : now.size = 0
        · have he := isEmpty_yes now hz
          have HF : Hid (words s = wordsAt s (k + 1) ByteArray.empty acc) := by
            rw [HW.out, wordsAt_cut s k now acc hlt (by have := HE.out; have := H4.out; omega), flush_no now acc hz]; rfl
          go_wp2
          go_roundw
          case rel => exact ⟨k + 1, ByteArray.empty, acc, by simp, by omega, by go_num, rfl, hown, hnx, .inl ⟨by omega, HF.out⟩⟩
          case measure => simp [intOf]; omega
        · have he := isEmpty_no now hz
          have HF : Hid (words s = wordsAt s (k + 1) ByteArray.empty (acc ++ [now])) := by
            rw [HW.out, wordsAt_cut s k now acc hlt (by have := HE.out; have := H4.out; omega), flush_yes now acc hz]; rfl
          go_wp2_with (at_builtin; refine wpList_append_own _ rfl _ _ 67 rfl w.heap.size 9 i0 (.string ByteArray.empty) 1 16 Tryz.under67 hi hz0 hz1 hz2 rfl (by decide) _ _ _ rfl (hown.alloc _) ⟨wr.heap.size, 0, none⟩ 1 1 [.string now] rfl rfl (cell_one_new _ _ _) (one_cell _) (by unfold maxLen; omega) (by omega) (by simp; omega) ?_)
          intro v' w1 hown' hgrow _
          have hb1 := own_grow hown hsz hnx hgrow
          clear hgrow
          go_wp2
          go_roundw
          case rel => exact ⟨k + 1, ByteArray.empty, acc ++ [now], by simp, by simp; omega, by go_num, rfl, by simpa using hown', hb1, .inl ⟨by omega, HF.out⟩⟩
          case measure => simp [intOf]; omega
      · have H4 : Hid ((s[k].toNat : Int) = 59) := h4
        clear h4
        by_cases hz : now.size = 0
        · have he := isEmpty_yes now hz
          have HF : Hid (words s = acc) := by
            rw [HW.out, wordsAt_stop s k now acc hlt (by have := HE.out; have := H4.out; omega), flush_no now acc hz]; rfl
          go_wp2
          go_ret
          exact ⟨_, rfl, by rw [HF.out]; exact hown, hnx⟩
        · have he := isEmpty_no now hz
          have HF : Hid (words s = acc ++ [now]) := by
            rw [HW.out, wordsAt_stop s k now acc hlt (by have := HE.out; have := H4.out; omega), flush_yes now acc hz]; rfl
          go_wp2_with (at_builtin; refine wpList_append_own _ rfl _ _ 67 rfl w.heap.size 9 i0 (.string ByteArray.empty) 1 16 Tryz.under67 hi hz0 hz1 hz2 rfl (by decide) _ _ _ rfl (hown.alloc _) ⟨wr.heap.size, 0, none⟩ 1 1 [.string now] rfl rfl (cell_one_new _ _ _) (one_cell _) (by unfold maxLen; omega) (by omega) (by simp; omega) ?_)
          intro v' w1 hown' hgrow _
          have hb1 := own_grow hown hsz hnx hgrow
          clear hgrow
          go_wp2
          go_ret
          exact ⟨_, rfl, by rw [HF.out]; simpa using hown', hb1⟩
    · by_cases heq : k = s.size
      · have HW : Hid (words s = wordsAt s k now acc) := by rcases HR.out with h | h; exact h.2; omega
        clear HR
        have HQ : Hid (k = s.size) := heq
        have hle : k ≤ s.size := by omega
        clear heq
        by_cases hz : now.size = 0
        · have he := isEmpty_yes now hz
          have HF : Hid (words s = acc) := by
            rw [HW.out, wordsAt_end s k now acc hlt, flush_no now acc hz]; rfl
          go_wp2
          go_roundw
          case rel => exact ⟨k + 1, ByteArray.empty, acc, by simp, by omega, by go_num, rfl, hown, hnx, .inr ⟨by have := HQ.out; omega, HF.out⟩⟩
          case measure => simp [intOf]; omega
        · have he := isEmpty_no now hz
          have HF : Hid (words s = acc ++ [now]) := by
            rw [HW.out, wordsAt_end s k now acc hlt, flush_yes now acc hz]; rfl
          go_wp2_with (at_builtin; refine wpList_append_own _ rfl _ _ 67 rfl w.heap.size 9 i0 (.string ByteArray.empty) 1 16 Tryz.under67 hi hz0 hz1 hz2 rfl (by decide) _ _ _ rfl (hown.alloc _) ⟨wr.heap.size, 0, none⟩ 1 1 [.string now] rfl rfl (cell_one_new _ _ _) (one_cell _) (by unfold maxLen; omega) (by omega) (by simp; omega) ?_)
          intro v' w1 hown' hgrow _
          have hb1 := own_grow hown hsz hnx hgrow
          clear hgrow
          go_wp2
          go_roundw
          case rel => exact ⟨k + 1, ByteArray.empty, acc ++ [now], by simp, by simp; omega, by go_num, rfl, by simpa using hown', hb1, .inr ⟨by have := HQ.out; omega, HF.out⟩⟩
          case measure => simp [intOf]; omega
      · have hgt : s.size < k := by omega
        have HF : Hid (words s = acc) := by
          rcases HR.out with h | h
          · omega
          · exact h.2
        clear HR
        go_wp2
        go_ret
        exact ⟨_, rfl, by rw [HF.out]; exact hown, hnx⟩

end Go.Proofs.YtfpgjkbjbbgciaaGreatDoor
