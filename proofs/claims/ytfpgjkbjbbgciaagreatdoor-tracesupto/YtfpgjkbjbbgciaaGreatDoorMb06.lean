import Derived.Test.YtfpgjkbjbbgciaaGreatDoorMb02
import Derived.Test.YtfpgjkbjbbgciaaGreatDoorMb05
import Derived.Test.YtfpgjkbjbbgciaaGreatDoorMb04
namespace Go.Proofs.YtfpgjkbjbbgciaaGreatDoor
open Go.RowKit Sp

theorem flush_no (now : ByteArray) (l : List ByteArray) (h : now.size = 0) : flush now l = l := by unfold flush; rw [if_pos h]
theorem flush_yes (now : ByteArray) (l : List ByteArray) (h : ¬ now.size = 0) : flush now l = l ++ [now] := by unfold flush; rw [if_neg h]
theorem byte_ways (b : Int) : ((b != 32) = true ∧ (b != 9) = true ∧ (b != 59) = true ∧ ¬ (b = 32 ∨ b = 9 ∨ b = 59)) ∨ ((b != 32) = false ∧ (b == 59) = false ∧ b = 32) ∨ ((b != 32) = true ∧ (b != 9) = false ∧ (b == 59) = false ∧ b = 9) ∨ ((b != 32) = true ∧ (b != 9) = true ∧ (b != 59) = false ∧ (b == 59) = true ∧ b = 59) := by
  by_cases h1 : b = 32
  · subst h1; simp
  · by_cases h2 : b = 9
    · subst h2; simp
    · by_cases h3 : b = 59
      · subst h3; simp
      · left; simp [h1, h2, h3]
theorem size_step (now s : ByteArray) (k : Nat) (h : k < s.size) : (now ++ s.extract k (k + 1)).size = now.size + 1 := by
  rw [ByteArray.size_append, ByteArray.size_extract]; omega
theorem size_empty : ByteArray.empty.size = 0 := rfl

set_option maxRecDepth 100000 in
set_option maxHeartbeats 4000000 in
theorem words_any (s : ByteArray) (w : World) (hs : s.size ≤ 1048576) :
    Calls Tryz.prog 72 #[.string s] w fun e w' => ∃ v, e = .returned v ∧ w'.ownsRow w.heap.size 9 1 v (words s).length ((words s).map Value.string) ∧ Below w.heap.size w w' := by
  obtain ⟨i0, hi, hz0, hz1, hz2⟩ := info_parts Tryz.info9
  go_enter Tryz.func72, Tryz.ntmps72
  go_wp2
  go_loopw [3, 4, 5] (fun v tn ti wr => ∃ (k : Nat) (now : ByteArray) (acc : List ByteArray), now.size ≤ k ∧ acc.length ≤ k ∧ ti = .int .i64 (k : Int) ∧ tn = .string now ∧ wr.ownsRow w.heap.size 9 1 v acc.length (acc.map Value.string) ∧ Below w.heap.size w wr ∧ (k ≤ s.size ∧ words s = wordsAt s k now acc ∨ k = s.size + 1 ∧ words s = acc)) (fun _ _ ti _ => s.size + 1 - (intOf ti).toNat)
  case atStart => exact ⟨0, ByteArray.empty, [], by simp, by simp, rfl, rfl, World.ownsRow_nil _ _ _ _, Below.refl _ _, .inl ⟨by omega, rfl⟩⟩
  case round =>
    obtain ⟨k, now, acc, hn, hacc, rfl, rfl, hown, hnx, hR⟩ := hrel
    have HR : Hid (k ≤ s.size ∧ words s = wordsAt s k now acc ∨ k = s.size + 1 ∧ words s = acc) := hR
    clear hR
    have hsz := hnx.size
    by_cases hlt : k < s.size
    · have HW : Hid (words s = wordsAt s k now acc) := by rcases HR.out with h | h; exact h.2; omega
      clear HR
      have hc0 : 0 ≤ (s[k].toNat : Int) := by omega
      have hc1 : (s[k].toNat : Int) ≤ 255 := by have := s[k].toNat_lt; omega
      have HE : Hid ((s[k].toNat : Int) = bt s k) := bt_eq s k hlt
      rcases byte_ways (s[k].toNat : Int) with ⟨h1, h2, h3, h4⟩ | ⟨h1, h3, h4⟩ | ⟨h1, h2, h3, h4⟩ | ⟨h1, h2, h3, h5, h4⟩
      · have HF : Hid (words s = wordsAt s (k + 1) (now ++ s.extract k (k + 1)) acc) := by
          rw [HW.out, wordsAt_on s k now acc hlt (by have := HE.out; omega)]; rfl
        have hnow := size_step now s k hlt
        have HN : Hid ((now ++ s.extract k (k + 1)).size = now.size + 1) := hnow
        clear hnow h4
        go_wp2
        go_roundw
        case rel => exact ⟨k + 1, now ++ s.extract k (k + 1), acc, by have := HN.out; omega, by omega, by go_num, rfl, hown, hnx, .inl ⟨by omega, HF.out⟩⟩
        case measure => simp [intOf]; omega
      · have H4 : Hid ((s[k].toNat : Int) = 32) := h4
        clear h4
        by_cases hz : now.size = 0
        · have he := isEmpty_yes now hz
          have HF : Hid (words s = wordsAt s (k + 1) ByteArray.empty acc) := by
            rw [HW.out, wordsAt_cut s k now acc hlt (by have := HE.out; have := H4.out; omega), flush_no now acc hz]; rfl
          go_wp2
          go_roundw
          case rel => exact ⟨k + 1, ByteArray.empty, acc, by simp, by omega, by go_num, rfl, hown, hnx, .inl ⟨by omega, HF.out⟩⟩
          case measure => simp [intOf]; omega
        · have he := isEmpty_no now hz
          have HF : Hid (words s = wordsAt s (k + 1) ByteArray.empty (acc ++ [now])) := by
            rw [HW.out, wordsAt_cut s k now acc hlt (by have := HE.out; have := H4.out; omega), flush_yes now acc hz]; rfl
          go_wp2_with (at_builtin; refine wpList_append_own _ rfl _ _ 67 rfl w.heap.size 9 i0 (.string ByteArray.empty) 1 16 Tryz.under67 hi hz0 hz1 hz2 rfl (by decide) _ _ _ rfl (hown.alloc _) ⟨wr.heap.size, 0, none⟩ 1 1 [.string now] rfl rfl (cell_one_new _ _ _) (one_cell _) (by unfold maxLen; omega) (by omega) (by simp; omega) ?_)
          intro v' w1 hown' hgrow _
          have hb1 := own_grow hown hsz hnx hgrow
          clear hgrow
          go_wp2
          go_roundw
          case rel => exact ⟨k + 1, ByteArray.empty, acc ++ [now], by simp, by simp; omega, by go_num, rfl, by simpa using hown', hb1, .inl ⟨by omega, HF.out⟩⟩
          case measure => simp [intOf]; omega
      · have H4 : Hid ((s[k].toNat : Int) = 9) := h4
        clear h4
        by_cases hz : now.size = 0
        · have he := isEmpty_yes now hz
          have HF : Hid (words s = wordsAt s (k + 1) ByteArray.empty acc) := by
            rw [HW.out, wordsAt_cut s k now acc hlt (by have := HE.out; have := H4.out; omega), flush_no now acc hz]; rfl
          go_wp2
          go_roundw
          case rel => exact ⟨k + 1, ByteArray.empty, acc, by simp, by omega, by go_num, rfl, hown, hnx, .inl ⟨by omega, HF.out⟩⟩
          case measure => simp [intOf]; omega
        · have he := isEmpty_no now hz
          have HF : Hid (words s = wordsAt s (k + 1) ByteArray.empty (acc ++ [now])) := by
            rw [HW.out, wordsAt_cut s k now acc hlt (by have := HE.out; have := H4.out; omega), flush_yes now acc hz]; rfl
          go_wp2_with (at_builtin; refine wpList_append_own _ rfl _ _ 67 rfl w.heap.size 9 i0 (.string ByteArray.empty) 1 16 Tryz.under67 hi hz0 hz1 hz2 rfl (by decide) _ _ _ rfl (hown.alloc _) ⟨wr.heap.size, 0, none⟩ 1 1 [.string now] rfl rfl (cell_one_new _ _ _) (one_cell _) (by unfold maxLen; omega) (by omega) (by simp; omega) ?_)
          intro v' w1 hown' hgrow _
          have hb1 := own_grow hown hsz hnx hgrow
          clear hgrow
          go_wp2
          go_roundw
          case rel => exact ⟨k + 1, ByteArray.empty, acc ++ [now], by simp, by simp; omega, by go_num, rfl, by simpa using hown', hb1, .inl ⟨by omega, HF.out⟩⟩
          case measure => simp [intOf]; omega
      · have H4 : Hid ((s[k].toNat : Int) = 59) := h4
        clear h4
        by_cases hz : now.size = 0
        · have he := isEmpty_yes now hz
          have HF : Hid (words s = acc) := by
            rw [HW.out, wordsAt_stop s k now acc hlt (by have := HE.out; have := H4.out; omega), flush_no now acc hz]; rfl
          go_wp2
          go_ret
          exact ⟨_, rfl, by rw [HF.out]; exact hown, hnx⟩
        · have he := isEmpty_no now hz
          have HF : Hid (words s = acc ++ [now]) := by
            rw [HW.out, wordsAt_stop s k now acc hlt (by have := HE.out; have := H4.out; omega), flush_yes now acc hz]; rfl
          go_wp2_with (at_builtin; refine wpList_append_own _ rfl _ _ 67 rfl w.heap.size 9 i0 (.string ByteArray.empty) 1 16 Tryz.under67 hi hz0 hz1 hz2 rfl (by decide) _ _ _ rfl (hown.alloc _) ⟨wr.heap.size, 0, none⟩ 1 1 [.string now] rfl rfl (cell_one_new _ _ _) (one_cell _) (by unfold maxLen; omega) (by omega) (by simp; omega) ?_)
          intro v' w1 hown' hgrow _
          have hb1 := own_grow hown hsz hnx hgrow
          clear hgrow
          go_wp2
          go_ret
          exact ⟨_, rfl, by rw [HF.out]; simpa using hown', hb1⟩
    · by_cases heq : k = s.size
      · have HW : Hid (words s = wordsAt s k now acc) := by rcases HR.out with h | h; exact h.2; omega
        clear HR
        have HQ : Hid (k = s.size) := heq
        have hle : k ≤ s.size := by omega
        clear heq
        by_cases hz : now.size = 0
        · have he := isEmpty_yes now hz
          have HF : Hid (words s = acc) := by
            rw [HW.out, wordsAt_end s k now acc hlt, flush_no now acc hz]; rfl
          go_wp2
          go_roundw
          case rel => exact ⟨k + 1, ByteArray.empty, acc, by simp, by omega, by go_num, rfl, hown, hnx, .inr ⟨by have := HQ.out; omega, HF.out⟩⟩
          case measure => simp [intOf]; omega
        · have he := isEmpty_no now hz
          have HF : Hid (words s = acc ++ [now]) := by
            rw [HW.out, wordsAt_end s k now acc hlt, flush_yes now acc hz]; rfl
          go_wp2_with (at_builtin; refine wpList_append_own _ rfl _ _ 67 rfl w.heap.size 9 i0 (.string ByteArray.empty) 1 16 Tryz.under67 hi hz0 hz1 hz2 rfl (by decide) _ _ _ rfl (hown.alloc _) ⟨wr.heap.size, 0, none⟩ 1 1 [.string now] rfl rfl (cell_one_new _ _ _) (one_cell _) (by unfold maxLen; omega) (by omega) (by simp; omega) ?_)
          intro v' w1 hown' hgrow _
          have hb1 := own_grow hown hsz hnx hgrow
          clear hgrow
          go_wp2
          go_roundw
          case rel => exact ⟨k + 1, ByteArray.empty, acc ++ [now], by simp, by simp; omega, by go_num, rfl, by simpa using hown', hb1, .inr ⟨by have := HQ.out; omega, HF.out⟩⟩
          case measure => simp [intOf]; omega
      · have hgt : s.size < k := by omega
        have HF : Hid (words s = acc) := by
          rcases HR.out with h | h
          · omega
          · exact h.2
        clear HR
        go_wp2
        go_ret
        exact ⟨_, rfl, by rw [HF.out]; exact hown, hnx⟩

end Go.Proofs.YtfpgjkbjbbgciaaGreatDoor

namespace Go.Proofs.YtfpgjkbjbbgciaaGreatDoor
open Go.RowKit Sp

theorem ret_str {a b : ByteArray} (h : a = b) : Ending.returned (.string a) = .returned (.string b) := by rw [h]
theorem isW_eq (s : ByteArray) (l : List UInt8) (h : (s.toList == l) = true) : s = ⟨l.toArray⟩ := by
  rw [beq_iff_eq, ByteArray.toList_eq] at h
  rw [← h]

set_option maxRecDepth 100000 in
theorem shape_set (w : World) :
    Calls Tryz.prog 74 #[.string ⟨#[115, 101, 116]⟩] w fun e w' => e = .returned (.string ⟨(shapeOf ⟨#[115, 101, 116]⟩).toArray⟩) ∧ w' = w := by
  go_enter Tryz.func74, Tryz.ntmps74
  go_wp2
  go_ret
  exact ⟨ret_str (by kernel_rfl), rfl⟩
set_option maxRecDepth 100000 in
theorem shape_inc (w : World) :
    Calls Tryz.prog 74 #[.string ⟨#[105, 110, 99]⟩] w fun e w' => e = .returned (.string ⟨(shapeOf ⟨#[105, 110, 99]⟩).toArray⟩) ∧ w' = w := by
  go_enter Tryz.func74, Tryz.ntmps74
  go_wp2
  go_ret
  exact ⟨ret_str (by kernel_rfl), rfl⟩
set_option maxRecDepth 100000 in
theorem shape_mov (w : World) :
    Calls Tryz.prog 74 #[.string ⟨#[109, 111, 118]⟩] w fun e w' => e = .returned (.string ⟨(shapeOf ⟨#[109, 111, 118]⟩).toArray⟩) ∧ w' = w := by
  go_enter Tryz.func74, Tryz.ntmps74
  go_wp2
  go_ret
  exact ⟨ret_str (by kernel_rfl), rfl⟩
set_option maxRecDepth 100000 in
theorem shape_load (w : World) :
    Calls Tryz.prog 74 #[.string ⟨#[108, 111, 97, 100]⟩] w fun e w' => e = .returned (.string ⟨(shapeOf ⟨#[108, 111, 97, 100]⟩).toArray⟩) ∧ w' = w := by
  go_enter Tryz.func74, Tryz.ntmps74
  go_wp2
  go_ret
  exact ⟨ret_str (by kernel_rfl), rfl⟩
set_option maxRecDepth 100000 in
theorem shape_store (w : World) :
    Calls Tryz.prog 74 #[.string ⟨#[115, 116, 111, 114, 101]⟩] w fun e w' => e = .returned (.string ⟨(shapeOf ⟨#[115, 116, 111, 114, 101]⟩).toArray⟩) ∧ w' = w := by
  go_enter Tryz.func74, Tryz.ntmps74
  go_wp2
  go_ret
  exact ⟨ret_str (by kernel_rfl), rfl⟩
set_option maxRecDepth 100000 in
theorem shape_add (w : World) :
    Calls Tryz.prog 74 #[.string ⟨#[97, 100, 100]⟩] w fun e w' => e = .returned (.string ⟨(shapeOf ⟨#[97, 100, 100]⟩).toArray⟩) ∧ w' = w := by
  go_enter Tryz.func74, Tryz.ntmps74
  go_wp2
  go_ret
  exact ⟨ret_str (by kernel_rfl), rfl⟩
set_option maxRecDepth 100000 in
theorem shape_sub (w : World) :
    Calls Tryz.prog 74 #[.string ⟨#[115, 117, 98]⟩] w fun e w' => e = .returned (.string ⟨(shapeOf ⟨#[115, 117, 98]⟩).toArray⟩) ∧ w' = w := by
  go_enter Tryz.func74, Tryz.ntmps74
  go_wp2
  go_ret
  exact ⟨ret_str (by kernel_rfl), rfl⟩
set_option maxRecDepth 100000 in
theorem shape_mul (w : World) :
    Calls Tryz.prog 74 #[.string ⟨#[109, 117, 108]⟩] w fun e w' => e = .returned (.string ⟨(shapeOf ⟨#[109, 117, 108]⟩).toArray⟩) ∧ w' = w := by
  go_enter Tryz.func74, Tryz.ntmps74
  go_wp2
  go_ret
  exact ⟨ret_str (by kernel_rfl), rfl⟩
set_option maxRecDepth 100000 in
theorem shape_read (w : World) :
    Calls Tryz.prog 74 #[.string ⟨#[114, 101, 97, 100]⟩] w fun e w' => e = .returned (.string ⟨(shapeOf ⟨#[114, 101, 97, 100]⟩).toArray⟩) ∧ w' = w := by
  go_enter Tryz.func74, Tryz.ntmps74
  go_wp2
  go_ret
  exact ⟨ret_str (by kernel_rfl), rfl⟩
set_option maxRecDepth 100000 in
theorem shape_write (w : World) :
    Calls Tryz.prog 74 #[.string ⟨#[119, 114, 105, 116, 101]⟩] w fun e w' => e = .returned (.string ⟨(shapeOf ⟨#[119, 114, 105, 116, 101]⟩).toArray⟩) ∧ w' = w := by
  go_enter Tryz.func74, Tryz.ntmps74
  go_wp2
  go_ret
  exact ⟨ret_str (by kernel_rfl), rfl⟩
set_option maxRecDepth 100000 in
theorem shape_jump (w : World) :
    Calls Tryz.prog 74 #[.string ⟨#[106, 117, 109, 112]⟩] w fun e w' => e = .returned (.string ⟨(shapeOf ⟨#[106, 117, 109, 112]⟩).toArray⟩) ∧ w' = w := by
  go_enter Tryz.func74, Tryz.ntmps74
  go_wp2
  go_ret
  exact ⟨ret_str (by kernel_rfl), rfl⟩
set_option maxRecDepth 100000 in
theorem shape_call (w : World) :
    Calls Tryz.prog 74 #[.string ⟨#[99, 97, 108, 108]⟩] w fun e w' => e = .returned (.string ⟨(shapeOf ⟨#[99, 97, 108, 108]⟩).toArray⟩) ∧ w' = w := by
  go_enter Tryz.func74, Tryz.ntmps74
  go_wp2
  go_ret
  exact ⟨ret_str (by kernel_rfl), rfl⟩
set_option maxRecDepth 100000 in
theorem shape_less (w : World) :
    Calls Tryz.prog 74 #[.string ⟨#[108, 101, 115, 115]⟩] w fun e w' => e = .returned (.string ⟨(shapeOf ⟨#[108, 101, 115, 115]⟩).toArray⟩) ∧ w' = w := by
  go_enter Tryz.func74, Tryz.ntmps74
  go_wp2
  go_ret
  exact ⟨ret_str (by kernel_rfl), rfl⟩
set_option maxRecDepth 100000 in
theorem shape_same (w : World) :
    Calls Tryz.prog 74 #[.string ⟨#[115, 97, 109, 101]⟩] w fun e w' => e = .returned (.string ⟨(shapeOf ⟨#[115, 97, 109, 101]⟩).toArray⟩) ∧ w' = w := by
  go_enter Tryz.func74, Tryz.ntmps74
  go_wp2
  go_ret
  exact ⟨ret_str (by kernel_rfl), rfl⟩
set_option maxRecDepth 100000 in
theorem shape_back (w : World) :
    Calls Tryz.prog 74 #[.string ⟨#[98, 97, 99, 107]⟩] w fun e w' => e = .returned (.string ⟨(shapeOf ⟨#[98, 97, 99, 107]⟩).toArray⟩) ∧ w' = w := by
  go_enter Tryz.func74, Tryz.ntmps74
  go_wp2
  go_ret
  exact ⟨ret_str (by kernel_rfl), rfl⟩
set_option maxRecDepth 100000 in
theorem shape_stop (w : World) :
    Calls Tryz.prog 74 #[.string ⟨#[115, 116, 111, 112]⟩] w fun e w' => e = .returned (.string ⟨(shapeOf ⟨#[115, 116, 111, 112]⟩).toArray⟩) ∧ w' = w := by
  go_enter Tryz.func74, Tryz.ntmps74
  go_wp2
  go_ret
  exact ⟨ret_str (by kernel_rfl), rfl⟩
set_option maxRecDepth 100000 in
set_option maxHeartbeats 2000000 in
theorem shape_none (s : ByteArray) (w : World) (h0 : (s.toList == [115, 101, 116]) = false) (h1 : (s.toList == [105, 110, 99]) = false) (h2 : (s.toList == [109, 111, 118]) = false) (h3 : (s.toList == [108, 111, 97, 100]) = false) (h4 : (s.toList == [115, 116, 111, 114, 101]) = false) (h5 : (s.toList == [97, 100, 100]) = false) (h6 : (s.toList == [115, 117, 98]) = false) (h7 : (s.toList == [109, 117, 108]) = false) (h8 : (s.toList == [114, 101, 97, 100]) = false) (h9 : (s.toList == [119, 114, 105, 116, 101]) = false) (h10 : (s.toList == [106, 117, 109, 112]) = false) (h11 : (s.toList == [99, 97, 108, 108]) = false) (h12 : (s.toList == [108, 101, 115, 115]) = false) (h13 : (s.toList == [115, 97, 109, 101]) = false) (h14 : (s.toList == [98, 97, 99, 107]) = false) (h15 : (s.toList == [115, 116, 111, 112]) = false) :
    Calls Tryz.prog 74 #[.string s] w fun e w' => e = .returned (.string ⟨(shapeOf s).toArray⟩) ∧ w' = w := by
  have HR : Hid (([63] : List UInt8) = shapeOf s) := by
    simp only [Hid, shapeOf, isW, h0, h1, h2, h3, h4, h5, h6, h7, h8, h9, h10, h11, h12, h13, h14, h15]
    simp
  go_enter Tryz.func74, Tryz.ntmps74
  go_wp2
  go_ret
  exact ⟨ret_str (by rw [← HR.out]), rfl⟩
theorem shape_any (s : ByteArray) (w : World) :
    Calls Tryz.prog 74 #[.string s] w fun e w' => e = .returned (.string ⟨(shapeOf s).toArray⟩) ∧ w' = w := by
  cases h0 : (s.toList == [115, 101, 116]) with
  | true => rw [isW_eq s _ h0]; exact shape_set w
  | false =>
  cases h1 : (s.toList == [105, 110, 99]) with
  | true => rw [isW_eq s _ h1]; exact shape_inc w
  | false =>
  cases h2 : (s.toList == [109, 111, 118]) with
  | true => rw [isW_eq s _ h2]; exact shape_mov w
  | false =>
  cases h3 : (s.toList == [108, 111, 97, 100]) with
  | true => rw [isW_eq s _ h3]; exact shape_load w
  | false =>
  cases h4 : (s.toList == [115, 116, 111, 114, 101]) with
  | true => rw [isW_eq s _ h4]; exact shape_store w
  | false =>
  cases h5 : (s.toList == [97, 100, 100]) with
  | true => rw [isW_eq s _ h5]; exact shape_add w
  | false =>
  cases h6 : (s.toList == [115, 117, 98]) with
  | true => rw [isW_eq s _ h6]; exact shape_sub w
  | false =>
  cases h7 : (s.toList == [109, 117, 108]) with
  | true => rw [isW_eq s _ h7]; exact shape_mul w
  | false =>
  cases h8 : (s.toList == [114, 101, 97, 100]) with
  | true => rw [isW_eq s _ h8]; exact shape_read w
  | false =>
  cases h9 : (s.toList == [119, 114, 105, 116, 101]) with
  | true => rw [isW_eq s _ h9]; exact shape_write w
  | false =>
  cases h10 : (s.toList == [106, 117, 109, 112]) with
  | true => rw [isW_eq s _ h10]; exact shape_jump w
  | false =>
  cases h11 : (s.toList == [99, 97, 108, 108]) with
  | true => rw [isW_eq s _ h11]; exact shape_call w
  | false =>
  cases h12 : (s.toList == [108, 101, 115, 115]) with
  | true => rw [isW_eq s _ h12]; exact shape_less w
  | false =>
  cases h13 : (s.toList == [115, 97, 109, 101]) with
  | true => rw [isW_eq s _ h13]; exact shape_same w
  | false =>
  cases h14 : (s.toList == [98, 97, 99, 107]) with
  | true => rw [isW_eq s _ h14]; exact shape_back w
  | false =>
  cases h15 : (s.toList == [115, 116, 111, 112]) with
  | true => rw [isW_eq s _ h15]; exact shape_stop w
  | false =>
  exact shape_none s w h0 h1 h2 h3 h4 h5 h6 h7 h8 h9 h10 h11 h12 h13 h14 h15

end Go.Proofs.YtfpgjkbjbbgciaaGreatDoor
