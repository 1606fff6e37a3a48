import Derived.Test.YtbkefkaedohhcaaGreatDoorRfA
import Derived.Test.YtbkefkaedohhcaaGreatDoorSpecI
namespace Go.Proofs.YtbkefkaedohhcaaGreatDoor
open Go.RowKit Sp

theorem ret_bool {a b : Bool} (h : a = b) : Ending.returned (.bool a) = .returned (.bool b) := by rw [h]

set_option maxRecDepth 100000 in
set_option maxHeartbeats 1000000 in
theorem valid_any (s : ByteArray) (w : World) (hs : s.size ≤ 140737488355328) :
    Calls Tryz.prog 49 #[.string s] w fun e w' => e = .returned (.bool (validAt s 0)) ∧ w' = w := by
  go_enter Tryz.func49, Tryz.ntmps49
  go_wp2
  go_loop [3] (fun ti => ∃ j : Nat, j ≤ s.size ∧ ti = .int .i64 (j : Int) ∧ validAt s 0 = validAt s j) (fun ti => s.size - (intOf ti).toNat)
  case atStart => exact ⟨0, by omega, rfl, rfl⟩
  case round =>
    obtain ⟨j, hj, rfl, hR⟩ := hrel
    have HR : Hid (validAt s 0 = validAt s j) := hR
    clear hR
    by_cases hlt : j < s.size
    · by_cases h0 : (chr s j).1 = 0
      · go_wp2_with (go_at_call 82; refine (chr_any s j _ hs hlt).mono ?_; rintro e w' ⟨rfl, rfl⟩)
        go_ret
        exact ⟨ret_bool (by rw [HR.out, validAt_bad s j hlt h0]), rfl⟩
      · have hp := chrN_pos s j hlt h0
        obtain ⟨hp1, hp2, hp3, hp4, _, _⟩ := hp
        have HP : Hid (((chrN s j : Nat) : Int) = (chr s j).1) := hp1
        have hq1 : 1 ≤ (chr s j).1 := by omega
        have hq2 : (chr s j).1 ≤ 4 := by omega
        have hq : ((chr s j).1 == 0) = false := by simpa using h0
        clear hp1
        go_wp2_with (go_at_call 82; refine (chr_any s j _ hs hlt).mono ?_; rintro e w' ⟨rfl, rfl⟩)
        go_round
        case rel => have e := HP.out; exact ⟨j + chrN s j, by omega, by go_num, by rw [HR.out, validAt_next s j hlt h0]⟩
        case measure => have e := HP.out; simp [intOf]; omega
    · go_wp2
      go_ret
      exact ⟨ret_bool (by rw [HR.out, validAt_end s j hlt]), rfl⟩

end Go.Proofs.YtbkefkaedohhcaaGreatDoor
