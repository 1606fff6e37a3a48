import Derived.Test.YtfpgjkbjbbgciaaGreatDoorMa07
import Derived.Test.YtfpgjkbjbbgciaaGreatDoorMa10
namespace Go.Proofs.YtfpgjkbjbbgciaaGreatDoor
open Go.RowKit Sp

theorem ret_str {a b : ByteArray} (h : a = b) : Ending.returned (.string a) = .returned (.string b) := by rw [h]
theorem isW_eq (s : ByteArray) (l : List UInt8) (h : (s.toList == l) = true) : s = ⟨l.toArray⟩ := by
  rw [beq_iff_eq, ByteArray.toList_eq] at h
  rw [← h]

set_option maxRecDepth 100000 in
theorem shape_set (w : World) :
    Calls Tryz.prog 74 #[.string ⟨#[115, 101, 116]⟩] w fun e w' => e = .returned (.string ⟨(shapeOf ⟨#[115, 101, 116]⟩).toArray⟩) ∧ w' = w := by
  go_enter Tryz.func74, Tryz.ntmps74
  go_wp2
  go_ret
  exact ⟨ret_str (by kernel_rfl), rfl⟩
set_option maxRecDepth 100000 in
theorem shape_inc (w : World) :
    Calls Tryz.prog 74 #[.string ⟨#[105, 110, 99]⟩] w fun e w' => e = .returned (.string ⟨(shapeOf ⟨#[105, 110, 99]⟩).toArray⟩) ∧ w' = w := by
  go_enter Tryz.func74, Tryz.ntmps74
  go_wp2
  go_ret
  exact ⟨ret_str (by kernel_rfl), rfl⟩
set_option maxRecDepth 100000 in
theorem shape_mov (w : World) :
    Calls Tryz.prog 74 #[.string ⟨#[109, 111, 118]⟩] w fun e w' => e = .returned (.string ⟨(shapeOf ⟨#[109, 111, 118]⟩).toArray⟩) ∧ w' = w := by
  go_enter Tryz.func74, Tryz.ntmps74
  go_wp2
  go_ret
  exact ⟨ret_str (by kernel_rfl), rfl⟩
set_option maxRecDepth 100000 in
theorem shape_load (w : World) :
    Calls Tryz.prog 74 #[.string ⟨#[108, 111, 97, 100]⟩] w fun e w' => e = .returned (.string ⟨(shapeOf ⟨#[108, 111, 97, 100]⟩).toArray⟩) ∧ w' = w := by
  go_enter Tryz.func74, Tryz.ntmps74
  go_wp2
  go_ret
  exact ⟨ret_str (by kernel_rfl), rfl⟩
set_option maxRecDepth 100000 in
theorem shape_store (w : World) :
    Calls Tryz.prog 74 #[.string ⟨#[115, 116, 111, 114, 101]⟩] w fun e w' => e = .returned (.string ⟨(shapeOf ⟨#[115, 116, 111, 114, 101]⟩).toArray⟩) ∧ w' = w := by
  go_enter Tryz.func74, Tryz.ntmps74
  go_wp2
  go_ret
  exact ⟨ret_str (by kernel_rfl), rfl⟩
set_option maxRecDepth 100000 in
theorem shape_add (w : World) :
    Calls Tryz.prog 74 #[.string ⟨#[97, 100, 100]⟩] w fun e w' => e = .returned (.string ⟨(shapeOf ⟨#[97, 100, 100]⟩).toArray⟩) ∧ w' = w := by
  go_enter Tryz.func74, Tryz.ntmps74
  go_wp2
  go_ret
  exact ⟨ret_str (by kernel_rfl), rfl⟩
set_option maxRecDepth 100000 in
theorem shape_sub (w : World) :
    Calls Tryz.prog 74 #[.string ⟨#[115, 117, 98]⟩] w fun e w' => e = .returned (.string ⟨(shapeOf ⟨#[115, 117, 98]⟩).toArray⟩) ∧ w' = w := by
  go_enter Tryz.func74, Tryz.ntmps74
  go_wp2
  go_ret
  exact ⟨ret_str (by kernel_rfl), rfl⟩
set_option maxRecDepth 100000 in
theorem shape_mul (w : World) :
    Calls Tryz.prog 74 #[.string ⟨#[109, 117, 108]⟩] w fun e w' => e = .returned (.string ⟨(shapeOf ⟨#[109, 117, 108]⟩).toArray⟩) ∧ w' = w := by
  go_enter Tryz.func74, Tryz.ntmps74
  go_wp2
  go_ret
  exact ⟨ret_str (by kernel_rfl), rfl⟩
set_option maxRecDepth 100000 in
theorem shape_read (w : World) :
    Calls Tryz.prog 74 #[.string ⟨#[114, 101, 97, 100]⟩] w fun e w' => e = .returned (.string ⟨(shapeOf ⟨#[114, 101, 97, 100]⟩).toArray⟩) ∧ w' = w := by
  go_enter Tryz.func74, Tryz.ntmps74
  go_wp2
  go_ret
  exact ⟨ret_str (by kernel_rfl), rfl⟩
set_option maxRecDepth 100000 in
theorem shape_write (w : World) :
    Calls Tryz.prog 74 #[.string ⟨#[119, 114, 105, 116, 101]⟩] w fun e w' => e = .returned (.string ⟨(shapeOf ⟨#[119, 114, 105, 116, 101]⟩).toArray⟩) ∧ w' = w := by
  go_enter Tryz.func74, Tryz.ntmps74
  go_wp2
  go_ret
  exact ⟨ret_str (by kernel_rfl), rfl⟩
set_option maxRecDepth 100000 in
theorem shape_jump (w : World) :
    Calls Tryz.prog 74 #[.string ⟨#[106, 117, 109, 112]⟩] w fun e w' => e = .returned (.string ⟨(shapeOf ⟨#[106, 117, 109, 112]⟩).toArray⟩) ∧ w' = w := by
  go_enter Tryz.func74, Tryz.ntmps74
  go_wp2
  go_ret
  exact ⟨ret_str (by kernel_rfl), rfl⟩
set_option maxRecDepth 100000 in
theorem shape_call (w : World) :
    Calls Tryz.prog 74 #[.string ⟨#[99, 97, 108, 108]⟩] w fun e w' => e = .returned (.string ⟨(shapeOf ⟨#[99, 97, 108, 108]⟩).toArray⟩) ∧ w' = w := by
  go_enter Tryz.func74, Tryz.ntmps74
  go_wp2
  go_ret
  exact ⟨ret_str (by kernel_rfl), rfl⟩
set_option maxRecDepth 100000 in
theorem shape_less (w : World) :
    Calls Tryz.prog 74 #[.string ⟨#[108, 101, 115, 115]⟩] w fun e w' => e = .returned (.string ⟨(shapeOf ⟨#[108, 101, 115, 115]⟩).toArray⟩) ∧ w' = w := by
  go_enter Tryz.func74, Tryz.ntmps74
  go_wp2
  go_ret
  exact ⟨ret_str (by kernel_rfl), rfl⟩
set_option maxRecDepth 100000 in
theorem shape_same (w : World) :
    Calls Tryz.prog 74 #[.string ⟨#[115, 97, 109, 101]⟩] w fun e w' => e = .returned (.string ⟨(shapeOf ⟨#[115, 97, 109, 101]⟩).toArray⟩) ∧ w' = w := by
  go_enter Tryz.func74, Tryz.ntmps74
  go_wp2
  go_ret
  exact ⟨ret_str (by kernel_rfl), rfl⟩
set_option maxRecDepth 100000 in
theorem shape_back (w : World) :
    Calls Tryz.prog 74 #[.string ⟨#[98, 97, 99, 107]⟩] w fun e w' => e = .returned (.string ⟨(shapeOf ⟨#[98, 97, 99, 107]⟩).toArray⟩) ∧ w' = w := by
  go_enter Tryz.func74, Tryz.ntmps74
  go_wp2
  go_ret
  exact ⟨ret_str (by kernel_rfl), rfl⟩
set_option maxRecDepth 100000 in
theorem shape_stop (w : World) :
    Calls Tryz.prog 74 #[.string ⟨#[115, 116, 111, 112]⟩] w fun e w' => e = .returned (.string ⟨(shapeOf ⟨#[115, 116, 111, 112]⟩).toArray⟩) ∧ w' = w := by
  go_enter Tryz.func74, Tryz.ntmps74
  go_wp2
  go_ret
  exact ⟨ret_str (by kernel_rfl), rfl⟩
set_option maxRecDepth 100000 in
set_option maxHeartbeats 2000000 in
theorem shape_none (s : ByteArray) (w : World) (h0 : (s.toList == [115, 101, 116]) = false) (h1 : (s.toList == [105, 110, 99]) = false) (h2 : (s.toList == [109, 111, 118]) = false) (h3 : (s.toList == [108, 111, 97, 100]) = false) (h4 : (s.toList == [115, 116, 111, 114, 101]) = false) (h5 : (s.toList == [97, 100, 100]) = false) (h6 : (s.toList == [115, 117, 98]) = false) (h7 : (s.toList == [109, 117, 108]) = false) (h8 : (s.toList == [114, 101, 97, 100]) = false) (h9 : (s.toList == [119, 114, 105, 116, 101]) = false) (h10 : (s.toList == [106, 117, 109, 112]) = false) (h11 : (s.toList == [99, 97, 108, 108]) = false) (h12 : (s.toList == [108, 101, 115, 115]) = false) (h13 : (s.toList == [115, 97, 109, 101]) = false) (h14 : (s.toList == [98, 97, 99, 107]) = false) (h15 : (s.toList == [115, 116, 111, 112]) = false) :
    Calls Tryz.prog 74 #[.string s] w fun e w' => e = .returned (.string ⟨(shapeOf s).toArray⟩) ∧ w' = w := by
  have HR : Hid (([63] : List UInt8) = shapeOf s) := by
    simp only [Hid, shapeOf, isW, h0, h1, h2, h3, h4, h5, h6, h7, h8, h9, h10, h11, h12, h13, h14, h15]
    simp
  go_enter Tryz.func74, Tryz.ntmps74
  go_wp2
  go_ret
  exact ⟨ret_str (by rw [← HR.out]), rfl⟩
theorem shape_any (s : ByteArray) (w : World) :
    Calls Tryz.prog 74 #[.string s] w fun e w' => e = .returned (.string ⟨(shapeOf s).toArray⟩) ∧ w' = w := by
  cases h0 : (s.toList == [115, 101, 116]) with
  | true => rw [isW_eq s _ h0]; exact shape_set w
  | false =>
  cases h1 : (s.toList == [105, 110, 99]) with
  | true => rw [isW_eq s _ h1]; exact shape_inc w
  | false =>
  cases h2 : (s.toList == [109, 111, 118]) with
  | true => rw [isW_eq s _ h2]; exact shape_mov w
  | false =>
  cases h3 : (s.toList == [108, 111, 97, 100]) with
  | true => rw [isW_eq s _ h3]; exact shape_load w
  | false =>
  cases h4 : (s.toList == [115, 116, 111, 114, 101]) with
  | true => rw [isW_eq s _ h4]; exact shape_store w
  | false =>
  cases h5 : (s.toList == [97, 100, 100]) with
  | true => rw [isW_eq s _ h5]; exact shape_add w
  | false =>
  cases h6 : (s.toList == [115, 117, 98]) with
  | true => rw [isW_eq s _ h6]; exact shape_sub w
  | false =>
  cases h7 : (s.toList == [109, 117, 108]) with
  | true => rw [isW_eq s _ h7]; exact shape_mul w
  | false =>
  cases h8 : (s.toList == [114, 101, 97, 100]) with
  | true => rw [isW_eq s _ h8]; exact shape_read w
  | false =>
  cases h9 : (s.toList == [119, 114, 105, 116, 101]) with
  | true => rw [isW_eq s _ h9]; exact shape_write w
  | false =>
  cases h10 : (s.toList == [106, 117, 109, 112]) with
  | true => rw [isW_eq s _ h10]; exact shape_jump w
  | false =>
  cases h11 : (s.toList == [99, 97, 108, 108]) with
  | true => rw [isW_eq s _ h11]; exact shape_call w
  | false =>
  cases h12 : (s.toList == [108, 101, 115, 115]) with
  | true => rw [isW_eq s _ h12]; exact shape_less w
  | false =>
  cases h13 : (s.toList == [115, 97, 109, 101]) with
  | true => rw [isW_eq s _ h13]; exact shape_same w
  | false =>
  cases h14 : (s.toList == [98, 97, 99, 107]) with
  | true => rw [isW_eq s _ h14]; exact shape_back w
  | false =>
  cases h15 : (s.toList == [115, 116, 111, 112]) with
  | true => rw [isW_eq s _ h15]; exact shape_stop w
  | false =>
  exact shape_none s w h0 h1 h2 h3 h4 h5 h6 h7 h8 h9 h10 h11 h12 h13 h14 h15

end Go.Proofs.YtfpgjkbjbbgciaaGreatDoor
