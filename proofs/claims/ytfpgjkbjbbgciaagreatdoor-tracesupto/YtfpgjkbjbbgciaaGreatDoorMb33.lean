import Derived.Test.YtfpgjkbjbbgciaaGreatDoorMb32
namespace Go.Proofs.YtfpgjkbjbbgciaaGreatDoor
open Sp

theorem insQ_jump (L : List Said) (k : Nat) (q : Said) (x1 : ByteArray) (h : q.kept = [⟨#[106, 117, 109, 112]⟩, x1]) : insQ L k q = .jump (labTo L k x1) := by
  obtain ⟨kd, kp, ok⟩ := q
  simp only at h
  subst h
  unfold insQ
  rw [show (⟨kd, [⟨#[106, 117, 109, 112]⟩, x1], ok⟩ : Said).word 0 = ⟨#[106, 117, 109, 112]⟩ from rfl]
  rw [if_pos (show isW ⟨#[106, 117, 109, 112]⟩ [106, 117, 109, 112] = true from by kernel_rfl)]
  rfl
theorem insQ_less (L : List Said) (k : Nat) (q : Said) (x1 x2 x3 : ByteArray) (h : q.kept = [⟨#[108, 101, 115, 115]⟩, x1, x2, x3]) : insQ L k q = .less (regN x1) (regN x2) (labTo L k x3) := by
  obtain ⟨kd, kp, ok⟩ := q
  simp only at h
  subst h
  unfold insQ
  rw [show (⟨kd, [⟨#[108, 101, 115, 115]⟩, x1, x2, x3], ok⟩ : Said).word 0 = ⟨#[108, 101, 115, 115]⟩ from rfl]
  rw [if_neg (show ¬ isW ⟨#[108, 101, 115, 115]⟩ [106, 117, 109, 112] = true by rw [show isW ⟨#[108, 101, 115, 115]⟩ [106, 117, 109, 112] = false from by kernel_rfl]; decide)]
  rw [if_pos (show isW ⟨#[108, 101, 115, 115]⟩ [108, 101, 115, 115] = true from by kernel_rfl)]
  rfl
theorem insQ_same (L : List Said) (k : Nat) (q : Said) (x1 x2 x3 : ByteArray) (h : q.kept = [⟨#[115, 97, 109, 101]⟩, x1, x2, x3]) : insQ L k q = .same (regN x1) (regN x2) (labTo L k x3) := by
  obtain ⟨kd, kp, ok⟩ := q
  simp only at h
  subst h
  unfold insQ
  rw [show (⟨kd, [⟨#[115, 97, 109, 101]⟩, x1, x2, x3], ok⟩ : Said).word 0 = ⟨#[115, 97, 109, 101]⟩ from rfl]
  rw [if_neg (show ¬ isW ⟨#[115, 97, 109, 101]⟩ [106, 117, 109, 112] = true by rw [show isW ⟨#[115, 97, 109, 101]⟩ [106, 117, 109, 112] = false from by kernel_rfl]; decide)]
  rw [if_neg (show ¬ isW ⟨#[115, 97, 109, 101]⟩ [108, 101, 115, 115] = true by rw [show isW ⟨#[115, 97, 109, 101]⟩ [108, 101, 115, 115] = false from by kernel_rfl]; decide)]
  rw [if_pos (show isW ⟨#[115, 97, 109, 101]⟩ [115, 97, 109, 101] = true from by kernel_rfl)]
  rfl
theorem insQ_call (L : List Said) (k : Nat) (q : Said) (x1 : ByteArray) (h : q.kept = [⟨#[99, 97, 108, 108]⟩, x1]) : insQ L k q = .call (fnTo L x1) := by
  obtain ⟨kd, kp, ok⟩ := q
  simp only at h
  subst h
  unfold insQ
  rw [show (⟨kd, [⟨#[99, 97, 108, 108]⟩, x1], ok⟩ : Said).word 0 = ⟨#[99, 97, 108, 108]⟩ from rfl]
  rw [if_neg (show ¬ isW ⟨#[99, 97, 108, 108]⟩ [106, 117, 109, 112] = true by rw [show isW ⟨#[99, 97, 108, 108]⟩ [106, 117, 109, 112] = false from by kernel_rfl]; decide)]
  rw [if_neg (show ¬ isW ⟨#[99, 97, 108, 108]⟩ [108, 101, 115, 115] = true by rw [show isW ⟨#[99, 97, 108, 108]⟩ [108, 101, 115, 115] = false from by kernel_rfl]; decide)]
  rw [if_neg (show ¬ isW ⟨#[99, 97, 108, 108]⟩ [115, 97, 109, 101] = true by rw [show isW ⟨#[99, 97, 108, 108]⟩ [115, 97, 109, 101] = false from by kernel_rfl]; decide)]
  rw [if_pos (show isW ⟨#[99, 97, 108, 108]⟩ [99, 97, 108, 108] = true from by kernel_rfl)]
  rfl
theorem insQ_back (L : List Said) (k : Nat) (q : Said) (h : q.kept = [⟨#[98, 97, 99, 107]⟩]) : insQ L k q = .back := by
  obtain ⟨kd, kp, ok⟩ := q
  simp only at h
  subst h
  unfold insQ
  rw [show (⟨kd, [⟨#[98, 97, 99, 107]⟩], ok⟩ : Said).word 0 = ⟨#[98, 97, 99, 107]⟩ from rfl]
  rw [if_neg (show ¬ isW ⟨#[98, 97, 99, 107]⟩ [106, 117, 109, 112] = true by rw [show isW ⟨#[98, 97, 99, 107]⟩ [106, 117, 109, 112] = false from by kernel_rfl]; decide)]
  rw [if_neg (show ¬ isW ⟨#[98, 97, 99, 107]⟩ [108, 101, 115, 115] = true by rw [show isW ⟨#[98, 97, 99, 107]⟩ [108, 101, 115, 115] = false from by kernel_rfl]; decide)]
  rw [if_neg (show ¬ isW ⟨#[98, 97, 99, 107]⟩ [115, 97, 109, 101] = true by rw [show isW ⟨#[98, 97, 99, 107]⟩ [115, 97, 109, 101] = false from by kernel_rfl]; decide)]
  rw [if_neg (show ¬ isW ⟨#[98, 97, 99, 107]⟩ [99, 97, 108, 108] = true by rw [show isW ⟨#[98, 97, 99, 107]⟩ [99, 97, 108, 108] = false from by kernel_rfl]; decide)]
  rw [if_pos (show isW ⟨#[98, 97, 99, 107]⟩ [98, 97, 99, 107] = true from by kernel_rfl)]
theorem insQ_stop (L : List Said) (k : Nat) (q : Said) (h : q.kept = [⟨#[115, 116, 111, 112]⟩]) : insQ L k q = .stop := by
  obtain ⟨kd, kp, ok⟩ := q
  simp only at h
  subst h
  unfold insQ
  rw [show (⟨kd, [⟨#[115, 116, 111, 112]⟩], ok⟩ : Said).word 0 = ⟨#[115, 116, 111, 112]⟩ from rfl]
  rw [if_neg (show ¬ isW ⟨#[115, 116, 111, 112]⟩ [106, 117, 109, 112] = true by rw [show isW ⟨#[115, 116, 111, 112]⟩ [106, 117, 109, 112] = false from by kernel_rfl]; decide)]
  rw [if_neg (show ¬ isW ⟨#[115, 116, 111, 112]⟩ [108, 101, 115, 115] = true by rw [show isW ⟨#[115, 116, 111, 112]⟩ [108, 101, 115, 115] = false from by kernel_rfl]; decide)]
  rw [if_neg (show ¬ isW ⟨#[115, 116, 111, 112]⟩ [115, 97, 109, 101] = true by rw [show isW ⟨#[115, 116, 111, 112]⟩ [115, 97, 109, 101] = false from by kernel_rfl]; decide)]
  rw [if_neg (show ¬ isW ⟨#[115, 116, 111, 112]⟩ [99, 97, 108, 108] = true by rw [show isW ⟨#[115, 116, 111, 112]⟩ [99, 97, 108, 108] = false from by kernel_rfl]; decide)]
  rw [if_neg (show ¬ isW ⟨#[115, 116, 111, 112]⟩ [98, 97, 99, 107] = true by rw [show isW ⟨#[115, 116, 111, 112]⟩ [98, 97, 99, 107] = false from by kernel_rfl]; decide)]
  rw [if_pos (show isW ⟨#[115, 116, 111, 112]⟩ [115, 116, 111, 112] = true from by kernel_rfl)]
theorem insQ_set (L : List Said) (k : Nat) (q : Said) (x1 x2 : ByteArray) (h : q.kept = [⟨#[115, 101, 116]⟩, x1, x2]) : insQ L k q = .set (regN x1) (numOf x2).1 := by
  obtain ⟨kd, kp, ok⟩ := q
  simp only at h
  subst h
  unfold insQ
  rw [show (⟨kd, [⟨#[115, 101, 116]⟩, x1, x2], ok⟩ : Said).word 0 = ⟨#[115, 101, 116]⟩ from rfl]
  rw [if_neg (show ¬ isW ⟨#[115, 101, 116]⟩ [106, 117, 109, 112] = true by rw [show isW ⟨#[115, 101, 116]⟩ [106, 117, 109, 112] = false from by kernel_rfl]; decide)]
  rw [if_neg (show ¬ isW ⟨#[115, 101, 116]⟩ [108, 101, 115, 115] = true by rw [show isW ⟨#[115, 101, 116]⟩ [108, 101, 115, 115] = false from by kernel_rfl]; decide)]
  rw [if_neg (show ¬ isW ⟨#[115, 101, 116]⟩ [115, 97, 109, 101] = true by rw [show isW ⟨#[115, 101, 116]⟩ [115, 97, 109, 101] = false from by kernel_rfl]; decide)]
  rw [if_neg (show ¬ isW ⟨#[115, 101, 116]⟩ [99, 97, 108, 108] = true by rw [show isW ⟨#[115, 101, 116]⟩ [99, 97, 108, 108] = false from by kernel_rfl]; decide)]
  rw [if_neg (show ¬ isW ⟨#[115, 101, 116]⟩ [98, 97, 99, 107] = true by rw [show isW ⟨#[115, 101, 116]⟩ [98, 97, 99, 107] = false from by kernel_rfl]; decide)]
  rw [if_neg (show ¬ isW ⟨#[115, 101, 116]⟩ [115, 116, 111, 112] = true by rw [show isW ⟨#[115, 101, 116]⟩ [115, 116, 111, 112] = false from by kernel_rfl]; decide)]
  rw [if_pos (show isW ⟨#[115, 101, 116]⟩ [115, 101, 116] = true from by kernel_rfl)]
  rfl
theorem insQ_mov (L : List Said) (k : Nat) (q : Said) (x1 x2 : ByteArray) (h : q.kept = [⟨#[109, 111, 118]⟩, x1, x2]) : insQ L k q = .mov (regN x1) (regN x2) := by
  obtain ⟨kd, kp, ok⟩ := q
  simp only at h
  subst h
  unfold insQ
  rw [show (⟨kd, [⟨#[109, 111, 118]⟩, x1, x2], ok⟩ : Said).word 0 = ⟨#[109, 111, 118]⟩ from rfl]
  rw [if_neg (show ¬ isW ⟨#[109, 111, 118]⟩ [106, 117, 109, 112] = true by rw [show isW ⟨#[109, 111, 118]⟩ [106, 117, 109, 112] = false from by kernel_rfl]; decide)]
  rw [if_neg (show ¬ isW ⟨#[109, 111, 118]⟩ [108, 101, 115, 115] = true by rw [show isW ⟨#[109, 111, 118]⟩ [108, 101, 115, 115] = false from by kernel_rfl]; decide)]
  rw [if_neg (show ¬ isW ⟨#[109, 111, 118]⟩ [115, 97, 109, 101] = true by rw [show isW ⟨#[109, 111, 118]⟩ [115, 97, 109, 101] = false from by kernel_rfl]; decide)]
  rw [if_neg (show ¬ isW ⟨#[109, 111, 118]⟩ [99, 97, 108, 108] = true by rw [show isW ⟨#[109, 111, 118]⟩ [99, 97, 108, 108] = false from by kernel_rfl]; decide)]
  rw [if_neg (show ¬ isW ⟨#[109, 111, 118]⟩ [98, 97, 99, 107] = true by rw [show isW ⟨#[109, 111, 118]⟩ [98, 97, 99, 107] = false from by kernel_rfl]; decide)]
  rw [if_neg (show ¬ isW ⟨#[109, 111, 118]⟩ [115, 116, 111, 112] = true by rw [show isW ⟨#[109, 111, 118]⟩ [115, 116, 111, 112] = false from by kernel_rfl]; decide)]
  rw [if_neg (show ¬ isW ⟨#[109, 111, 118]⟩ [115, 101, 116] = true by rw [show isW ⟨#[109, 111, 118]⟩ [115, 101, 116] = false from by kernel_rfl]; decide)]
  rw [if_pos (show isW ⟨#[109, 111, 118]⟩ [109, 111, 118] = true from by kernel_rfl)]
  rfl
theorem insQ_add (L : List Said) (k : Nat) (q : Said) (x1 x2 x3 : ByteArray) (h : q.kept = [⟨#[97, 100, 100]⟩, x1, x2, x3]) : insQ L k q = .alu 0 (regN x1) (regN x2) (regN x3) := by
  obtain ⟨kd, kp, ok⟩ := q
  simp only at h
  subst h
  unfold insQ
  rw [show (⟨kd, [⟨#[97, 100, 100]⟩, x1, x2, x3], ok⟩ : Said).word 0 = ⟨#[97, 100, 100]⟩ from rfl]
  rw [if_neg (show ¬ isW ⟨#[97, 100, 100]⟩ [106, 117, 109, 112] = true by rw [show isW ⟨#[97, 100, 100]⟩ [106, 117, 109, 112] = false from by kernel_rfl]; decide)]
  rw [if_neg (show ¬ isW ⟨#[97, 100, 100]⟩ [108, 101, 115, 115] = true by rw [show isW ⟨#[97, 100, 100]⟩ [108, 101, 115, 115] = false from by kernel_rfl]; decide)]
  rw [if_neg (show ¬ isW ⟨#[97, 100, 100]⟩ [115, 97, 109, 101] = true by rw [show isW ⟨#[97, 100, 100]⟩ [115, 97, 109, 101] = false from by kernel_rfl]; decide)]
  rw [if_neg (show ¬ isW ⟨#[97, 100, 100]⟩ [99, 97, 108, 108] = true by rw [show isW ⟨#[97, 100, 100]⟩ [99, 97, 108, 108] = false from by kernel_rfl]; decide)]
  rw [if_neg (show ¬ isW ⟨#[97, 100, 100]⟩ [98, 97, 99, 107] = true by rw [show isW ⟨#[97, 100, 100]⟩ [98, 97, 99, 107] = false from by kernel_rfl]; decide)]
  rw [if_neg (show ¬ isW ⟨#[97, 100, 100]⟩ [115, 116, 111, 112] = true by rw [show isW ⟨#[97, 100, 100]⟩ [115, 116, 111, 112] = false from by kernel_rfl]; decide)]
  rw [if_neg (show ¬ isW ⟨#[97, 100, 100]⟩ [115, 101, 116] = true by rw [show isW ⟨#[97, 100, 100]⟩ [115, 101, 116] = false from by kernel_rfl]; decide)]
  rw [if_neg (show ¬ isW ⟨#[97, 100, 100]⟩ [109, 111, 118] = true by rw [show isW ⟨#[97, 100, 100]⟩ [109, 111, 118] = false from by kernel_rfl]; decide)]
  rw [if_pos (show isW ⟨#[97, 100, 100]⟩ [97, 100, 100] = true from by kernel_rfl)]
  rfl
theorem insQ_sub (L : List Said) (k : Nat) (q : Said) (x1 x2 x3 : ByteArray) (h : q.kept = [⟨#[115, 117, 98]⟩, x1, x2, x3]) : insQ L k q = .alu 1 (regN x1) (regN x2) (regN x3) := by
  obtain ⟨kd, kp, ok⟩ := q
  simp only at h
  subst h
  unfold insQ
  rw [show (⟨kd, [⟨#[115, 117, 98]⟩, x1, x2, x3], ok⟩ : Said).word 0 = ⟨#[115, 117, 98]⟩ from rfl]
  rw [if_neg (show ¬ isW ⟨#[115, 117, 98]⟩ [106, 117, 109, 112] = true by rw [show isW ⟨#[115, 117, 98]⟩ [106, 117, 109, 112] = false from by kernel_rfl]; decide)]
  rw [if_neg (show ¬ isW ⟨#[115, 117, 98]⟩ [108, 101, 115, 115] = true by rw [show isW ⟨#[115, 117, 98]⟩ [108, 101, 115, 115] = false from by kernel_rfl]; decide)]
  rw [if_neg (show ¬ isW ⟨#[115, 117, 98]⟩ [115, 97, 109, 101] = true by rw [show isW ⟨#[115, 117, 98]⟩ [115, 97, 109, 101] = false from by kernel_rfl]; decide)]
  rw [if_neg (show ¬ isW ⟨#[115, 117, 98]⟩ [99, 97, 108, 108] = true by rw [show isW ⟨#[115, 117, 98]⟩ [99, 97, 108, 108] = false from by kernel_rfl]; decide)]
  rw [if_neg (show ¬ isW ⟨#[115, 117, 98]⟩ [98, 97, 99, 107] = true by rw [show isW ⟨#[115, 117, 98]⟩ [98, 97, 99, 107] = false from by kernel_rfl]; decide)]
  rw [if_neg (show ¬ isW ⟨#[115, 117, 98]⟩ [115, 116, 111, 112] = true by rw [show isW ⟨#[115, 117, 98]⟩ [115, 116, 111, 112] = false from by kernel_rfl]; decide)]
  rw [if_neg (show ¬ isW ⟨#[115, 117, 98]⟩ [115, 101, 116] = true by rw [show isW ⟨#[115, 117, 98]⟩ [115, 101, 116] = false from by kernel_rfl]; decide)]
  rw [if_neg (show ¬ isW ⟨#[115, 117, 98]⟩ [109, 111, 118] = true by rw [show isW ⟨#[115, 117, 98]⟩ [109, 111, 118] = false from by kernel_rfl]; decide)]
  rw [if_neg (show ¬ isW ⟨#[115, 117, 98]⟩ [97, 100, 100] = true by rw [show isW ⟨#[115, 117, 98]⟩ [97, 100, 100] = false from by kernel_rfl]; decide)]
  rw [if_pos (show isW ⟨#[115, 117, 98]⟩ [115, 117, 98] = true from by kernel_rfl)]
  rfl
theorem insQ_mul (L : List Said) (k : Nat) (q : Said) (x1 x2 x3 : ByteArray) (h : q.kept = [⟨#[109, 117, 108]⟩, x1, x2, x3]) : insQ L k q = .alu 2 (regN x1) (regN x2) (regN x3) := by
  obtain ⟨kd, kp, ok⟩ := q
  simp only at h
  subst h
  unfold insQ
  rw [show (⟨kd, [⟨#[109, 117, 108]⟩, x1, x2, x3], ok⟩ : Said).word 0 = ⟨#[109, 117, 108]⟩ from rfl]
  rw [if_neg (show ¬ isW ⟨#[109, 117, 108]⟩ [106, 117, 109, 112] = true by rw [show isW ⟨#[109, 117, 108]⟩ [106, 117, 109, 112] = false from by kernel_rfl]; decide)]
  rw [if_neg (show ¬ isW ⟨#[109, 117, 108]⟩ [108, 101, 115, 115] = true by rw [show isW ⟨#[109, 117, 108]⟩ [108, 101, 115, 115] = false from by kernel_rfl]; decide)]
  rw [if_neg (show ¬ isW ⟨#[109, 117, 108]⟩ [115, 97, 109, 101] = true by rw [show isW ⟨#[109, 117, 108]⟩ [115, 97, 109, 101] = false from by kernel_rfl]; decide)]
  rw [if_neg (show ¬ isW ⟨#[109, 117, 108]⟩ [99, 97, 108, 108] = true by rw [show isW ⟨#[109, 117, 108]⟩ [99, 97, 108, 108] = false from by kernel_rfl]; decide)]
  rw [if_neg (show ¬ isW ⟨#[109, 117, 108]⟩ [98, 97, 99, 107] = true by rw [show isW ⟨#[109, 117, 108]⟩ [98, 97, 99, 107] = false from by kernel_rfl]; decide)]
  rw [if_neg (show ¬ isW ⟨#[109, 117, 108]⟩ [115, 116, 111, 112] = true by rw [show isW ⟨#[109, 117, 108]⟩ [115, 116, 111, 112] = false from by kernel_rfl]; decide)]
  rw [if_neg (show ¬ isW ⟨#[109, 117, 108]⟩ [115, 101, 116] = true by rw [show isW ⟨#[109, 117, 108]⟩ [115, 101, 116] = false from by kernel_rfl]; decide)]
  rw [if_neg (show ¬ isW ⟨#[109, 117, 108]⟩ [109, 111, 118] = true by rw [show isW ⟨#[109, 117, 108]⟩ [109, 111, 118] = false from by kernel_rfl]; decide)]
  rw [if_neg (show ¬ isW ⟨#[109, 117, 108]⟩ [97, 100, 100] = true by rw [show isW ⟨#[109, 117, 108]⟩ [97, 100, 100] = false from by kernel_rfl]; decide)]
  rw [if_neg (show ¬ isW ⟨#[109, 117, 108]⟩ [115, 117, 98] = true by rw [show isW ⟨#[109, 117, 108]⟩ [115, 117, 98] = false from by kernel_rfl]; decide)]
  rw [if_pos (show isW ⟨#[109, 117, 108]⟩ [109, 117, 108] = true from by kernel_rfl)]
  rfl
theorem insQ_inc (L : List Said) (k : Nat) (q : Said) (x1 x2 : ByteArray) (h : q.kept = [⟨#[105, 110, 99]⟩, x1, x2]) : insQ L k q = .inc (regN x1) (numOf x2).1 := by
  obtain ⟨kd, kp, ok⟩ := q
  simp only at h
  subst h
  unfold insQ
  rw [show (⟨kd, [⟨#[105, 110, 99]⟩, x1, x2], ok⟩ : Said).word 0 = ⟨#[105, 110, 99]⟩ from rfl]
  rw [if_neg (show ¬ isW ⟨#[105, 110, 99]⟩ [106, 117, 109, 112] = true by rw [show isW ⟨#[105, 110, 99]⟩ [106, 117, 109, 112] = false from by kernel_rfl]; decide)]
  rw [if_neg (show ¬ isW ⟨#[105, 110, 99]⟩ [108, 101, 115, 115] = true by rw [show isW ⟨#[105, 110, 99]⟩ [108, 101, 115, 115] = false from by kernel_rfl]; decide)]
  rw [if_neg (show ¬ isW ⟨#[105, 110, 99]⟩ [115, 97, 109, 101] = true by rw [show isW ⟨#[105, 110, 99]⟩ [115, 97, 109, 101] = false from by kernel_rfl]; decide)]
  rw [if_neg (show ¬ isW ⟨#[105, 110, 99]⟩ [99, 97, 108, 108] = true by rw [show isW ⟨#[105, 110, 99]⟩ [99, 97, 108, 108] = false from by kernel_rfl]; decide)]
  rw [if_neg (show ¬ isW ⟨#[105, 110, 99]⟩ [98, 97, 99, 107] = true by rw [show isW ⟨#[105, 110, 99]⟩ [98, 97, 99, 107] = false from by kernel_rfl]; decide)]
  rw [if_neg (show ¬ isW ⟨#[105, 110, 99]⟩ [115, 116, 111, 112] = true by rw [show isW ⟨#[105, 110, 99]⟩ [115, 116, 111, 112] = false from by kernel_rfl]; decide)]
  rw [if_neg (show ¬ isW ⟨#[105, 110, 99]⟩ [115, 101, 116] = true by rw [show isW ⟨#[105, 110, 99]⟩ [115, 101, 116] = false from by kernel_rfl]; decide)]
  rw [if_neg (show ¬ isW ⟨#[105, 110, 99]⟩ [109, 111, 118] = true by rw [show isW ⟨#[105, 110, 99]⟩ [109, 111, 118] = false from by kernel_rfl]; decide)]
  rw [if_neg (show ¬ isW ⟨#[105, 110, 99]⟩ [97, 100, 100] = true by rw [show isW ⟨#[105, 110, 99]⟩ [97, 100, 100] = false from by kernel_rfl]; decide)]
  rw [if_neg (show ¬ isW ⟨#[105, 110, 99]⟩ [115, 117, 98] = true by rw [show isW ⟨#[105, 110, 99]⟩ [115, 117, 98] = false from by kernel_rfl]; decide)]
  rw [if_neg (show ¬ isW ⟨#[105, 110, 99]⟩ [109, 117, 108] = true by rw [show isW ⟨#[105, 110, 99]⟩ [109, 117, 108] = false from by kernel_rfl]; decide)]
  rw [if_pos (show isW ⟨#[105, 110, 99]⟩ [105, 110, 99] = true from by kernel_rfl)]
  rfl
theorem insQ_load (L : List Said) (k : Nat) (q : Said) (x1 x2 : ByteArray) (h : q.kept = [⟨#[108, 111, 97, 100]⟩, x1, x2]) : insQ L k q = .load (regN x1) (regN x2) := by
  obtain ⟨kd, kp, ok⟩ := q
  simp only at h
  subst h
  unfold insQ
  rw [show (⟨kd, [⟨#[108, 111, 97, 100]⟩, x1, x2], ok⟩ : Said).word 0 = ⟨#[108, 111, 97, 100]⟩ from rfl]
  rw [if_neg (show ¬ isW ⟨#[108, 111, 97, 100]⟩ [106, 117, 109, 112] = true by rw [show isW ⟨#[108, 111, 97, 100]⟩ [106, 117, 109, 112] = false from by kernel_rfl]; decide)]
  rw [if_neg (show ¬ isW ⟨#[108, 111, 97, 100]⟩ [108, 101, 115, 115] = true by rw [show isW ⟨#[108, 111, 97, 100]⟩ [108, 101, 115, 115] = false from by kernel_rfl]; decide)]
  rw [if_neg (show ¬ isW ⟨#[108, 111, 97, 100]⟩ [115, 97, 109, 101] = true by rw [show isW ⟨#[108, 111, 97, 100]⟩ [115, 97, 109, 101] = false from by kernel_rfl]; decide)]
  rw [if_neg (show ¬ isW ⟨#[108, 111, 97, 100]⟩ [99, 97, 108, 108] = true by rw [show isW ⟨#[108, 111, 97, 100]⟩ [99, 97, 108, 108] = false from by kernel_rfl]; decide)]
  rw [if_neg (show ¬ isW ⟨#[108, 111, 97, 100]⟩ [98, 97, 99, 107] = true by rw [show isW ⟨#[108, 111, 97, 100]⟩ [98, 97, 99, 107] = false from by kernel_rfl]; decide)]
  rw [if_neg (show ¬ isW ⟨#[108, 111, 97, 100]⟩ [115, 116, 111, 112] = true by rw [show isW ⟨#[108, 111, 97, 100]⟩ [115, 116, 111, 112] = false from by kernel_rfl]; decide)]
  rw [if_neg (show ¬ isW ⟨#[108, 111, 97, 100]⟩ [115, 101, 116] = true by rw [show isW ⟨#[108, 111, 97, 100]⟩ [115, 101, 116] = false from by kernel_rfl]; decide)]
  rw [if_neg (show ¬ isW ⟨#[108, 111, 97, 100]⟩ [109, 111, 118] = true by rw [show isW ⟨#[108, 111, 97, 100]⟩ [109, 111, 118] = false from by kernel_rfl]; decide)]
  rw [if_neg (show ¬ isW ⟨#[108, 111, 97, 100]⟩ [97, 100, 100] = true by rw [show isW ⟨#[108, 111, 97, 100]⟩ [97, 100, 100] = false from by kernel_rfl]; decide)]
  rw [if_neg (show ¬ isW ⟨#[108, 111, 97, 100]⟩ [115, 117, 98] = true by rw [show isW ⟨#[108, 111, 97, 100]⟩ [115, 117, 98] = false from by kernel_rfl]; decide)]
  rw [if_neg (show ¬ isW ⟨#[108, 111, 97, 100]⟩ [109, 117, 108] = true by rw [show isW ⟨#[108, 111, 97, 100]⟩ [109, 117, 108] = false from by kernel_rfl]; decide)]
  rw [if_neg (show ¬ isW ⟨#[108, 111, 97, 100]⟩ [105, 110, 99] = true by rw [show isW ⟨#[108, 111, 97, 100]⟩ [105, 110, 99] = false from by kernel_rfl]; decide)]
  rw [if_pos (show isW ⟨#[108, 111, 97, 100]⟩ [108, 111, 97, 100] = true from by kernel_rfl)]
  rfl
theorem insQ_store (L : List Said) (k : Nat) (q : Said) (x1 x2 : ByteArray) (h : q.kept = [⟨#[115, 116, 111, 114, 101]⟩, x1, x2]) : insQ L k q = .store (regN x1) (regN x2) := by
  obtain ⟨kd, kp, ok⟩ := q
  simp only at h
  subst h
  unfold insQ
  rw [show (⟨kd, [⟨#[115, 116, 111, 114, 101]⟩, x1, x2], ok⟩ : Said).word 0 = ⟨#[115, 116, 111, 114, 101]⟩ from rfl]
  rw [if_neg (show ¬ isW ⟨#[115, 116, 111, 114, 101]⟩ [106, 117, 109, 112] = true by rw [show isW ⟨#[115, 116, 111, 114, 101]⟩ [106, 117, 109, 112] = false from by kernel_rfl]; decide)]
  rw [if_neg (show ¬ isW ⟨#[115, 116, 111, 114, 101]⟩ [108, 101, 115, 115] = true by rw [show isW ⟨#[115, 116, 111, 114, 101]⟩ [108, 101, 115, 115] = false from by kernel_rfl]; decide)]
  rw [if_neg (show ¬ isW ⟨#[115, 116, 111, 114, 101]⟩ [115, 97, 109, 101] = true by rw [show isW ⟨#[115, 116, 111, 114, 101]⟩ [115, 97, 109, 101] = false from by kernel_rfl]; decide)]
  rw [if_neg (show ¬ isW ⟨#[115, 116, 111, 114, 101]⟩ [99, 97, 108, 108] = true by rw [show isW ⟨#[115, 116, 111, 114, 101]⟩ [99, 97, 108, 108] = false from by kernel_rfl]; decide)]
  rw [if_neg (show ¬ isW ⟨#[115, 116, 111, 114, 101]⟩ [98, 97, 99, 107] = true by rw [show isW ⟨#[115, 116, 111, 114, 101]⟩ [98, 97, 99, 107] = false from by kernel_rfl]; decide)]
  rw [if_neg (show ¬ isW ⟨#[115, 116, 111, 114, 101]⟩ [115, 116, 111, 112] = true by rw [show isW ⟨#[115, 116, 111, 114, 101]⟩ [115, 116, 111, 112] = false from by kernel_rfl]; decide)]
  rw [if_neg (show ¬ isW ⟨#[115, 116, 111, 114, 101]⟩ [115, 101, 116] = true by rw [show isW ⟨#[115, 116, 111, 114, 101]⟩ [115, 101, 116] = false from by kernel_rfl]; decide)]
  rw [if_neg (show ¬ isW ⟨#[115, 116, 111, 114, 101]⟩ [109, 111, 118] = true by rw [show isW ⟨#[115, 116, 111, 114, 101]⟩ [109, 111, 118] = false from by kernel_rfl]; decide)]
  rw [if_neg (show ¬ isW ⟨#[115, 116, 111, 114, 101]⟩ [97, 100, 100] = true by rw [show isW ⟨#[115, 116, 111, 114, 101]⟩ [97, 100, 100] = false from by kernel_rfl]; decide)]
  rw [if_neg (show ¬ isW ⟨#[115, 116, 111, 114, 101]⟩ [115, 117, 98] = true by rw [show isW ⟨#[115, 116, 111, 114, 101]⟩ [115, 117, 98] = false from by kernel_rfl]; decide)]
  rw [if_neg (show ¬ isW ⟨#[115, 116, 111, 114, 101]⟩ [109, 117, 108] = true by rw [show isW ⟨#[115, 116, 111, 114, 101]⟩ [109, 117, 108] = false from by kernel_rfl]; decide)]
  rw [if_neg (show ¬ isW ⟨#[115, 116, 111, 114, 101]⟩ [105, 110, 99] = true by rw [show isW ⟨#[115, 116, 111, 114, 101]⟩ [105, 110, 99] = false from by kernel_rfl]; decide)]
  rw [if_neg (show ¬ isW ⟨#[115, 116, 111, 114, 101]⟩ [108, 111, 97, 100] = true by rw [show isW ⟨#[115, 116, 111, 114, 101]⟩ [108, 111, 97, 100] = false from by kernel_rfl]; decide)]
  rw [if_pos (show isW ⟨#[115, 116, 111, 114, 101]⟩ [115, 116, 111, 114, 101] = true from by kernel_rfl)]
  rfl
theorem insQ_read (L : List Said) (k : Nat) (q : Said) (x1 : ByteArray) (h : q.kept = [⟨#[114, 101, 97, 100]⟩, x1]) : insQ L k q = .read (regN x1) := by
  obtain ⟨kd, kp, ok⟩ := q
  simp only at h
  subst h
  unfold insQ
  rw [show (⟨kd, [⟨#[114, 101, 97, 100]⟩, x1], ok⟩ : Said).word 0 = ⟨#[114, 101, 97, 100]⟩ from rfl]
  rw [if_neg (show ¬ isW ⟨#[114, 101, 97, 100]⟩ [106, 117, 109, 112] = true by rw [show isW ⟨#[114, 101, 97, 100]⟩ [106, 117, 109, 112] = false from by kernel_rfl]; decide)]
  rw [if_neg (show ¬ isW ⟨#[114, 101, 97, 100]⟩ [108, 101, 115, 115] = true by rw [show isW ⟨#[114, 101, 97, 100]⟩ [108, 101, 115, 115] = false from by kernel_rfl]; decide)]
  rw [if_neg (show ¬ isW ⟨#[114, 101, 97, 100]⟩ [115, 97, 109, 101] = true by rw [show isW ⟨#[114, 101, 97, 100]⟩ [115, 97, 109, 101] = false from by kernel_rfl]; decide)]
  rw [if_neg (show ¬ isW ⟨#[114, 101, 97, 100]⟩ [99, 97, 108, 108] = true by rw [show isW ⟨#[114, 101, 97, 100]⟩ [99, 97, 108, 108] = false from by kernel_rfl]; decide)]
  rw [if_neg (show ¬ isW ⟨#[114, 101, 97, 100]⟩ [98, 97, 99, 107] = true by rw [show isW ⟨#[114, 101, 97, 100]⟩ [98, 97, 99, 107] = false from by kernel_rfl]; decide)]
  rw [if_neg (show ¬ isW ⟨#[114, 101, 97, 100]⟩ [115, 116, 111, 112] = true by rw [show isW ⟨#[114, 101, 97, 100]⟩ [115, 116, 111, 112] = false from by kernel_rfl]; decide)]
  rw [if_neg (show ¬ isW ⟨#[114, 101, 97, 100]⟩ [115, 101, 116] = true by rw [show isW ⟨#[114, 101, 97, 100]⟩ [115, 101, 116] = false from by kernel_rfl]; decide)]
  rw [if_neg (show ¬ isW ⟨#[114, 101, 97, 100]⟩ [109, 111, 118] = true by rw [show isW ⟨#[114, 101, 97, 100]⟩ [109, 111, 118] = false from by kernel_rfl]; decide)]
  rw [if_neg (show ¬ isW ⟨#[114, 101, 97, 100]⟩ [97, 100, 100] = true by rw [show isW ⟨#[114, 101, 97, 100]⟩ [97, 100, 100] = false from by kernel_rfl]; decide)]
  rw [if_neg (show ¬ isW ⟨#[114, 101, 97, 100]⟩ [115, 117, 98] = true by rw [show isW ⟨#[114, 101, 97, 100]⟩ [115, 117, 98] = false from by kernel_rfl]; decide)]
  rw [if_neg (show ¬ isW ⟨#[114, 101, 97, 100]⟩ [109, 117, 108] = true by rw [show isW ⟨#[114, 101, 97, 100]⟩ [109, 117, 108] = false from by kernel_rfl]; decide)]
  rw [if_neg (show ¬ isW ⟨#[114, 101, 97, 100]⟩ [105, 110, 99] = true by rw [show isW ⟨#[114, 101, 97, 100]⟩ [105, 110, 99] = false from by kernel_rfl]; decide)]
  rw [if_neg (show ¬ isW ⟨#[114, 101, 97, 100]⟩ [108, 111, 97, 100] = true by rw [show isW ⟨#[114, 101, 97, 100]⟩ [108, 111, 97, 100] = false from by kernel_rfl]; decide)]
  rw [if_neg (show ¬ isW ⟨#[114, 101, 97, 100]⟩ [115, 116, 111, 114, 101] = true by rw [show isW ⟨#[114, 101, 97, 100]⟩ [115, 116, 111, 114, 101] = false from by kernel_rfl]; decide)]
  rw [if_pos (show isW ⟨#[114, 101, 97, 100]⟩ [114, 101, 97, 100] = true from by kernel_rfl)]
  rfl
theorem insQ_write (L : List Said) (k : Nat) (q : Said) (x1 : ByteArray) (h : q.kept = [⟨#[119, 114, 105, 116, 101]⟩, x1]) : insQ L k q = .write (regN x1) := by
  obtain ⟨kd, kp, ok⟩ := q
  simp only at h
  subst h
  unfold insQ
  rw [show (⟨kd, [⟨#[119, 114, 105, 116, 101]⟩, x1], ok⟩ : Said).word 0 = ⟨#[119, 114, 105, 116, 101]⟩ from rfl]
  rw [if_neg (show ¬ isW ⟨#[119, 114, 105, 116, 101]⟩ [106, 117, 109, 112] = true by rw [show isW ⟨#[119, 114, 105, 116, 101]⟩ [106, 117, 109, 112] = false from by kernel_rfl]; decide)]
  rw [if_neg (show ¬ isW ⟨#[119, 114, 105, 116, 101]⟩ [108, 101, 115, 115] = true by rw [show isW ⟨#[119, 114, 105, 116, 101]⟩ [108, 101, 115, 115] = false from by kernel_rfl]; decide)]
  rw [if_neg (show ¬ isW ⟨#[119, 114, 105, 116, 101]⟩ [115, 97, 109, 101] = true by rw [show isW ⟨#[119, 114, 105, 116, 101]⟩ [115, 97, 109, 101] = false from by kernel_rfl]; decide)]
  rw [if_neg (show ¬ isW ⟨#[119, 114, 105, 116, 101]⟩ [99, 97, 108, 108] = true by rw [show isW ⟨#[119, 114, 105, 116, 101]⟩ [99, 97, 108, 108] = false from by kernel_rfl]; decide)]
  rw [if_neg (show ¬ isW ⟨#[119, 114, 105, 116, 101]⟩ [98, 97, 99, 107] = true by rw [show isW ⟨#[119, 114, 105, 116, 101]⟩ [98, 97, 99, 107] = false from by kernel_rfl]; decide)]
  rw [if_neg (show ¬ isW ⟨#[119, 114, 105, 116, 101]⟩ [115, 116, 111, 112] = true by rw [show isW ⟨#[119, 114, 105, 116, 101]⟩ [115, 116, 111, 112] = false from by kernel_rfl]; decide)]
  rw [if_neg (show ¬ isW ⟨#[119, 114, 105, 116, 101]⟩ [115, 101, 116] = true by rw [show isW ⟨#[119, 114, 105, 116, 101]⟩ [115, 101, 116] = false from by kernel_rfl]; decide)]
  rw [if_neg (show ¬ isW ⟨#[119, 114, 105, 116, 101]⟩ [109, 111, 118] = true by rw [show isW ⟨#[119, 114, 105, 116, 101]⟩ [109, 111, 118] = false from by kernel_rfl]; decide)]
  rw [if_neg (show ¬ isW ⟨#[119, 114, 105, 116, 101]⟩ [97, 100, 100] = true by rw [show isW ⟨#[119, 114, 105, 116, 101]⟩ [97, 100, 100] = false from by kernel_rfl]; decide)]
  rw [if_neg (show ¬ isW ⟨#[119, 114, 105, 116, 101]⟩ [115, 117, 98] = true by rw [show isW ⟨#[119, 114, 105, 116, 101]⟩ [115, 117, 98] = false from by kernel_rfl]; decide)]
  rw [if_neg (show ¬ isW ⟨#[119, 114, 105, 116, 101]⟩ [109, 117, 108] = true by rw [show isW ⟨#[119, 114, 105, 116, 101]⟩ [109, 117, 108] = false from by kernel_rfl]; decide)]
  rw [if_neg (show ¬ isW ⟨#[119, 114, 105, 116, 101]⟩ [105, 110, 99] = true by rw [show isW ⟨#[119, 114, 105, 116, 101]⟩ [105, 110, 99] = false from by kernel_rfl]; decide)]
  rw [if_neg (show ¬ isW ⟨#[119, 114, 105, 116, 101]⟩ [108, 111, 97, 100] = true by rw [show isW ⟨#[119, 114, 105, 116, 101]⟩ [108, 111, 97, 100] = false from by kernel_rfl]; decide)]
  rw [if_neg (show ¬ isW ⟨#[119, 114, 105, 116, 101]⟩ [115, 116, 111, 114, 101] = true by rw [show isW ⟨#[119, 114, 105, 116, 101]⟩ [115, 116, 111, 114, 101] = false from by kernel_rfl]; decide)]
  rw [if_neg (show ¬ isW ⟨#[119, 114, 105, 116, 101]⟩ [114, 101, 97, 100] = true by rw [show isW ⟨#[119, 114, 105, 116, 101]⟩ [114, 101, 97, 100] = false from by kernel_rfl]; decide)]
  rfl

end Go.Proofs.YtfpgjkbjbbgciaaGreatDoor
