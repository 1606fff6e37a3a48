import Derived.Test.YtfpgjkbjbbgciaaGreatDoorMb46
import Derived.Deep.RegionHeld3
namespace Go.Proofs.YtfpgjkbjbbgciaaGreatDoor
open Go.RowKit Sp

set_option maxRecDepth 100000 in
set_option maxHeartbeats 4000000 in
theorem cins_set (w : World) (ao bo : Option Addr) (n1 c1 n2 c2 pm : Nat) (sort line a b c n k : Int) (nm : ByteArray) :
    Calls Tryz.prog 81 #[.agg #[.slice ao n1 c1, .map (some pm), .slice bo n2 c2], stm sort line ⟨#[115, 101, 116]⟩ a b c n nm, .int .i64 k] w fun e w' => e = .returned (.iface 167 (.agg #[.int .i64 a, .int .i64 n])) ∧ Below w.heap.size w w' := by
  have hrb : ∀ W, (Instr.build 167 #[(0, .int .i64 a), (1, .int .i64 n)]).run Tryz.prog W = .ok (.agg #[.int .i64 a, .int .i64 n]) W := fun W => run_build W 167 _ _ (by kernel_rfl)
  go_enter Tryz.func81, Tryz.ntmps81
  go_wp2
  go_ret
  exact ⟨rfl, (((Below.refl _ _).alloc (Nat.le_refl _) _).alloc (by simp) _).alloc (by simp; omega) _⟩
set_option maxRecDepth 100000 in
set_option maxHeartbeats 4000000 in
theorem cins_mov (w : World) (ao bo : Option Addr) (n1 c1 n2 c2 pm : Nat) (sort line a b c n k : Int) (nm : ByteArray) :
    Calls Tryz.prog 81 #[.agg #[.slice ao n1 c1, .map (some pm), .slice bo n2 c2], stm sort line ⟨#[109, 111, 118]⟩ a b c n nm, .int .i64 k] w fun e w' => e = .returned (.iface 169 (.agg #[.int .i64 a, .int .i64 b])) ∧ Below w.heap.size w w' := by
  have hrb : ∀ W, (Instr.build 169 #[(0, .int .i64 a), (1, .int .i64 b)]).run Tryz.prog W = .ok (.agg #[.int .i64 a, .int .i64 b]) W := fun W => run_build W 169 _ _ (by kernel_rfl)
  go_enter Tryz.func81, Tryz.ntmps81
  go_wp2
  go_ret
  exact ⟨rfl, (((Below.refl _ _).alloc (Nat.le_refl _) _).alloc (by simp) _).alloc (by simp; omega) _⟩
set_option maxRecDepth 100000 in
set_option maxHeartbeats 4000000 in
theorem cins_add (w : World) (ao bo : Option Addr) (n1 c1 n2 c2 pm : Nat) (sort line a b c n k : Int) (nm : ByteArray) :
    Calls Tryz.prog 81 #[.agg #[.slice ao n1 c1, .map (some pm), .slice bo n2 c2], stm sort line ⟨#[97, 100, 100]⟩ a b c n nm, .int .i64 k] w fun e w' => e = .returned (.iface 171 (.agg #[.int .i64 a, .int .i64 b, .int .i64 c])) ∧ Below w.heap.size w w' := by
  have hrb : ∀ W, (Instr.build 171 #[(0, .int .i64 a), (1, .int .i64 b), (2, .int .i64 c)]).run Tryz.prog W = .ok (.agg #[.int .i64 a, .int .i64 b, .int .i64 c]) W := fun W => run_build W 171 _ _ (by kernel_rfl)
  go_enter Tryz.func81, Tryz.ntmps81
  go_wp2
  go_ret
  exact ⟨rfl, (((Below.refl _ _).alloc (Nat.le_refl _) _).alloc (by simp) _).alloc (by simp; omega) _⟩
set_option maxRecDepth 100000 in
set_option maxHeartbeats 4000000 in
theorem cins_sub (w : World) (ao bo : Option Addr) (n1 c1 n2 c2 pm : Nat) (sort line a b c n k : Int) (nm : ByteArray) :
    Calls Tryz.prog 81 #[.agg #[.slice ao n1 c1, .map (some pm), .slice bo n2 c2], stm sort line ⟨#[115, 117, 98]⟩ a b c n nm, .int .i64 k] w fun e w' => e = .returned (.iface 172 (.agg #[.int .i64 a, .int .i64 b, .int .i64 c])) ∧ Below w.heap.size w w' := by
  have hrb : ∀ W, (Instr.build 172 #[(0, .int .i64 a), (1, .int .i64 b), (2, .int .i64 c)]).run Tryz.prog W = .ok (.agg #[.int .i64 a, .int .i64 b, .int .i64 c]) W := fun W => run_build W 172 _ _ (by kernel_rfl)
  go_enter Tryz.func81, Tryz.ntmps81
  go_wp2
  go_ret
  exact ⟨rfl, (((Below.refl _ _).alloc (Nat.le_refl _) _).alloc (by simp) _).alloc (by simp; omega) _⟩
set_option maxRecDepth 100000 in
set_option maxHeartbeats 4000000 in
theorem cins_mul (w : World) (ao bo : Option Addr) (n1 c1 n2 c2 pm : Nat) (sort line a b c n k : Int) (nm : ByteArray) :
    Calls Tryz.prog 81 #[.agg #[.slice ao n1 c1, .map (some pm), .slice bo n2 c2], stm sort line ⟨#[109, 117, 108]⟩ a b c n nm, .int .i64 k] w fun e w' => e = .returned (.iface 173 (.agg #[.int .i64 a, .int .i64 b, .int .i64 c])) ∧ Below w.heap.size w w' := by
  have hrb : ∀ W, (Instr.build 173 #[(0, .int .i64 a), (1, .int .i64 b), (2, .int .i64 c)]).run Tryz.prog W = .ok (.agg #[.int .i64 a, .int .i64 b, .int .i64 c]) W := fun W => run_build W 173 _ _ (by kernel_rfl)
  go_enter Tryz.func81, Tryz.ntmps81
  go_wp2
  go_ret
  exact ⟨rfl, (((Below.refl _ _).alloc (Nat.le_refl _) _).alloc (by simp) _).alloc (by simp; omega) _⟩
set_option maxRecDepth 100000 in
set_option maxHeartbeats 4000000 in
theorem cins_inc (w : World) (ao bo : Option Addr) (n1 c1 n2 c2 pm : Nat) (sort line a b c n k : Int) (nm : ByteArray) :
    Calls Tryz.prog 81 #[.agg #[.slice ao n1 c1, .map (some pm), .slice bo n2 c2], stm sort line ⟨#[105, 110, 99]⟩ a b c n nm, .int .i64 k] w fun e w' => e = .returned (.iface 174 (.agg #[.int .i64 a, .int .i64 n])) ∧ Below w.heap.size w w' := by
  have hrb : ∀ W, (Instr.build 174 #[(0, .int .i64 a), (1, .int .i64 n)]).run Tryz.prog W = .ok (.agg #[.int .i64 a, .int .i64 n]) W := fun W => run_build W 174 _ _ (by kernel_rfl)
  go_enter Tryz.func81, Tryz.ntmps81
  go_wp2
  go_ret
  exact ⟨rfl, (((Below.refl _ _).alloc (Nat.le_refl _) _).alloc (by simp) _).alloc (by simp; omega) _⟩
set_option maxRecDepth 100000 in
set_option maxHeartbeats 4000000 in
theorem cins_load (w : World) (ao bo : Option Addr) (n1 c1 n2 c2 pm : Nat) (sort line a b c n k : Int) (nm : ByteArray) :
    Calls Tryz.prog 81 #[.agg #[.slice ao n1 c1, .map (some pm), .slice bo n2 c2], stm sort line ⟨#[108, 111, 97, 100]⟩ a b c n nm, .int .i64 k] w fun e w' => e = .returned (.iface 176 (.agg #[.int .i64 a, .int .i64 b])) ∧ Below w.heap.size w w' := by
  have hrb : ∀ W, (Instr.build 176 #[(0, .int .i64 a), (1, .int .i64 b)]).run Tryz.prog W = .ok (.agg #[.int .i64 a, .int .i64 b]) W := fun W => run_build W 176 _ _ (by kernel_rfl)
  go_enter Tryz.func81, Tryz.ntmps81
  go_wp2
  go_ret
  exact ⟨rfl, (((Below.refl _ _).alloc (Nat.le_refl _) _).alloc (by simp) _).alloc (by simp; omega) _⟩
set_option maxRecDepth 100000 in
set_option maxHeartbeats 4000000 in
theorem cins_store (w : World) (ao bo : Option Addr) (n1 c1 n2 c2 pm : Nat) (sort line a b c n k : Int) (nm : ByteArray) :
    Calls Tryz.prog 81 #[.agg #[.slice ao n1 c1, .map (some pm), .slice bo n2 c2], stm sort line ⟨#[115, 116, 111, 114, 101]⟩ a b c n nm, .int .i64 k] w fun e w' => e = .returned (.iface 178 (.agg #[.int .i64 a, .int .i64 b])) ∧ Below w.heap.size w w' := by
  have hrb : ∀ W, (Instr.build 178 #[(0, .int .i64 a), (1, .int .i64 b)]).run Tryz.prog W = .ok (.agg #[.int .i64 a, .int .i64 b]) W := fun W => run_build W 178 _ _ (by kernel_rfl)
  go_enter Tryz.func81, Tryz.ntmps81
  go_wp2
  go_ret
  exact ⟨rfl, (((Below.refl _ _).alloc (Nat.le_refl _) _).alloc (by simp) _).alloc (by simp; omega) _⟩
set_option maxRecDepth 100000 in
set_option maxHeartbeats 4000000 in
theorem cins_read (w : World) (ao bo : Option Addr) (n1 c1 n2 c2 pm : Nat) (sort line a b c n k : Int) (nm : ByteArray) :
    Calls Tryz.prog 81 #[.agg #[.slice ao n1 c1, .map (some pm), .slice bo n2 c2], stm sort line ⟨#[114, 101, 97, 100]⟩ a b c n nm, .int .i64 k] w fun e w' => e = .returned (.iface 180 (.agg #[.int .i64 a])) ∧ Below w.heap.size w w' := by
  have hrb : ∀ W, (Instr.build 180 #[(0, .int .i64 a)]).run Tryz.prog W = .ok (.agg #[.int .i64 a]) W := fun W => run_build W 180 _ _ (by kernel_rfl)
  go_enter Tryz.func81, Tryz.ntmps81
  go_wp2
  go_ret
  exact ⟨rfl, (((Below.refl _ _).alloc (Nat.le_refl _) _).alloc (by simp) _).alloc (by simp; omega) _⟩
set_option maxRecDepth 100000 in
set_option maxHeartbeats 4000000 in
theorem cins_write (w : World) (ao bo : Option Addr) (n1 c1 n2 c2 pm : Nat) (sort line a b c n k : Int) (nm : ByteArray) :
    Calls Tryz.prog 81 #[.agg #[.slice ao n1 c1, .map (some pm), .slice bo n2 c2], stm sort line ⟨#[119, 114, 105, 116, 101]⟩ a b c n nm, .int .i64 k] w fun e w' => e = .returned (.iface 182 (.agg #[.int .i64 a])) ∧ Below w.heap.size w w' := by
  have hrb : ∀ W, (Instr.build 182 #[(0, .int .i64 a)]).run Tryz.prog W = .ok (.agg #[.int .i64 a]) W := fun W => run_build W 182 _ _ (by kernel_rfl)
  go_enter Tryz.func81, Tryz.ntmps81
  go_wp2
  go_ret
  exact ⟨rfl, (((Below.refl _ _).alloc (Nat.le_refl _) _).alloc (by simp) _).alloc (by simp; omega) _⟩
set_option maxRecDepth 100000 in
set_option maxHeartbeats 4000000 in
theorem cins_back (w : World) (ao bo : Option Addr) (n1 c1 n2 c2 pm : Nat) (sort line a b c n k : Int) (nm : ByteArray) :
    Calls Tryz.prog 81 #[.agg #[.slice ao n1 c1, .map (some pm), .slice bo n2 c2], stm sort line ⟨#[98, 97, 99, 107]⟩ a b c n nm, .int .i64 k] w fun e w' => e = .returned (.iface 192 (.agg #[])) ∧ Below w.heap.size w w' := by
  have hrb : ∀ W, (Instr.build 192 #[]).run Tryz.prog W = .ok (.agg #[]) W := fun W => run_build W 192 _ _ (by kernel_rfl)
  go_enter Tryz.func81, Tryz.ntmps81
  go_wp2
  go_ret
  exact ⟨rfl, (((Below.refl _ _).alloc (Nat.le_refl _) _).alloc (by simp) _).alloc (by simp; omega) _⟩
set_option maxRecDepth 100000 in
set_option maxHeartbeats 4000000 in
theorem cins_stop (w : World) (ao bo : Option Addr) (n1 c1 n2 c2 pm : Nat) (sort line a b c n k : Int) (nm : ByteArray) :
    Calls Tryz.prog 81 #[.agg #[.slice ao n1 c1, .map (some pm), .slice bo n2 c2], stm sort line ⟨#[115, 116, 111, 112]⟩ a b c n nm, .int .i64 k] w fun e w' => e = .returned (.iface 193 (.agg #[])) ∧ Below w.heap.size w w' := by
  have hrb : ∀ W, (Instr.build 193 #[]).run Tryz.prog W = .ok (.agg #[]) W := fun W => run_build W 193 _ _ (by kernel_rfl)
  go_enter Tryz.func81, Tryz.ntmps81
  go_wp2
  go_ret
  exact ⟨rfl, (((Below.refl _ _).alloc (Nat.le_refl _) _).alloc (by simp) _).alloc (by simp; omega) _⟩

end Go.Proofs.YtfpgjkbjbbgciaaGreatDoor

namespace Go.Proofs.YtfpgjkbjbbgciaaGreatDoor
open Go.RowKit Sp

theorem three_boxes {w : World} {a b c : Obj} : Below w.heap.size w (((w.alloc a).alloc b).alloc c) := (((Below.refl _ _).alloc (Nat.le_refl _) _).alloc (by simp) _).alloc (by simp; omega) _
set_option maxRecDepth 100000 in
set_option maxHeartbeats 4000000 in
theorem cins_jump (w : World) (ao bo : Option Addr) (n1 c1 n2 c2 pm : Nat) (sort line a b c n k to : Int) (nm : ByteArray)
    (hlab : ∀ W, Below w.heap.size w W → Calls Tryz.prog 108 #[.agg #[.slice ao n1 c1, .map (some pm), .slice bo n2 c2], .string nm, .int .i64 k] W fun e w' => e = .returned (.int .i64 to) ∧ Below W.heap.size W w') :
    Calls Tryz.prog 81 #[.agg #[.slice ao n1 c1, .map (some pm), .slice bo n2 c2], stm sort line ⟨#[106, 117, 109, 112]⟩ a b c n nm, .int .i64 k] w fun e w' => e = .returned (.iface 185 (.agg #[.int .i64 to])) ∧ Below w.heap.size w w' := by
  have hrb : ∀ W, (Instr.build 185 #[(0, .int .i64 to)]).run Tryz.prog W = .ok (.agg #[.int .i64 to]) W := fun W => run_build W 185 _ _ (by kernel_rfl)
  have hB : Below w.heap.size w (((w.alloc (.cells #[.slice ao n1 c1, .map (some pm), .slice bo n2 c2] 128)).alloc (.cells #[.int .i64 sort, .int .i64 line, .string ⟨#[106, 117, 109, 112]⟩, .int .i64 a, .int .i64 b, .int .i64 c, .int .i64 n, .string nm] 135)).alloc (.cells #[.int .i64 a, .int .i64 b, .int .i64 c] 133)) := three_boxes
  go_enter Tryz.func81, Tryz.ntmps81
  go_wp2_with (first | (go_at_call 108; refine (hlab _ hB).mono ?_; rintro e w2 ⟨rfl, hb2⟩))
  go_ret
  exact ⟨rfl, hB.trans (hb2.mono hB.size)⟩
set_option maxRecDepth 100000 in
set_option maxHeartbeats 4000000 in
theorem cins_call (w : World) (ao bo : Option Addr) (n1 c1 n2 c2 pm : Nat) (sort line a b c n k to : Int) (nm : ByteArray)
    (hlab : ∀ W, Below w.heap.size w W → Calls Tryz.prog 109 #[.agg #[.slice ao n1 c1, .map (some pm), .slice bo n2 c2], .string nm] W fun e w' => e = .returned (.int .i64 to) ∧ Below W.heap.size W w') :
    Calls Tryz.prog 81 #[.agg #[.slice ao n1 c1, .map (some pm), .slice bo n2 c2], stm sort line ⟨#[99, 97, 108, 108]⟩ a b c n nm, .int .i64 k] w fun e w' => e = .returned (.iface 190 (.agg #[.int .i64 to])) ∧ Below w.heap.size w w' := by
  have hrb : ∀ W, (Instr.build 190 #[(0, .int .i64 to)]).run Tryz.prog W = .ok (.agg #[.int .i64 to]) W := fun W => run_build W 190 _ _ (by kernel_rfl)
  have hB : Below w.heap.size w (((w.alloc (.cells #[.slice ao n1 c1, .map (some pm), .slice bo n2 c2] 128)).alloc (.cells #[.int .i64 sort, .int .i64 line, .string ⟨#[99, 97, 108, 108]⟩, .int .i64 a, .int .i64 b, .int .i64 c, .int .i64 n, .string nm] 135)).alloc (.cells #[.int .i64 a, .int .i64 b, .int .i64 c] 133)) := three_boxes
  go_enter Tryz.func81, Tryz.ntmps81
  go_wp2_with (first | (go_at_call 109; refine (hlab _ hB).mono ?_; rintro e w2 ⟨rfl, hb2⟩))
  go_ret
  exact ⟨rfl, hB.trans (hb2.mono hB.size)⟩

end Go.Proofs.YtfpgjkbjbbgciaaGreatDoor

namespace Go.Proofs.YtfpgjkbjbbgciaaGreatDoor
open Go.RowKit Sp

theorem third_box (w : World) (a b : Obj) (cs : Array Value) (t : TypeId) (j : Nat) : (((w.alloc a).alloc b).alloc (.cells cs t)).cell? ⟨w.heap.size + 1 + 1, j, none⟩ = cs[j]? := by
  have h := World.cell?_alloc_new (w := (w.alloc a).alloc b) cs t j
  rw [show ((w.alloc a).alloc b).heap.size = w.heap.size + 1 + 1 by simp] at h
  exact h
theorem second_box (w : World) (a c : Obj) (cs : Array Value) (t : TypeId) (j : Nat) : (((w.alloc a).alloc (.cells cs t)).alloc c).cell? ⟨w.heap.size + 1, j, none⟩ = cs[j]? := by
  have h := World.cell?_alloc_new (w := w.alloc a) cs t j
  rw [show (w.alloc a).heap.size = w.heap.size + 1 by simp] at h
  rw [← h]
  exact World.cell?_of_block (w := (w.alloc a).alloc (.cells cs t)) (((Below.refl ((w.alloc a).alloc (.cells cs t)).heap.size ((w.alloc a).alloc (.cells cs t))).alloc (Nat.le_refl _) c).block (w.heap.size + 1) (by simp))
theorem first_box (w : World) (b c : Obj) (cs : Array Value) (t : TypeId) (j : Nat) : (((w.alloc (.cells cs t)).alloc b).alloc c).cell? ⟨w.heap.size, j, none⟩ = cs[j]? := by
  have h := World.cell?_alloc_new (w := w) cs t j
  rw [← h]
  exact World.cell?_of_block (w := w.alloc (.cells cs t)) ((((Below.refl (w.alloc (.cells cs t)).heap.size (w.alloc (.cells cs t))).alloc (Nat.le_refl _) b).alloc (by simp) c).block w.heap.size (by simp))
/-- The cells that are told of hold on. -/
theorem still {w w' : World} (hb : Below w.heap.size w w') {p : Addr} {v : Value} (h : w.cell? p = some v) : w'.cell? p = some v := (hb.cell (World.block_lt_of_cell? w p h)).trans h

set_option maxRecDepth 100000 in
set_option maxHeartbeats 4000000 in
theorem cins_less (w : World) (ao bo : Option Addr) (n1 c1 n2 c2 pm : Nat) (sort line a b c n k to : Int) (nm : ByteArray)
    (hlab : ∀ W, Below w.heap.size w W → Calls Tryz.prog 108 #[.agg #[.slice ao n1 c1, .map (some pm), .slice bo n2 c2], .string nm, .int .i64 k] W fun e w' => e = .returned (.int .i64 to) ∧ Below W.heap.size W w') :
    Calls Tryz.prog 81 #[.agg #[.slice ao n1 c1, .map (some pm), .slice bo n2 c2], stm sort line ⟨#[108, 101, 115, 115]⟩ a b c n nm, .int .i64 k] w fun e w' => e = .returned (.iface 187 (.agg #[.int .i64 a, .int .i64 b, .int .i64 to])) ∧ Below w.heap.size w w' := by
  have hrb : ∀ W, (Instr.build 187 #[(0, .int .i64 a), (1, .int .i64 b), (2, .int .i64 to)]).run Tryz.prog W = .ok (.agg #[.int .i64 a, .int .i64 b, .int .i64 to]) W := fun W => run_build W 187 _ _ (by kernel_rfl)
  have hB : Below w.heap.size w (((w.alloc (.cells #[.slice ao n1 c1, .map (some pm), .slice bo n2 c2] 128)).alloc (.cells #[.int .i64 sort, .int .i64 line, .string ⟨#[108, 101, 115, 115]⟩, .int .i64 a, .int .i64 b, .int .i64 c, .int .i64 n, .string nm] 135)).alloc (.cells #[.int .i64 a, .int .i64 b, .int .i64 c] 133)) := three_boxes
  go_enter Tryz.func81, Tryz.ntmps81
  go_wp2_with fail
  go_region_held3 (fun W => Below w.heap.size w W ∧ W.cell? ⟨w.heap.size, 0, none⟩ = some (.slice ao n1 c1) ∧ W.cell? ⟨w.heap.size, 1, none⟩ = some (.map (some pm)) ∧ W.cell? ⟨w.heap.size, 2, none⟩ = some (.slice bo n2 c2) ∧
      W.cell? ⟨w.heap.size + 1, 7, none⟩ = some (.string nm) ∧ W.cell? ⟨w.heap.size + 1 + 1, 0, none⟩ = some (.int .i64 a) ∧ W.cell? ⟨w.heap.size + 1 + 1, 1, none⟩ = some (.int .i64 b))
    (first
      | (refine ⟨hB.drew, first_box _ _ _ _ _ 0, first_box _ _ _ _ _ 1, first_box _ _ _ _ _ 2, second_box _ _ _ _ _ 7, third_box _ _ _ _ _ 0, third_box _ _ _ _ _ 1⟩)
      | go_keep
      | (refine ⟨hB.drew.trans (hb2.mono hB.drew.size), still hb2 (first_box _ _ _ _ _ 0), still hb2 (first_box _ _ _ _ _ 1), still hb2 (first_box _ _ _ _ _ 2), still hb2 (second_box _ _ _ _ _ 7), still hb2 (third_box _ _ _ _ _ 0), still hb2 (third_box _ _ _ _ _ 1)⟩))
    ((go_at_call 108; refine (hlab _ hB.drew).mono ?_; rintro e w2 ⟨rfl, hb2⟩))
  go_wp2
  go_ret
  exact ⟨rfl, hB.drew.trans (hb2.mono hB.drew.size)⟩
set_option maxRecDepth 100000 in
set_option maxHeartbeats 4000000 in
theorem cins_same (w : World) (ao bo : Option Addr) (n1 c1 n2 c2 pm : Nat) (sort line a b c n k to : Int) (nm : ByteArray)
    (hlab : ∀ W, Below w.heap.size w W → Calls Tryz.prog 108 #[.agg #[.slice ao n1 c1, .map (some pm), .slice bo n2 c2], .string nm, .int .i64 k] W fun e w' => e = .returned (.int .i64 to) ∧ Below W.heap.size W w') :
    Calls Tryz.prog 81 #[.agg #[.slice ao n1 c1, .map (some pm), .slice bo n2 c2], stm sort line ⟨#[115, 97, 109, 101]⟩ a b c n nm, .int .i64 k] w fun e w' => e = .returned (.iface 188 (.agg #[.int .i64 a, .int .i64 b, .int .i64 to])) ∧ Below w.heap.size w w' := by
  have hrb : ∀ W, (Instr.build 188 #[(0, .int .i64 a), (1, .int .i64 b), (2, .int .i64 to)]).run Tryz.prog W = .ok (.agg #[.int .i64 a, .int .i64 b, .int .i64 to]) W := fun W => run_build W 188 _ _ (by kernel_rfl)
  have hB : Below w.heap.size w (((w.alloc (.cells #[.slice ao n1 c1, .map (some pm), .slice bo n2 c2] 128)).alloc (.cells #[.int .i64 sort, .int .i64 line, .string ⟨#[115, 97, 109, 101]⟩, .int .i64 a, .int .i64 b, .int .i64 c, .int .i64 n, .string nm] 135)).alloc (.cells #[.int .i64 a, .int .i64 b, .int .i64 c] 133)) := three_boxes
  go_enter Tryz.func81, Tryz.ntmps81
  go_wp2_with fail
  go_region_held3 (fun W => Below w.heap.size w W ∧ W.cell? ⟨w.heap.size, 0, none⟩ = some (.slice ao n1 c1) ∧ W.cell? ⟨w.heap.size, 1, none⟩ = some (.map (some pm)) ∧ W.cell? ⟨w.heap.size, 2, none⟩ = some (.slice bo n2 c2) ∧
      W.cell? ⟨w.heap.size + 1, 7, none⟩ = some (.string nm) ∧ W.cell? ⟨w.heap.size + 1 + 1, 0, none⟩ = some (.int .i64 a) ∧ W.cell? ⟨w.heap.size + 1 + 1, 1, none⟩ = some (.int .i64 b))
    (first
      | (refine ⟨hB.drew, first_box _ _ _ _ _ 0, first_box _ _ _ _ _ 1, first_box _ _ _ _ _ 2, second_box _ _ _ _ _ 7, third_box _ _ _ _ _ 0, third_box _ _ _ _ _ 1⟩)
      | go_keep
      | (refine ⟨hB.drew.trans (hb2.mono hB.drew.size), still hb2 (first_box _ _ _ _ _ 0), still hb2 (first_box _ _ _ _ _ 1), still hb2 (first_box _ _ _ _ _ 2), still hb2 (second_box _ _ _ _ _ 7), still hb2 (third_box _ _ _ _ _ 0), still hb2 (third_box _ _ _ _ _ 1)⟩))
    ((go_at_call 108; refine (hlab _ hB.drew).mono ?_; rintro e w2 ⟨rfl, hb2⟩))
  go_wp2
  go_ret
  exact ⟨rfl, hB.drew.trans (hb2.mono hB.drew.size)⟩

end Go.Proofs.YtfpgjkbjbbgciaaGreatDoor
