import Derived.Test.YtbkefkaedohhcaaGreatDoorCdB
import Derived.Test.YtbkefkaedohhcaaGreatDoorSpecI
import Derived.Defers
import Derived.Recover
namespace Go.Proofs.YtbkefkaedohhcaaGreatDoor
open Go.RowKit Sp

theorem assert43_yes (W : World) (v : Value) : (Instr.typeAssert (.iface 83 v) 20 83 true).run Tryz.prog W = .ok (.tuple #[v, .bool true]) W := by kernel_rfl

theorem catch_world {w : World} {b : Nat} {x y : Value} (hx : w.cell? ⟨b, 0, none⟩ = some x) (hy : w.cell? ⟨b + 1, 0, none⟩ = some y) (e l : Value) (o : Obj) :
    Below b w (((w.setCell ⟨b, 0, none⟩ e).setCell ⟨b + 1, 0, none⟩ l).alloc o).drew ∧ (((w.setCell ⟨b, 0, none⟩ e).setCell ⟨b + 1, 0, none⟩ l).alloc o).drew.cell? ⟨b, 0, none⟩ = some e ∧ (((w.setCell ⟨b, 0, none⟩ e).setCell ⟨b + 1, 0, none⟩ l).alloc o).drew.cell? ⟨b + 1, 0, none⟩ = some l := by
  have hlt1 : b + 1 < w.heap.size := by have := World.block_lt_of_cell? w _ hy; simpa using this
  refine ⟨((((Below.refl b w).setCell (p := ⟨b, 0, none⟩) (Nat.le_refl _) _).setCell (p := ⟨b + 1, 0, none⟩) (Nat.le_succ b) _).alloc (by simp [World.setCell]; omega) _).drew, ?_, ?_⟩
  · show (((w.setCell ⟨b, 0, none⟩ e).setCell ⟨b + 1, 0, none⟩ l).alloc o).cell? ⟨b, 0, none⟩ = some e
    rw [World.cell?_alloc_lt _ o ⟨b, 0, none⟩ (by simp [World.setCell]; omega), World.cell?_setCell_other]
    · exact World.cell?_setCell_same w _ _ hx
    · simp
  · show (((w.setCell ⟨b, 0, none⟩ e).setCell ⟨b + 1, 0, none⟩ l).alloc o).cell? ⟨b + 1, 0, none⟩ = some l
    rw [World.cell?_alloc_lt _ o ⟨b + 1, 0, none⟩ (by simp [World.setCell]; omega)]
    refine World.cell?_setCell_same (u := y) _ _ _ ?_
    rw [World.cell?_setCell_other]
    · exact hy
    · simp

set_option maxRecDepth 100000 in
set_option maxHeartbeats 1000000 in
theorem catch_refusal (b : Nat) (x y e l : Int) (w : World) (hx : w.cell? ⟨b, 0, none⟩ = some (.int .i64 x)) (hy : w.cell? ⟨b + 1, 0, none⟩ = some (.int .i64 y)) (fx : w.frozen? ⟨b, 0, none⟩ = false) (fy : w.frozen? ⟨b + 1, 0, none⟩ = false) :
    CallsD Tryz.prog 42 #[.pointer (some ⟨b, 0, none⟩), .pointer (some ⟨b + 1, 0, none⟩)] (.panicking ({ v := .iface 83 (.agg #[.int .i64 e, .int .i64 l]), recovered := false } :: [])) w fun en u' w' =>
      en = .returned (.tuple #[]) ∧ u' = .panicking ({ v := .iface 83 (.agg #[.int .i64 e, .int .i64 l]), recovered := true } :: []) ∧ Below b w w' ∧ w'.cell? ⟨b, 0, none⟩ = some (.int .i64 e) ∧ w'.cell? ⟨b + 1, 0, none⟩ = some (.int .i64 l) := by
  have has := assert43_yes
  refine callsD_of_wpS Tryz.func42 rfl fun c₀ cs hu => ?_
  apply wpS_seq
  apply wpS_region
  simp [wpOpsS, go_sem, recoverD, hu, Tryz.ntmps42, Exit.thenS]
  refine wpS_of_wp ?_
  have hlt1 : b + 1 < w.heap.size := by have := World.block_lt_of_cell? w _ hy; simpa using this
  have hlt0 : b < w.heap.size := by omega
  have hn1 : ¬ b = w.heap.size := by omega
  have hn2 : ¬ b + 1 = w.heap.size := by omega
  go_wp2
  go_region
  all_goals exact ⟨rfl, _, rfl, .tuple #[], by simp [results, Tryz.results42], rfl, rfl, catch_world hx hy _ _ _⟩

set_option maxRecDepth 100000 in
set_option maxHeartbeats 1000000 in
theorem catch_idle (b : Nat) (w : World) :
    CallsD Tryz.prog 42 #[.pointer (some ⟨b, 0, none⟩), .pointer (some ⟨b + 1, 0, none⟩)] .returning w fun en u' w' => en = .returned (.tuple #[]) ∧ u' = .returning ∧ w' = w := by
  refine callsD_of_wpS Tryz.func42 rfl fun c₀ cs hu => ?_
  apply wpS_seq
  apply wpS_region
  simp [wpOpsS, go_sem, recoverD, hu, Tryz.ntmps42, Exit.thenS]
  refine wpS_of_wp ?_
  go_wp2
  exact ⟨rfl, .returning, by rw [← hu], .tuple #[], by simp [results, Tryz.results42], rfl, rfl, rfl⟩

end Go.Proofs.YtbkefkaedohhcaaGreatDoor
