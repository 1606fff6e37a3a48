import Derived.Test.YtfpgjkbjbbgciaaGreatDoorMa12
import Derived.Test.YtfpgjkbjbbgciaaGreatDoorMa28
namespace Go.Proofs.YtfpgjkbjbbgciaaGreatDoor
open Go.RowKit Sp

/-- What is asked of the reading. -/
def ReadsAs (s : ByteArray) (R : Int × Int) : Prop := ∀ w, LibW w → Calls Tryz.prog 44 #[.string s] w fun e w' =>
  Below w.heap.size w w' ∧ (R = (0, 0) ∧ (∃ v, e = .returned v) ∨ ¬ R = (0, 0) ∧ e = refusal R.1 R.2)

set_option maxRecDepth 100000 in
theorem work_ok (s : ByteArray) (h : ReadsAs s (0, 0)) (w : World) (hw : LibW w) (p : Addr) (hp : w.cell? p = some (.string s)) :
    Calls Tryz.prog 43 #[.pointer (some p)] w fun e w' => e = .returned (.tuple #[]) ∧ Below w.heap.size w w' := by
  have hc := (h w hw).mono (R' := fun e w' => (∃ v, e = .returned v) ∧ Below w.heap.size w w') (by
    rintro e w' ⟨hb, ⟨_, h⟩ | ⟨h, _⟩⟩
    · exact ⟨h, hb⟩
    · exact absurd rfl h)
  go_enter Tryz.func43, Tryz.ntmps43
  go_wp2_with (go_at_call 44; refine hc.mono ?_; rintro e w1 ⟨⟨v, rfl⟩, hb⟩)
  go_end0
  exact ⟨rfl, hb⟩
set_option maxRecDepth 100000 in
theorem work_no (s : ByteArray) (R : Int × Int) (hR : ¬ R = (0, 0)) (h : ReadsAs s R) (w : World) (hw : LibW w) (p : Addr) (hp : w.cell? p = some (.string s)) :
    Calls Tryz.prog 43 #[.pointer (some p)] w fun e w' => e = refusal R.1 R.2 ∧ Below w.heap.size w w' := by
  have hc := (h w hw).mono (R' := fun e w' => e = refusal R.1 R.2 ∧ Below w.heap.size w w') (by
    rintro e w' ⟨hb, ⟨h, _⟩ | ⟨_, h⟩⟩
    · exact absurd h hR
    · exact ⟨h, hb⟩)
  go_enter Tryz.func43, Tryz.ntmps43
  go_wp2_with (go_at_call 44; refine hc.mono ?_; rintro e w1 ⟨rfl, hb⟩)
  exact ⟨rfl, rfl, hb⟩

set_option maxRecDepth 100000 in
set_option maxHeartbeats 1000000 in
theorem outcome_ok (s : ByteArray) (h : ReadsAs s (0, 0)) (w : World) (hw : LibW w) (p : Addr) (hp : w.cell? p = some (.string s)) :
    Calls Tryz.prog 42 #[.func (.func 43) #[] #[.pointer (some p)]] w fun e w' => e = .returned (.tuple #[.int .i64 0, .int .i64 0]) ∧ Below w.heap.size w w' := by
  have hmf : ∀ (fn : Fn) (first cap : Array Value) (w : World), (Instr.makeFunc fn first cap).run Tryz.prog w = .ok (.func fn first cap) w := fun _ _ _ _ => rfl
  have hplt := World.block_lt_of_cell? w p hp
  have hw2 : LibW ((w.alloc (.cells #[.int .i64 0] 22)).alloc (.cells #[.int .i64 0] 3)) := hw.below (((Below.refl _ _).alloc (Nat.le_refl _) _).alloc (by simp) _)
  have hp2 : ((w.alloc (.cells #[.int .i64 0] 22)).alloc (.cells #[.int .i64 0] 3)).cell? p = some (.string s) := by
    rw [World.cell?_alloc_lt _ _ p (by simp; omega), World.cell?_alloc_lt _ _ p hplt]; exact hp
  have hcall := work_ok s h _ hw2 p hp2
  go_enter_defers Tryz.func42, Tryz.ntmps42
  go_wp2_with (go_at_call 43; refine hcall.mono ?_; rintro e w1 ⟨rfl, hb⟩; obtain ⟨hc, hf⟩ := bcell hb)
  have z0 : w1.cell? ⟨w.heap.size, 0, none⟩ = some (.int .i64 0) := by rw [hc _ _ (by simp; omega)]; simp
  have z1 : w1.cell? ⟨w.heap.size + 1, 0, none⟩ = some (.int .i64 0) := by rw [hc _ _ (by simp)]; simp
  have y0 : ((w1.setCell ⟨w.heap.size, 0, none⟩ (.int .i64 0)).setCell ⟨w.heap.size + 1, 0, none⟩ (.int .i64 0)).cell? ⟨w.heap.size, 0, none⟩ = some (.int .i64 0) := by
    rw [World.cell?_setCell_other]
    · exact World.cell?_setCell_same w1 _ _ z0
    · simp
  have y1 : ((w1.setCell ⟨w.heap.size, 0, none⟩ (.int .i64 0)).setCell ⟨w.heap.size + 1, 0, none⟩ (.int .i64 0)).cell? ⟨w.heap.size + 1, 0, none⟩ = some (.int .i64 0) := by
    refine World.cell?_setCell_same (u := .int .i64 0) _ _ _ ?_
    rw [World.cell?_setCell_other]
    · exact z1
    · simp
  have hbw := ((two_new _ _ _ hb).setCell (p := ⟨w.heap.size, 0, none⟩) (Nat.le_refl _) (.int .i64 0)).setCell (p := ⟨w.heap.size + 1, 0, none⟩) (Nat.le_succ _) (.int .i64 0)
  generalize (w1.setCell ⟨w.heap.size, 0, none⟩ (.int .i64 0)).setCell ⟨w.heap.size + 1, 0, none⟩ (.int .i64 0) = X at y0 y1 hbw ⊢
  refine leaves_cons (f := 64) (args := #[.pointer (some ⟨w.heap.size, 0, none⟩), .pointer (some ⟨w.heap.size + 1, 0, none⟩)]) (by simp) (by simp [go_sem]) ?_
  refine (catch_idle w.heap.size _).mono ?_
  rintro e u' w'' ⟨rfl, rfl, rfl⟩
  exact ⟨.tuple #[.int .i64 0, .int .i64 0], by simp [results, Tryz.results42, go_sem, y0, y1], rfl, hbw⟩

set_option maxRecDepth 100000 in
set_option maxHeartbeats 1000000 in
theorem outcome_no (s : ByteArray) (R : Int × Int) (hR : ¬ R = (0, 0)) (h : ReadsAs s R) (w : World) (hw : LibW w) (p : Addr) (hp : w.cell? p = some (.string s)) :
    Calls Tryz.prog 42 #[.func (.func 43) #[] #[.pointer (some p)]] w fun e w' => e = .returned (.tuple #[.int .i64 R.1, .int .i64 R.2]) ∧ Below w.heap.size w w' := by
  have hmf : ∀ (fn : Fn) (first cap : Array Value) (w : World), (Instr.makeFunc fn first cap).run Tryz.prog w = .ok (.func fn first cap) w := fun _ _ _ _ => rfl
  have hplt := World.block_lt_of_cell? w p hp
  have hw2 : LibW ((w.alloc (.cells #[.int .i64 0] 22)).alloc (.cells #[.int .i64 0] 3)) := hw.below (((Below.refl _ _).alloc (Nat.le_refl _) _).alloc (by simp) _)
  have hp2 : ((w.alloc (.cells #[.int .i64 0] 22)).alloc (.cells #[.int .i64 0] 3)).cell? p = some (.string s) := by
    rw [World.cell?_alloc_lt _ _ p (by simp; omega), World.cell?_alloc_lt _ _ p hplt]; exact hp
  have hcall := work_no s R hR h _ hw2 p hp2
  go_enter_defers Tryz.func42, Tryz.ntmps42
  go_wp2_with (go_at_call 43; refine hcall.mono ?_; rintro e w1 ⟨rfl, hb⟩; obtain ⟨hc, hf⟩ := bcell hb)
  have z0 : w1.cell? ⟨w.heap.size, 0, none⟩ = some (.int .i64 0) := by rw [hc _ _ (by simp; omega)]; simp
  have z1 : w1.cell? ⟨w.heap.size + 1, 0, none⟩ = some (.int .i64 0) := by rw [hc _ _ (by simp)]; simp
  have f0 : w1.frozen? ⟨w.heap.size, 0, none⟩ = false := by rw [hf _ _ (by simp; omega)]; simp
  have f1 : w1.frozen? ⟨w.heap.size + 1, 0, none⟩ = false := by rw [hf _ _ (by simp)]; simp
  refine leaves_cons (f := 64) (args := #[.pointer (some ⟨w.heap.size, 0, none⟩), .pointer (some ⟨w.heap.size + 1, 0, none⟩)]) (by simp) (by simp [go_sem]) ?_
  refine (catch_refusal w.heap.size 0 0 R.1 R.2 _ z0 z1 f0 f1).mono ?_
  rintro e u' w'' ⟨rfl, rfl, hb2, y0, y1⟩
  exact ⟨.tuple #[.int .i64 R.1, .int .i64 R.2], by simp [results, Tryz.results42, go_sem, y0, y1], rfl, (two_new _ _ _ hb).trans hb2⟩

theorem outcome_any (s : ByteArray) (R : Int × Int) (h : ReadsAs s R) (w : World) (hw : LibW w) (p : Addr) (hp : w.cell? p = some (.string s)) :
    Calls Tryz.prog 42 #[.func (.func 43) #[] #[.pointer (some p)]] w fun e w' => e = .returned (.tuple #[.int .i64 R.1, .int .i64 R.2]) ∧ Below w.heap.size w w' := by
  by_cases hR : R = (0, 0)
  · subst hR; exact outcome_ok s h w hw p hp
  · exact outcome_no s R hR h w hw p hp

set_option maxRecDepth 100000 in
set_option maxHeartbeats 1000000 in
theorem check_any (s : ByteArray) (R : Int × Int) (h : ReadsAs s R) (w : World) (hw : LibW w) :
    Calls Tryz.prog 15 #[.string s] w fun e w' => e = .returned (.tuple #[.int .i64 R.1, .int .i64 R.2]) ∧ Below w.heap.size w w' := by
  have hmf : ∀ (fn : Fn) (first cap : Array Value) (w : World), (Instr.makeFunc fn first cap).run Tryz.prog w = .ok (.func fn first cap) w := fun _ _ _ _ => rfl
  have hw2 : LibW (w.alloc (.cells #[.string s] 9)) := hw.below ((Below.refl _ _).alloc (Nat.le_refl _) _)
  have hcall := outcome_any s R h (w.alloc (.cells #[.string s] 9)) hw2 ⟨w.heap.size, 0, none⟩ (by simp)
  go_enter Tryz.func15, Tryz.ntmps15
  go_wp2_with (go_at_call 42; refine hcall.mono ?_; rintro e w1 ⟨rfl, hb⟩)
  go_ret2
  exact ⟨rfl, ((Below.refl _ _).alloc (Nat.le_refl _) _).trans (hb.mono (by simp))⟩

end Go.Proofs.YtfpgjkbjbbgciaaGreatDoor
