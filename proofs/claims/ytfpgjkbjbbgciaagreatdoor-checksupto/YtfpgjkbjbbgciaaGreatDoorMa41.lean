import Derived.Test.YtfpgjkbjbbgciaaGreatDoorMa40
import Derived.Deep.RegionHeld3
import Derived.Deep.DrawnRows
namespace Go.Proofs.YtfpgjkbjbbgciaaGreatDoor
open Go.RowKit Sp

attribute [local go_sem ↓] Go.wp_at_zero Go.wp_at_succ

theorem frozen_two (w : World) (a b : Obj) (p : Addr) (h : p.block < w.heap.size) : ((w.alloc a).alloc b).drew.frozen? p = w.frozen? p :=
  World.frozen?_of_block (w := w) ((((Below.refl w.heap.size w).alloc (Nat.le_refl _) a).alloc (by simp) b).drew.block p.block h)

theorem cell_two (w : World) (a b : Obj) (p : Addr) (h : p.block < w.heap.size) : ((w.alloc a).alloc b).drew.cell? p = w.cell? p :=
  World.cell?_of_block (w := w) ((((Below.refl w.heap.size w).alloc (Nat.le_refl _) a).alloc (by simp) b).drew.block p.block h)
theorem news_two (w : World) (a : Obj) (cs : Array Value) (t : TypeId) : ((w.alloc a).alloc (.cells cs t)).drew.heap[w.heap.size + 1]? = some (.cells cs t (0, 0)) := by
  have h := heap_alloc_new (w.alloc a) (.cells cs t)
  rw [show (w.alloc a).heap.size = w.heap.size + 1 by simp] at h
  exact h

theorem grown_two {w w1 : World} {a b : Obj} {row : Option Nat} (h : ((w.alloc a).alloc b).drew.grownBy w1 row) : w.grownBy w1 row :=
  ((World.grownBy_alloc w a row).trans (World.grownBy_alloc _ b row)).trans ⟨h.os, h.tape, h.output, h.size, h.block⟩

set_option maxRecDepth 100000 in
set_option maxHeartbeats 3200000 in
theorem add_plain (w : World) (B fg o : Nat) (bv : Value) (its : List It) (i : It) (hs : ¬ i.sort = 1)
    (hc : w.cell? ⟨fg, o + 2, none⟩ = some bv) (hf : w.frozen? ⟨fg, o + 2, none⟩ = false) (hown : w.ownsRow B 135 8 bv its.length (stmCells its)) (hne : bv.ownBlock ≠ some fg) (hB : B ≤ w.heap.size) (hn : its.length ≤ 4096) :
    Calls Tryz.prog 101 #[.pointer (some ⟨fg, o, none⟩), stm i.sort i.line i.word i.a i.b i.c i.n i.nm] w fun e w' => e = .returned (.tuple #[]) ∧
      ∃ g cap w1, w' = w1.setCell ⟨fg, o + 2, none⟩ (.slice (some ⟨g, 0, none⟩) (its.length + 1) cap) ∧ w.grownBy w1 bv.ownBlock ∧
        w1.ownsRow B 135 8 (.slice (some ⟨g, 0, none⟩) (its.length + 1) cap) (its.length + 1) (stmCells (its ++ [i])) ∧ (bv.ownBlock = some g ∨ w.heap.size ≤ g) := by
  obtain ⟨i0, hi0, hz0, hz1, hz2⟩ := info_parts Tryz.info135
  have lg : fg < w.heap.size := World.block_lt_of_cell? w _ hc
  have hs' : (i.sort == 1) = false := by simpa using hs
  have hlt : ∀ b, bv.ownBlock = some b → b < w.heap.size := fun b hb => (hown.lt b hb).2
  have hne2 : some fg ≠ bv.ownBlock := fun e => hne e.symm
  have hne3 : some w.heap.size ≠ bv.ownBlock := fun e => by have := hlt _ e.symm; omega
  have hne4 : ¬ w.heap.size = fg := by omega
  have hne5 : ¬ fg = w.heap.size := by omega
  go_enter Tryz.func101, Tryz.ntmps101
  go_wp2_with fail
  go_region_law
    ((refine step_append_lies _ (by rfl) _ _ _ (by rfl) B 135 i0 _ 8 80 Tryz.under116 hi0 hz0 hz1 hz2 rfl (by omega) bv its.length (stmCells its) (by rfl) (((hown.alloc _).alloc _).drew)
        ⟨w.heap.size + 1, 0, none⟩ 1 1 i.cells (by rfl) (by rfl) (World.news_of_block (cs := i.cells.toArray) (t := 135) (fr := (0, 0)) (news_two w _ _ _)) (eight_one i)
        (by omega) (by unfold maxLen; omega) (by omega) (by simp; omega) (w.heap.size + 1 + 1) (by simp) ?_; intro g cap w1 hown1 hgrow hat hltg; have hfz : w1.frozen? ⟨fg, o + 2, none⟩ = false := (hgrow.frozen_far _ (by simp; omega) hne2).trans ((frozen_two w _ _ _ lg).trans hf); have hcz : w1.cell? ⟨fg, o + 2, none⟩ = some bv := (hgrow.cell_far _ (by simp; omega) hne2).trans ((cell_two w _ _ _ lg).trans hc)))
  all_goals go_end0
  all_goals exact ⟨rfl, g, cap, w1, rfl, grown_two hgrow, by rw [stmCells_snoc]; exact hown1, by rcases hat with h | h; exact .inl h; exact .inr (by omega)⟩

end Go.Proofs.YtfpgjkbjbbgciaaGreatDoor
