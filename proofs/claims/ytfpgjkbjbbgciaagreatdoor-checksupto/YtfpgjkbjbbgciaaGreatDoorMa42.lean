import Derived.Test.YtfpgjkbjbbgciaaGreatDoorMa41
import Derived.RegionDies
namespace Go.Proofs.YtfpgjkbjbbgciaaGreatDoor
open Go.RowKit Sp
attribute [local go_sem ↓] Go.wp_at_zero Go.wp_at_succ

theorem MapIs.drew {w : World} {b : Nat} {E : List (ByteArray × Nat)} (h : MapIs w b E) : MapIs w.drew b E := h

theorem one_new (w : World) (a : Obj) {w1 : World} (h : Below (w.alloc a).drew.heap.size (w.alloc a).drew w1) : Below w.heap.size w w1 :=
  (((Below.refl w.heap.size w).alloc (Nat.le_refl _) a).drew).trans (h.mono (by show w.heap.size ≤ (w.alloc a).heap.size; simp))

set_option maxRecDepth 100000 in
set_option maxHeartbeats 3200000 in
theorem add_old (w : World) (B fg o m : Nat) (bv : Value) (its : List It) (i : It) (E : List (ByteArray × Nat)) (hs : i.sort = 1)
    (hc : w.cell? ⟨fg, o + 2, none⟩ = some bv) (hm : w.cell? ⟨fg, o + 3, none⟩ = some (.map (some m))) (hM : MapIs w m E) (hown : w.ownsRow B 135 8 bv its.length (stmCells its)) (_hn : its.length ≤ 4096)
    (hnm : i.nm.size ≤ 1048576) (hold : (namesE E).any (fun y => eqW y i.nm) = true) :
    Calls Tryz.prog 101 #[.pointer (some ⟨fg, o, none⟩), stm i.sort i.line i.word i.a i.b i.c i.n i.nm] w fun e w' => e = refusal 3 i.line ∧ Below w.heap.size w w' := by
  have lg : fg < w.heap.size := World.block_lt_of_cell? w _ hc
  have hne4 : ¬ w.heap.size = fg := by omega
  have hne5 : ¬ fg = w.heap.size := by omega
  have hv : ∃ ao cap, bv = .slice ao its.length cap := by
    rcases hown.2 with ⟨hv, h0⟩ | ⟨g, cap, cur, hv, _⟩
    · exact ⟨none, 0, by rw [hv, h0]⟩
    · exact ⟨_, cap, hv⟩
  obtain ⟨ao, cap, rfl⟩ := hv
  rw [hs]
  have hcall := enter_old ((w.alloc (.cells #[.int .i64 1, .int .i64 i.line, .string i.word, .int .i64 i.a, .int .i64 i.b, .int .i64 i.c, .int .i64 i.n, .string i.nm] 135)).drew) m E (hM.alloc _).drew 1 i.line i.word i.a i.b i.c i.n i.nm (its.length : Int) hnm hold
  go_enter Tryz.func101, Tryz.ntmps101
  go_wp2_with fail
  go_region_dies
  all_goals (go_at_call 131; refine hcall.mono ?_; rintro e w2 ⟨rfl, hb⟩)
  all_goals exact ⟨rfl, rfl, one_new _ _ hb⟩

theorem eight_in (w : World) (s l : Int) (x : ByteArray) (a b c n : Int) (y : ByteArray) :
    ((w.alloc (.cells #[.int .i64 s, .int .i64 l, .string x, .int .i64 a, .int .i64 b, .int .i64 c, .int .i64 n, .string y] 135)).drew).cell? ⟨w.heap.size, 0, none⟩ = some (.int .i64 s) ∧
    ((w.alloc (.cells #[.int .i64 s, .int .i64 l, .string x, .int .i64 a, .int .i64 b, .int .i64 c, .int .i64 n, .string y] 135)).drew).cell? ⟨w.heap.size, 1, none⟩ = some (.int .i64 l) ∧
    ((w.alloc (.cells #[.int .i64 s, .int .i64 l, .string x, .int .i64 a, .int .i64 b, .int .i64 c, .int .i64 n, .string y] 135)).drew).cell? ⟨w.heap.size, 2, none⟩ = some (.string x) ∧
    ((w.alloc (.cells #[.int .i64 s, .int .i64 l, .string x, .int .i64 a, .int .i64 b, .int .i64 c, .int .i64 n, .string y] 135)).drew).cell? ⟨w.heap.size, 3, none⟩ = some (.int .i64 a) ∧
    ((w.alloc (.cells #[.int .i64 s, .int .i64 l, .string x, .int .i64 a, .int .i64 b, .int .i64 c, .int .i64 n, .string y] 135)).drew).cell? ⟨w.heap.size, 4, none⟩ = some (.int .i64 b) ∧
    ((w.alloc (.cells #[.int .i64 s, .int .i64 l, .string x, .int .i64 a, .int .i64 b, .int .i64 c, .int .i64 n, .string y] 135)).drew).cell? ⟨w.heap.size, 5, none⟩ = some (.int .i64 c) ∧
    ((w.alloc (.cells #[.int .i64 s, .int .i64 l, .string x, .int .i64 a, .int .i64 b, .int .i64 c, .int .i64 n, .string y] 135)).drew).cell? ⟨w.heap.size, 6, none⟩ = some (.int .i64 n) ∧
    ((w.alloc (.cells #[.int .i64 s, .int .i64 l, .string x, .int .i64 a, .int .i64 b, .int .i64 c, .int .i64 n, .string y] 135)).drew).cell? ⟨w.heap.size, 7, none⟩ = some (.string y) := by
  have h := World.cell?_alloc_new (w := w) #[.int .i64 s, .int .i64 l, .string x, .int .i64 a, .int .i64 b, .int .i64 c, .int .i64 n, .string y] 135
  exact ⟨h 0, h 1, h 2, h 3, h 4, h 5, h 6, h 7⟩
theorem frozen_one (w : World) (b : Obj) (p : Addr) (h : p.block < w.heap.size) : (w.alloc b).drew.frozen? p = w.frozen? p :=
  World.frozen?_of_block (w := w) (((Below.refl w.heap.size w).alloc (Nat.le_refl _) b).drew.block p.block h)
theorem cell_one (w : World) (b : Obj) (p : Addr) (h : p.block < w.heap.size) : (w.alloc b).drew.cell? p = w.cell? p :=
  World.cell?_of_block (w := w) (((Below.refl w.heap.size w).alloc (Nat.le_refl _) b).drew.block p.block h)
theorem news_one (w : World) (cs : Array Value) (t : TypeId) : (w.alloc (.cells cs t)).drew.heap[w.heap.size]? = some (.cells cs t (0, 0)) := heap_alloc_new w (.cells cs t)
theorem grown_one {w w1 : World} {a : Obj} {row : Option Nat} (h : (w.alloc a).drew.grownBy w1 row) : w.grownBy w1 row :=
  (World.grownBy_alloc w a row).trans ⟨h.os, h.tape, h.output, h.size, h.block⟩

set_option maxRecDepth 100000 in
set_option maxHeartbeats 3200000 in
theorem add_new (w : World) (B fg o m : Nat) (bv : Value) (its : List It) (i : It) (E : List (ByteArray × Nat)) (hs : i.sort = 1)
    (hc : w.cell? ⟨fg, o + 2, none⟩ = some bv) (hm : w.cell? ⟨fg, o + 3, none⟩ = some (.map (some m))) (hM : MapIs w m E) (hown : w.ownsRow B 135 8 bv its.length (stmCells its)) (hn : its.length ≤ 4096) (hnn : E.length ≤ 4096)
    (hnm : i.nm.size ≤ 1048576) (hold : (namesE E).any (fun y => eqW y i.nm) = false) :
    Calls Tryz.prog 101 #[.pointer (some ⟨fg, o, none⟩), stm i.sort i.line i.word i.a i.b i.c i.n i.nm] w fun e w' => e = .returned (.tuple #[]) ∧ w.grownBy w' (some m) ∧ MapIs w' m (E ++ [(i.nm, its.length)]) := by
  have lg : fg < w.heap.size := World.block_lt_of_cell? w _ hc
  have hne4 : ¬ w.heap.size = fg := by omega
  have hne5 : ¬ fg = w.heap.size := by omega
  have hv : ∃ ao cap, bv = .slice ao its.length cap := by
    rcases hown.2 with ⟨hv, h0⟩ | ⟨g, cap, cur, hv, _⟩
    · exact ⟨none, 0, by rw [hv, h0]⟩
    · exact ⟨_, cap, hv⟩
  obtain ⟨ao, cap0, rfl⟩ := hv
  rw [hs]
  have hcall := enter_new ((w.alloc (.cells #[.int .i64 1, .int .i64 i.line, .string i.word, .int .i64 i.a, .int .i64 i.b, .int .i64 i.c, .int .i64 i.n, .string i.nm] 135)).drew) m E (hM.alloc _).drew 1 i.line i.word i.a i.b i.c i.n i.nm its.length hn hnn hnm hold
  go_enter Tryz.func101, Tryz.ntmps101
  go_wp2_with fail
  go_region_with (go_at_call 131; refine hcall.mono ?_; rintro e w2 ⟨rfl, hM2, hg2⟩)
  all_goals go_wp2
  all_goals go_end0
  all_goals exact ⟨rfl, grown_one hg2, hM2⟩

end Go.Proofs.YtfpgjkbjbbgciaaGreatDoor
