import Derived.Test.YtijlkhngbaajjaaDoorCdT
import Derived.RegionDies
namespace Go.Proofs.YtijlkhngbaajjaaDoor
open Go.RowKit Sp
attribute [local go_sem ↓] Go.wp_at_zero Go.wp_at_succ

theorem MapIs.drew {w : World} {b : Nat} {names : List ByteArray} (h : MapIs w b names) : MapIs w.drew b names := h

theorem one_new (w : World) (a : Obj) {w1 : World} (h : Below (w.alloc a).drew.heap.size (w.alloc a).drew w1) : Below w.heap.size w w1 :=
  (((Below.refl w.heap.size w).alloc (Nat.le_refl _) a).drew).trans (h.mono (by show w.heap.size ≤ (w.alloc a).heap.size; simp))

set_option maxRecDepth 100000 in
set_option maxHeartbeats 3200000 in
theorem add_old (w : World) (B fg o m : Nat) (bv : Value) (its : List It) (i : It) (names : List ByteArray) (hs : i.sort = 1)
    (hc : w.cell? ⟨fg, o + 2, none⟩ = some bv) (hm : w.cell? ⟨fg, o + 3, none⟩ = some (.map (some m))) (hM : MapIs w m names) (hown : w.ownsRow B 62 8 bv its.length (stmCells its)) (_hn : its.length ≤ 4096)
    (hnm : i.nm.size ≤ 1048576) (hold : names.any (fun y => eqW y i.nm) = true) :
    Calls Tryd.prog 35 #[.pointer (some ⟨fg, o, none⟩), stm i.sort i.line i.word i.a i.b i.c i.n i.nm] w fun e w' => e = refusal 3 i.line ∧ Below w.heap.size w w' := by
  have lg : fg < w.heap.size := World.block_lt_of_cell? w _ hc
  have hne4 : ¬ w.heap.size = fg := by omega
  have hne5 : ¬ fg = w.heap.size := by omega
  have hv : ∃ ao cap, bv = .slice ao its.length cap := by
    rcases hown.2 with ⟨hv, h0⟩ | ⟨g, cap, cur, hv, _⟩
    · exact ⟨none, 0, by rw [hv, h0]⟩
    · exact ⟨_, cap, hv⟩
  obtain ⟨ao, cap, rfl⟩ := hv
  rw [hs]
  have hcall := enter_old ((w.alloc (.cells #[.int .i64 1, .int .i64 i.line, .string i.word, .int .i64 i.a, .int .i64 i.b, .int .i64 i.c, .int .i64 i.n, .string i.nm] 62)).drew) m names (hM.alloc _).drew 1 i.line i.word i.a i.b i.c i.n i.nm (its.length : Int) hnm hold
  go_enter Tryd.func35, Tryd.ntmps35
  go_wp2_with fail
  go_region_dies
  all_goals (go_at_call 51; refine hcall.mono ?_; rintro e w2 ⟨rfl, hb⟩)
  all_goals exact ⟨rfl, rfl, one_new _ _ hb⟩

theorem eight_in (w : World) (s l : Int) (x : ByteArray) (a b c n : Int) (y : ByteArray) :
    ((w.alloc (.cells #[.int .i64 s, .int .i64 l, .string x, .int .i64 a, .int .i64 b, .int .i64 c, .int .i64 n, .string y] 62)).drew).cell? ⟨w.heap.size, 0, none⟩ = some (.int .i64 s) ∧
    ((w.alloc (.cells #[.int .i64 s, .int .i64 l, .string x, .int .i64 a, .int .i64 b, .int .i64 c, .int .i64 n, .string y] 62)).drew).cell? ⟨w.heap.size, 1, none⟩ = some (.int .i64 l) ∧
    ((w.alloc (.cells #[.int .i64 s, .int .i64 l, .string x, .int .i64 a, .int .i64 b, .int .i64 c, .int .i64 n, .string y] 62)).drew).cell? ⟨w.heap.size, 2, none⟩ = some (.string x) ∧
    ((w.alloc (.cells #[.int .i64 s, .int .i64 l, .string x, .int .i64 a, .int .i64 b, .int .i64 c, .int .i64 n, .string y] 62)).drew).cell? ⟨w.heap.size, 3, none⟩ = some (.int .i64 a) ∧
    ((w.alloc (.cells #[.int .i64 s, .int .i64 l, .string x, .int .i64 a, .int .i64 b, .int .i64 c, .int .i64 n, .string y] 62)).drew).cell? ⟨w.heap.size, 4, none⟩ = some (.int .i64 b) ∧
    ((w.alloc (.cells #[.int .i64 s, .int .i64 l, .string x, .int .i64 a, .int .i64 b, .int .i64 c, .int .i64 n, .string y] 62)).drew).cell? ⟨w.heap.size, 5, none⟩ = some (.int .i64 c) ∧
    ((w.alloc (.cells #[.int .i64 s, .int .i64 l, .string x, .int .i64 a, .int .i64 b, .int .i64 c, .int .i64 n, .string y] 62)).drew).cell? ⟨w.heap.size, 6, none⟩ = some (.int .i64 n) ∧
    ((w.alloc (.cells #[.int .i64 s, .int .i64 l, .string x, .int .i64 a, .int .i64 b, .int .i64 c, .int .i64 n, .string y] 62)).drew).cell? ⟨w.heap.size, 7, none⟩ = some (.string y) := by
  have h := World.cell?_alloc_new (w := w) #[.int .i64 s, .int .i64 l, .string x, .int .i64 a, .int .i64 b, .int .i64 c, .int .i64 n, .string y] 62
  exact ⟨h 0, h 1, h 2, h 3, h 4, h 5, h 6, h 7⟩
theorem frozen_one (w : World) (b : Obj) (p : Addr) (h : p.block < w.heap.size) : (w.alloc b).drew.frozen? p = w.frozen? p :=
  World.frozen?_of_block (w := w) (((Below.refl w.heap.size w).alloc (Nat.le_refl _) b).drew.block p.block h)
theorem cell_one (w : World) (b : Obj) (p : Addr) (h : p.block < w.heap.size) : (w.alloc b).drew.cell? p = w.cell? p :=
  World.cell?_of_block (w := w) (((Below.refl w.heap.size w).alloc (Nat.le_refl _) b).drew.block p.block h)
theorem news_one (w : World) (cs : Array Value) (t : TypeId) : (w.alloc (.cells cs t)).drew.heap[w.heap.size]? = some (.cells cs t (0, 0)) := heap_alloc_new w (.cells cs t)
theorem grown_one {w w1 : World} {a : Obj} {row : Option Nat} (h : (w.alloc a).drew.grownBy w1 row) : w.grownBy w1 row :=
  (World.grownBy_alloc w a row).trans ⟨h.os, h.tape, h.output, h.size, h.block⟩

set_option maxRecDepth 100000 in
set_option maxHeartbeats 3200000 in
theorem add_new (w : World) (B fg o m : Nat) (bv : Value) (its : List It) (i : It) (names : List ByteArray) (hs : i.sort = 1)
    (hc : w.cell? ⟨fg, o + 2, none⟩ = some bv) (hm : w.cell? ⟨fg, o + 3, none⟩ = some (.map (some m))) (hf : w.frozen? ⟨fg, o + 2, none⟩ = false) (hM : MapIs w m names) (hown : w.ownsRow B 62 8 bv its.length (stmCells its)) (hne : bv.ownBlock ≠ some fg) (hB : B ≤ w.heap.size) (hn : its.length ≤ 4096) (hnn : names.length ≤ 4096)
    (hnm : i.nm.size ≤ 1048576) (hold : names.any (fun y => eqW y i.nm) = false) (hmf : ¬ fg = m) :
    Calls Tryd.prog 35 #[.pointer (some ⟨fg, o, none⟩), stm i.sort i.line i.word i.a i.b i.c i.n i.nm] w fun e w' => e = .returned (.tuple #[]) ∧
      ∃ g cap w1 w2, w' = w1.setCell ⟨fg, o + 2, none⟩ (.slice (some ⟨g, 0, none⟩) (its.length + 1) cap) ∧ w.grownBy w2 (some m) ∧ MapIs w2 m (names ++ [i.nm]) ∧ w2.grownBy w1 bv.ownBlock ∧
        w1.ownsRow B 62 8 (.slice (some ⟨g, 0, none⟩) (its.length + 1) cap) (its.length + 1) (stmCells (its ++ [i])) ∧ (bv.ownBlock = some g ∨ w.heap.size ≤ g) := by
  obtain ⟨i0, hi0, hz0, hz1, hz2⟩ := info_parts Tryd.info62
  have lg : fg < w.heap.size := World.block_lt_of_cell? w _ hc
  have lm : m < w.heap.size := hM.lt
  have hne4 : ¬ w.heap.size = fg := by omega
  have hne5 : ¬ fg = w.heap.size := by omega
  have hlt : ∀ b, bv.ownBlock = some b → b < w.heap.size := fun b hb => (hown.lt b hb).2
  have hne2 : some fg ≠ bv.ownBlock := fun e => hne e.symm
  have hne3 : some w.heap.size ≠ bv.ownBlock := fun e => by have := hlt _ e.symm; omega
  have hmr := map_row hM hown
  have hrow : bv.ownBlock = none ∨ bv.ownBlock ≠ some m := .inr (fun e => hmr e.symm)
  have hv : ∃ ao cap, bv = .slice ao its.length cap := by
    rcases hown.2 with ⟨hv, h0⟩ | ⟨g, cap, cur, hv, _⟩
    · exact ⟨none, 0, by rw [hv, h0]⟩
    · exact ⟨_, cap, hv⟩
  obtain ⟨ao, cap0, hbv⟩ := hv
  have hc' := hc
  rw [hbv] at hc'
  rw [hs]
  have hcall := enter_new ((w.alloc (.cells #[.int .i64 1, .int .i64 i.line, .string i.word, .int .i64 i.a, .int .i64 i.b, .int .i64 i.c, .int .i64 i.n, .string i.nm] 62)).drew) m names (hM.alloc _).drew 1 i.line i.word i.a i.b i.c i.n i.nm its.length hn hnn hnm hold
  have hbox := eight_in w 1 i.line i.word i.a i.b i.c i.n i.nm
  obtain ⟨k0, k1, k2, k3, k4, k5, k6, k7⟩ := hbox
  go_enter Tryd.func35, Tryd.ntmps35
  go_wp2_with fail
  go_region_held3 (fun w' => w'.cell? ⟨fg, o + 2, none⟩ = some (.slice ao its.length cap0) ∧ w'.cell? ⟨fg, o + 3, none⟩ = some (.map (some m)) ∧ w'.cell? ⟨w.heap.size, 0, none⟩ = some (.int .i64 1) ∧ w'.cell? ⟨w.heap.size, 1, none⟩ = some (.int .i64 i.line) ∧ w'.cell? ⟨w.heap.size, 2, none⟩ = some (.string i.word) ∧
      w'.cell? ⟨w.heap.size, 3, none⟩ = some (.int .i64 i.a) ∧ w'.cell? ⟨w.heap.size, 4, none⟩ = some (.int .i64 i.b) ∧ w'.cell? ⟨w.heap.size, 5, none⟩ = some (.int .i64 i.c) ∧ w'.cell? ⟨w.heap.size, 6, none⟩ = some (.int .i64 i.n) ∧ w'.cell? ⟨w.heap.size, 7, none⟩ = some (.string i.nm))
    (first
      | go_keep
      | (refine ⟨?_, ?_, ?_, ?_, ?_, ?_, ?_, ?_, ?_, ?_⟩
         · (exact (hg2.cell_far _ (by simp; omega) (by simp; omega)).trans ((cell_one w _ _ lg).trans hc'))
         · (exact (hg2.cell_far _ (by simp; omega) (by simp; omega)).trans ((cell_one w _ _ lg).trans hm))
         · (exact (hg2.cell_far _ (by simp) (by simp; omega)).trans k0)
         · (exact (hg2.cell_far _ (by simp) (by simp; omega)).trans k1)
         · (exact (hg2.cell_far _ (by simp) (by simp; omega)).trans k2)
         · (exact (hg2.cell_far _ (by simp) (by simp; omega)).trans k3)
         · (exact (hg2.cell_far _ (by simp) (by simp; omega)).trans k4)
         · (exact (hg2.cell_far _ (by simp) (by simp; omega)).trans k5)
         · (exact (hg2.cell_far _ (by simp) (by simp; omega)).trans k6)
         · (exact (hg2.cell_far _ (by simp) (by simp; omega)).trans k7)))
    (first | (go_at_call 51; refine hcall.mono ?_; rintro e w2 ⟨rfl, hM2, hg2⟩))
  have hsz2 : w.heap.size + 1 ≤ w2.heap.size := by have := hg2.size; simpa using this
  have c2 : w2.cell? ⟨fg, o + 2, none⟩ = some bv := (hg2.cell_far _ (by simp; omega) (by simp; omega)).trans ((cell_one w _ _ lg).trans hc)
  have f2 : w2.frozen? ⟨fg, o + 2, none⟩ = false := (hg2.frozen_far _ (by simp; omega) (by simp; omega)).trans ((frozen_one w _ _ lg).trans hf)
  replace k0 := (hg2.cell_far ⟨w.heap.size, 0, none⟩ (by simp) (by simp; omega)).trans k0
  replace k1 := (hg2.cell_far ⟨w.heap.size, 1, none⟩ (by simp) (by simp; omega)).trans k1
  replace k2 := (hg2.cell_far ⟨w.heap.size, 2, none⟩ (by simp) (by simp; omega)).trans k2
  replace k3 := (hg2.cell_far ⟨w.heap.size, 3, none⟩ (by simp) (by simp; omega)).trans k3
  replace k4 := (hg2.cell_far ⟨w.heap.size, 4, none⟩ (by simp) (by simp; omega)).trans k4
  replace k5 := (hg2.cell_far ⟨w.heap.size, 5, none⟩ (by simp) (by simp; omega)).trans k5
  replace k6 := (hg2.cell_far ⟨w.heap.size, 6, none⟩ (by simp) (by simp; omega)).trans k6
  replace k7 := (hg2.cell_far ⟨w.heap.size, 7, none⟩ (by simp) (by simp; omega)).trans k7
  have own2 : w2.ownsRow B 62 8 bv its.length (stmCells its) := ((hown.alloc _).drew).kept hg2 hrow
  have hgw : w.grownBy w2 (some m) := grown_one hg2
  clear hcall hg2 hc' hc hm hf hM hown
  have l2 : fg < w2.heap.size := by omega
  go_wp2_with fail
  go_region_law
    ((refine step_append_lies _ (by rfl) _ _ _ (by rfl) B 62 i0 _ 8 80 Tryd.under45 hi0 hz0 hz1 hz2 rfl (by omega) bv its.length (stmCells its) (by rw [hbv]; rfl) ((own2.alloc _).drew)
        ⟨w2.heap.size, 0, none⟩ 1 1 (It.cells ⟨1, i.line, i.word, i.nm, i.a, i.b, i.c, i.n⟩) (by rfl) (by rfl) (World.news_of_block (cs := (It.cells ⟨1, i.line, i.word, i.nm, i.a, i.b, i.c, i.n⟩).toArray) (t := 62) (fr := (0, 0)) (news_one w2 _ _)) (eight_one _)
        (by omega) (by unfold maxLen; omega) (by omega) (by simp; omega) (w2.heap.size + 1) (by simp) ?_; intro g cap w1 hown1 hgrow hat hltg; have hfz : w1.frozen? ⟨fg, o + 2, none⟩ = false := (hgrow.frozen_far _ (by simp; omega) hne2).trans ((frozen_one w2 _ _ l2).trans f2); have hcz : w1.cell? ⟨fg, o + 2, none⟩ = some bv := (hgrow.cell_far _ (by simp; omega) hne2).trans ((cell_one w2 _ _ l2).trans c2)))
  all_goals go_end0
  all_goals exact ⟨rfl, g, cap, w1, w2, rfl, hgw, hM2, grown_one hgrow, by rw [stmCells_snoc]; simp only [It.cells, hs] at hown1 ⊢; exact hown1, by rcases hat with h | h; exact .inl h; exact .inr (by omega)⟩

end Go.Proofs.YtijlkhngbaajjaaDoor
