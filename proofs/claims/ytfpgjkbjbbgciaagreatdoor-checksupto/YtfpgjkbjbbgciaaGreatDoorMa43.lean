import Derived.Test.YtfpgjkbjbbgciaaGreatDoorMa42
namespace Go.Proofs.YtfpgjkbjbbgciaaGreatDoor
open Go.RowKit Sp
attribute [local go_sem ↓] Go.wp_at_zero Go.wp_at_succ

theorem Tryz.info131 : (Tryz.prog.info? 131).map (fun i => (i.zero, i.size, i.bytes)) = some (some (.agg #[.string ByteArray.empty, .int .i64 0, .slice none 0 0, .map none]), 4, 56) := by kernel_rfl
theorem Tryz.under80 : Tryz.prog.underlying 80 = some (.slice 131) := by kernel_rfl
theorem make31 (W : World) : (Instr.makeMap 81 none).run Tryz.prog W = .ok (.map (some W.heap.size)) (W.alloc (.map #[] 0)) := by kernel_rfl
theorem slice_of {w : World} {B : Nat} {e : TypeId} {size n : Nat} {v : Value} {xs : List Value} (hown : w.ownsRow B e size v n xs) : ∃ ao cap, v = .slice ao n cap := by
  rcases hown.2 with ⟨hv, h0⟩ | ⟨g, cap, cur, hv, _⟩
  · exact ⟨none, 0, by rw [hv, h0]⟩
  · exact ⟨_, cap, hv⟩

set_option maxRecDepth 100000 in
set_option maxHeartbeats 3200000 in
theorem begin_old (w : World) (B p pm n : Nat) (v : Value) (xs : List Value) (i : It) (E : List (ByteArray × Nat))
    (hc : w.cell? ⟨p, 0, none⟩ = some v) (hm : w.cell? ⟨p, 1, none⟩ = some (.map (some pm))) (hM : MapIs w pm E) (hown : w.ownsRow B 131 4 v n xs) (_hn : n ≤ 4096)
    (hnm : i.nm.size ≤ 1048576) (hold : (namesE E).any (fun y => eqW y i.nm) = true) :
    Calls Tryz.prog 100 #[.pointer (some ⟨p, 0, none⟩), stm i.sort i.line i.word i.a i.b i.c i.n i.nm] w fun e w' => e = refusal 3 i.line ∧ Below w.heap.size w w' := by
  have lg : p < w.heap.size := World.block_lt_of_cell? w _ hc
  have hne4 : ¬ w.heap.size = p := by omega
  have hne5 : ¬ p = w.heap.size := by omega
  obtain ⟨ao, cap, rfl⟩ := slice_of hown
  have hcall := enter_old ((w.alloc (.cells #[.int .i64 i.sort, .int .i64 i.line, .string i.word, .int .i64 i.a, .int .i64 i.b, .int .i64 i.c, .int .i64 i.n, .string i.nm] 135)).drew) pm E (hM.alloc _).drew i.sort i.line i.word i.a i.b i.c i.n i.nm (n : Int) hnm hold
  go_enter Tryz.func100, Tryz.ntmps100
  go_wp2_with fail
  go_region_dies
  all_goals (go_at_call 131; refine hcall.mono ?_; rintro e w2 ⟨rfl, hb⟩)
  all_goals exact ⟨rfl, rfl, one_new _ _ hb⟩

set_option maxRecDepth 100000 in
set_option maxHeartbeats 3200000 in
theorem begin_new (w : World) (B p pm n : Nat) (v : Value) (xs : List Value) (i : It) (E : List (ByteArray × Nat))
    (hc : w.cell? ⟨p, 0, none⟩ = some v) (hm : w.cell? ⟨p, 1, none⟩ = some (.map (some pm))) (hf : w.frozen? ⟨p, 0, none⟩ = false) (hM : MapIs w pm E) (hown : w.ownsRow B 131 4 v n xs) (hne : v.ownBlock ≠ some p) (hB : B ≤ w.heap.size) (hn : n ≤ 4096) (hnn : E.length ≤ 4096)
    (hnm : i.nm.size ≤ 1048576) (hold : (namesE E).any (fun y => eqW y i.nm) = false) (hpm : ¬ p = pm) :
    Calls Tryz.prog 100 #[.pointer (some ⟨p, 0, none⟩), stm i.sort i.line i.word i.a i.b i.c i.n i.nm] w fun e w' => e = .returned (.tuple #[]) ∧
      ∃ g cap w1 w2, w' = w1.setCell ⟨p, 0, none⟩ (.slice (some ⟨g, 0, none⟩) (n + 1) cap) ∧ w.grownBy w2 (some pm) ∧ MapIs w2 pm (E ++ [(i.nm, n)]) ∧ w2.grownBy w1 v.ownBlock ∧ w.heap.size ≤ w2.heap.size ∧ MapIs w1 w2.heap.size [] ∧
        w1.ownsRow B 131 4 (.slice (some ⟨g, 0, none⟩) (n + 1) cap) (n + 1) (xs ++ [.string i.nm, .int .i64 i.line, .slice none 0 0, .map (some w2.heap.size)]) ∧ (v.ownBlock = some g ∨ w2.heap.size < g) := by
  obtain ⟨i0, hi0, hz0, hz1, hz2⟩ := info_parts Tryz.info131
  have lg : p < w.heap.size := World.block_lt_of_cell? w _ hc
  have lm : pm < w.heap.size := hM.lt
  have hne4 : ¬ w.heap.size = p := by omega
  have hne5 : ¬ p = w.heap.size := by omega
  have hlt : ∀ b, v.ownBlock = some b → b < w.heap.size := fun b hb => (hown.lt b hb).2
  have hne2 : some p ≠ v.ownBlock := fun e => hne e.symm
  have hmr := map_row hM hown
  have hrow : v.ownBlock = none ∨ v.ownBlock ≠ some pm := .inr (fun e => hmr e.symm)
  obtain ⟨ao, cap0, hbv⟩ := slice_of hown
  have hc' := hc
  rw [hbv] at hc'
  have hcall := enter_new ((w.alloc (.cells #[.int .i64 i.sort, .int .i64 i.line, .string i.word, .int .i64 i.a, .int .i64 i.b, .int .i64 i.c, .int .i64 i.n, .string i.nm] 135)).drew) pm E (hM.alloc _).drew i.sort i.line i.word i.a i.b i.c i.n i.nm n hn hnn hnm hold
  obtain ⟨k0, k1, k2, k3, k4, k5, k6, k7⟩ := eight_in w i.sort i.line i.word i.a i.b i.c i.n i.nm
  go_enter Tryz.func100, Tryz.ntmps100
  go_wp2_with fail
  go_region_held3 (fun w' => w'.cell? ⟨p, 0, none⟩ = some (.slice ao n cap0) ∧ w'.cell? ⟨p, 1, none⟩ = some (.map (some pm)) ∧ w'.cell? ⟨w.heap.size, 0, none⟩ = some (.int .i64 i.sort) ∧ w'.cell? ⟨w.heap.size, 1, none⟩ = some (.int .i64 i.line) ∧ w'.cell? ⟨w.heap.size, 2, none⟩ = some (.string i.word) ∧
      w'.cell? ⟨w.heap.size, 3, none⟩ = some (.int .i64 i.a) ∧ w'.cell? ⟨w.heap.size, 4, none⟩ = some (.int .i64 i.b) ∧ w'.cell? ⟨w.heap.size, 5, none⟩ = some (.int .i64 i.c) ∧ w'.cell? ⟨w.heap.size, 6, none⟩ = some (.int .i64 i.n) ∧ w'.cell? ⟨w.heap.size, 7, none⟩ = some (.string i.nm))
    (first
      | go_keep
      | (refine ⟨?_, ?_, ?_, ?_, ?_, ?_, ?_, ?_, ?_, ?_⟩
         · (exact (hg2.cell_far _ (by simp; omega) (by simp; omega)).trans ((cell_one w _ _ lg).trans hc'))
         · (exact (hg2.cell_far _ (by simp; omega) (by simp; omega)).trans ((cell_one w _ _ lg).trans hm))
         · (exact (hg2.cell_far _ (by simp) (by simp; omega)).trans k0)
         · (exact (hg2.cell_far _ (by simp) (by simp; omega)).trans k1)
         · (exact (hg2.cell_far _ (by simp) (by simp; omega)).trans k2)
         · (exact (hg2.cell_far _ (by simp) (by simp; omega)).trans k3)
         · (exact (hg2.cell_far _ (by simp) (by simp; omega)).trans k4)
         · (exact (hg2.cell_far _ (by simp) (by simp; omega)).trans k5)
         · (exact (hg2.cell_far _ (by simp) (by simp; omega)).trans k6)
         · (exact (hg2.cell_far _ (by simp) (by simp; omega)).trans k7)))
    (first | (go_at_call 131; refine hcall.mono ?_; rintro e w2 ⟨rfl, hM2, hg2⟩))
  have hsz2 : w.heap.size + 1 ≤ w2.heap.size := by have := hg2.size; simpa using this
  have c2 : w2.cell? ⟨p, 0, none⟩ = some v := (hg2.cell_far _ (by simp; omega) (by simp; omega)).trans ((cell_one w _ _ lg).trans hc)
  have f2 : w2.frozen? ⟨p, 0, none⟩ = false := (hg2.frozen_far _ (by simp; omega) (by simp; omega)).trans ((frozen_one w _ _ lg).trans hf)
  replace k1 := (hg2.cell_far ⟨w.heap.size, 1, none⟩ (by simp) (by simp; omega)).trans k1
  replace k7 := (hg2.cell_far ⟨w.heap.size, 7, none⟩ (by simp) (by simp; omega)).trans k7
  have own2 : w2.ownsRow B 131 4 v n xs := ((hown.alloc _).drew).kept hg2 hrow
  have hgw : w.grownBy w2 (some pm) := grown_one hg2
  clear hcall hg2 hc' hc hm hf hM hown k0 k2 k3 k4 k5 k6
  have l2 : p < w2.heap.size := by omega
  have l3 : w.heap.size < w2.heap.size := by omega
  have hne6 : ¬ w2.heap.size = p := by omega
  have hne7 : ¬ p = w2.heap.size := by omega
  have hne8 : ¬ w2.heap.size = w.heap.size := by omega
  have hne9 : ¬ w.heap.size = w2.heap.size := by omega
  have hmade := MapIs.made w2
  have hlt2 : ∀ b, v.ownBlock = some b → b < w2.heap.size := fun b hb => (own2.lt b hb).2
  have hnm2 : some w2.heap.size ≠ v.ownBlock := fun e => by have := hlt2 _ e.symm; omega
  have hmk := fun W => make31 W
  go_wp2_with fail
  go_region_law
    ((refine step_append_lies _ (by rfl) _ _ _ (by rfl) B 131 i0 _ 4 56 Tryz.under80 hi0 hz0 hz1 hz2 rfl (by omega) v n xs (by rw [hbv]; rfl) (((own2.alloc _).alloc _).drew)
        ⟨w2.heap.size + 1, 0, none⟩ 1 1 [.string i.nm, .int .i64 i.line, .slice none 0 0, .map (some w2.heap.size)] (by rfl) (by rfl) (World.news_of_block (cs := #[.string i.nm, .int .i64 i.line, .slice none 0 0, .map (some w2.heap.size)]) (t := 131) (fr := (0, 0)) (news_two w2 _ _ _)) (by simp [Value.oneCell'])
        (by omega) (by unfold maxLen; omega) (by omega) (by simp; omega) (w2.heap.size + 1 + 1) (by simp) ?_; intro g cap w1 hown1 hgrow hat hltg; have hfz : w1.frozen? ⟨p, 0, none⟩ = false := (hgrow.frozen_far _ (by simp; omega) hne2).trans ((frozen_two w2 _ _ _ l2).trans f2); have hcz : w1.cell? ⟨p, 0, none⟩ = some v := (hgrow.cell_far _ (by simp; omega) hne2).trans ((cell_two w2 _ _ _ l2).trans c2)))
  all_goals go_end0
  all_goals exact ⟨rfl, g, cap, w1, w2, rfl, hgw, hM2, grown_two hgrow, by omega, ((hmade.alloc _).drew).kept hgrow hnm2, hown1, by rcases hat with h | h; exact .inl h; exact .inr (by omega)⟩

end Go.Proofs.YtfpgjkbjbbgciaaGreatDoor
