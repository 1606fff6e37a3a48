import Derived.Test.YtfpgjkbjbbgciaaGreatDoorMb34
import Derived.Test.YtfpgjkbjbbgciaaGreatDoorMb37
import Derived.Test.YtfpgjkbjbbgciaaGreatDoorMb18
namespace Go.Proofs.YtfpgjkbjbbgciaaGreatDoor
open Go.RowKit Sp

theorem z34_next {W1 : World} {n : Nat} (hs1 : W1.heap.size = n) (cs : List Value) (hlen : cs.length = 30) : (W1.alloc Z34).there n 0 cs.toArray.size := by
  rw [show cs.toArray.size = 30 by simp [hlen], ← hs1]
  exact z34_there W1
theorem z34_done {w W1 : World} {b : Nat} {x : Value} (hs1 : W1.heap.size = w.heap.size + 1) (cs : List Value) (hlen : cs.length = 30) (ca1 : W1.cell? ⟨b, 1, none⟩ = some x) (ht1 : W1.there w.heap.size 0 30) (hb1 : Below w.heap.size w W1) (lg : b < w.heap.size) :
    ((W1.alloc Z34).setCells (w.heap.size + 1) 0 cs.toArray.toList).rangeAt (w.heap.size + 1) 0 cs ∧ ((W1.alloc Z34).setCells (w.heap.size + 1) 0 cs.toArray.toList).there (w.heap.size + 1) 0 30 ∧ ((W1.alloc Z34).setCells (w.heap.size + 1) 0 cs.toArray.toList).there w.heap.size 0 30 ∧
      ((W1.alloc Z34).setCells (w.heap.size + 1) 0 cs.toArray.toList).cell? ⟨b, 1, none⟩ = some x ∧ ((W1.alloc Z34).setCells (w.heap.size + 1) 0 cs.toArray.toList).heap.size = w.heap.size + 2 ∧ Below w.heap.size w ((W1.alloc Z34).setCells (w.heap.size + 1) 0 cs.toArray.toList) := by
  have e : cs.toArray.toList = cs := by simp
  rw [e]
  have t2 := z34_next hs1 cs hlen
  rw [show cs.toArray.size = cs.length by simp] at t2
  refine ⟨World.rangeAt_setCells_same _ _ _ _ t2, ?_, World.there_setCells (World.there_alloc ht1 _) _ _ _, ?_, ?_, ?_⟩
  · rw [hlen] at t2; exact World.there_setCells t2 _ _ _
  · rw [World.cell?_setCells_out _ _ _ _ _ (fun h => by simp at h; omega), World.cell?_alloc_lt _ _ _ (by show b < W1.heap.size; omega)]
    exact ca1
  · rw [setCells_size]; simp; omega
  · exact setCells_below _ _ (hb1.alloc (by omega) _) (by omega)

set_option maxRecDepth 100000 in
set_option maxHeartbeats 4000000 in
theorem state_run (w : World) (b k : Nat) (cs ds : List Value) (z : Int) (hlen : cs.length = 30) (hone : cs.toArray.all (·.oneCell') = true) (hc : w.rangeAt b 4 cs) (h28 : cs[28]? = some (.int .i64 0)) (h29 : cs[29]? = some (.int .i64 z)) (cAt : w.cell? ⟨b, 1, none⟩ = some (.int .i64 (k : Int))) (hk : k ≤ 1000) (h1 : (z == 1) = false) (h2 : (z == 2) = false) (hds : cs.set 28 (.int .i64 ((k : Int) + 1)) = ds) (hone2 : ds.toArray.all (·.oneCell') = true) :
    Calls Tryz.prog 56 #[.pointer (some ⟨b, 0, none⟩)] w fun e w' => e = .returned (.agg ds.toArray) ∧ Below w.heap.size w w' := by
  have lg : b < w.heap.size := World.block_lt_of_cell? w _ cAt
  have hdl : ds.length = 30 := by rw [← hds, List.length_set]; exact hlen
  have hc1 := World.rangeAt_alloc hc Z34
  have ca1 : (w.alloc Z34).cell? ⟨b, 1, none⟩ = some (.int .i64 (k : Int)) := (World.cell?_alloc_lt w _ _ lg).trans cAt
  have ht1 := z34_there w
  have hs1 : (w.alloc Z34).heap.size = w.heap.size + 1 := by simp
  have hb1 : Below w.heap.size w (w.alloc Z34) := (Below.refl _ _).alloc (Nat.le_refl _) _
  have hu34 : Tryz.prog.underlying 34 = some (.struct _) := Tryz.underlying34
  have hi34 : (Tryz.prog.info? 34).map (·.size) = some cs.length := by rw [hlen]; exact Tryz.info34
  have hi34a : (Tryz.prog.info? 34).map (·.size) = some cs.toArray.size := by rw [show cs.toArray.size = 30 by simp [hlen]]; exact Tryz.info34
  have hi34d : (Tryz.prog.info? 34).map (·.size) = some ds.length := by rw [hdl]; exact Tryz.info34
  have hi34e : (Tryz.prog.info? 34).map (·.size) = some ds.toArray.size := by rw [show ds.toArray.size = 30 by simp [hdl]]; exact Tryz.info34
  have hTd : ∀ W : World, W.there w.heap.size 0 30 → W.there w.heap.size 0 ds.toArray.size := fun W h => by rw [show ds.toArray.size = 30 by simp [hdl]]; exact h
  have hRd : ∀ W : World, W.rangeAt (w.heap.size + 1) 0 cs → W.cell? ⟨w.heap.size + 1, 28, none⟩ = some (.int .i64 0) → (W.setCell ⟨w.heap.size + 1, 28, none⟩ (.int .i64 ((k : Int) + 1))).rangeAt (w.heap.size + 1) 0 ds := fun W h hq => by
    rw [← hds]
    have := range_set (v := .int .i64 ((k : Int) + 1)) h (n := 28) (u := .int .i64 0) (by simpa using hq)
    simpa using this
  clear hc cAt
  go_enter Tryz.func56, Tryz.ntmps56
  go_wp2_with (first
    | (refine wpList_load_mid rfl 34 _ rfl b 4 rfl cs _ hc1 hu34 rfl hi34 ?_; generalize w.alloc Z34 = W1 at hc1 ca1 ht1 hs1 hb1 ⊢; have ht2 := z34_next hs1 cs hlen)
    | (refine wpList_store_mid rfl 34 _ _ rfl (w.heap.size + 1) 0 cs.toArray rfl rfl ht2 hi34a hone ?_; obtain ⟨R2, T2, T1, ca2, hs2, hb2⟩ := z34_done hs1 cs hlen ca1 ht1 hb1 lg; generalize (W1.alloc Z34).setCells (w.heap.size + 1) 0 cs.toArray.toList = W2 at R2 T2 T1 ca2 hs2 hb2 ⊢; clear hc1 ca1 ht1 hs1 hb1 ht2; have q28 := R2 28 _ h28; have q29 := R2 29 _ h29; have f28 := (T2 28 (by omega)).2; simp only [Nat.zero_add] at q28 q29 f28; have R3 := hRd W2 R2 q28; have T3 := hTd _ (there_set T1 ⟨w.heap.size + 1, 28, none⟩ (.int .i64 ((k : Int) + 1)));  have hb3 := hb2.setCell (p := ⟨w.heap.size + 1, 28, none⟩) (Nat.le_succ _) (.int .i64 ((k : Int) + 1)))
    | (refine wpList_load_mid rfl 34 _ rfl (w.heap.size + 1) 0 rfl ds _ R3 hu34 rfl hi34d ?_)
    | (refine wpList_store_mid rfl 34 _ _ rfl w.heap.size 0 ds.toArray rfl rfl T3 hi34e hone2 ?_))
  have hr := World.rangeAt_setCells_same (W2.setCell ⟨w.heap.size + 1, 28, none⟩ (.int .i64 ((k : Int) + 1))) w.heap.size 0 ds (by rw [show ds.length = ds.toArray.size by simp]; exact T3)
  have hb4 := setCells_below ds (b := w.heap.size) 0 hb3 (Nat.le_refl _)
  generalize (W2.setCell ⟨w.heap.size + 1, 28, none⟩ (.int .i64 ((k : Int) + 1))).setCells w.heap.size 0 ds = W4 at hr hb4 ⊢
  have hres := run_loadVar_mid W4 w.heap.size 0 34 ds _ hr hu34 rfl hi34d
  refine bodyPost_ret (v := .agg ds.toArray) (results_cell1 Tryz.results56 _ ⟨w.heap.size, 0, none⟩ rfl hres) rfl ⟨rfl, hb4⟩

set_option maxRecDepth 100000 in
set_option maxHeartbeats 4000000 in
theorem state_stop (w : World) (b : Nat) (cs ds : List Value) (z : Int) (hlen : cs.length = 30) (hone : cs.toArray.all (·.oneCell') = true) (hc : w.rangeAt b 4 cs) (h28 : cs[28]? = some (.int .i64 0)) (h29 : cs[29]? = some (.int .i64 z)) (cAt : w.cell? ⟨b, 1, none⟩ = some (.int .i64 (-1))) (hz : z = 1) (hds : cs.set 28 (.int .i64 0) = ds) (hone2 : ds.toArray.all (·.oneCell') = true) :
    Calls Tryz.prog 56 #[.pointer (some ⟨b, 0, none⟩)] w fun e w' => e = .returned (.agg ds.toArray) ∧ Below w.heap.size w w' := by
  subst hz
  have lg : b < w.heap.size := World.block_lt_of_cell? w _ cAt
  have hdl : ds.length = 30 := by rw [← hds, List.length_set]; exact hlen
  have hc1 := World.rangeAt_alloc hc Z34
  have ca1 : (w.alloc Z34).cell? ⟨b, 1, none⟩ = some (.int .i64 (-1)) := (World.cell?_alloc_lt w _ _ lg).trans cAt
  have ht1 := z34_there w
  have hs1 : (w.alloc Z34).heap.size = w.heap.size + 1 := by simp
  have hb1 : Below w.heap.size w (w.alloc Z34) := (Below.refl _ _).alloc (Nat.le_refl _) _
  have hu34 : Tryz.prog.underlying 34 = some (.struct _) := Tryz.underlying34
  have hi34 : (Tryz.prog.info? 34).map (·.size) = some cs.length := by rw [hlen]; exact Tryz.info34
  have hi34a : (Tryz.prog.info? 34).map (·.size) = some cs.toArray.size := by rw [show cs.toArray.size = 30 by simp [hlen]]; exact Tryz.info34
  have hi34d : (Tryz.prog.info? 34).map (·.size) = some ds.length := by rw [hdl]; exact Tryz.info34
  have hi34e : (Tryz.prog.info? 34).map (·.size) = some ds.toArray.size := by rw [show ds.toArray.size = 30 by simp [hdl]]; exact Tryz.info34
  have hTd : ∀ W : World, W.there w.heap.size 0 30 → W.there w.heap.size 0 ds.toArray.size := fun W h => by rw [show ds.toArray.size = 30 by simp [hdl]]; exact h
  have hRd : ∀ W : World, W.rangeAt (w.heap.size + 1) 0 cs → W.cell? ⟨w.heap.size + 1, 28, none⟩ = some (.int .i64 0) → (W.setCell ⟨w.heap.size + 1, 28, none⟩ (.int .i64 0)).rangeAt (w.heap.size + 1) 0 ds := fun W h hq => by
    rw [← hds]
    have := range_set (v := .int .i64 0) h (n := 28) (u := .int .i64 0) (by simpa using hq)
    simpa using this
  have hRe : ∀ W : World, W.rangeAt (w.heap.size + 1) 0 ds → W.cell? ⟨w.heap.size + 1, 28, none⟩ = some (.int .i64 0) → (W.setCell ⟨w.heap.size + 1, 28, none⟩ (.int .i64 0)).rangeAt (w.heap.size + 1) 0 ds := fun W h hq => by
    have := range_set (v := .int .i64 0) h (n := 28) (u := .int .i64 0) (by simpa using hq)
    have e : ds.set 28 (.int .i64 0) = ds := by rw [← hds, List.set_set]
    rw [e] at this
    simpa using this
  clear hc cAt
  go_enter Tryz.func56, Tryz.ntmps56
  go_wp2_with (first
    | (refine wpList_load_mid rfl 34 _ rfl b 4 rfl cs _ hc1 hu34 rfl hi34 ?_; generalize w.alloc Z34 = W1 at hc1 ca1 ht1 hs1 hb1 ⊢; have ht2 := z34_next hs1 cs hlen)
    | (refine wpList_store_mid rfl 34 _ _ rfl (w.heap.size + 1) 0 cs.toArray rfl rfl ht2 hi34a hone ?_; obtain ⟨R2, T2, T1, ca2, hs2, hb2⟩ := z34_done hs1 cs hlen ca1 ht1 hb1 lg; generalize (W1.alloc Z34).setCells (w.heap.size + 1) 0 cs.toArray.toList = W2 at R2 T2 T1 ca2 hs2 hb2 ⊢; clear hc1 ca1 ht1 hs1 hb1 ht2; have q28 := R2 28 _ h28; have q29 := R2 29 _ h29; have f28 := (T2 28 (by omega)).2; simp only [Nat.zero_add] at q28 q29 f28; have R30 := hRd W2 R2 q28; have R3 := hRe _ R30 (World.cell?_setCell_same W2 _ _ q28); have T3 := hTd _ (there_set (there_set T1 ⟨w.heap.size + 1, 28, none⟩ (.int .i64 0)) ⟨w.heap.size + 1, 28, none⟩ (.int .i64 0));  have hb3 := (hb2.setCell (p := ⟨w.heap.size + 1, 28, none⟩) (Nat.le_succ _) (.int .i64 0)).setCell (p := ⟨w.heap.size + 1, 28, none⟩) (Nat.le_succ _) (.int .i64 0))
    | (refine wpList_load_mid rfl 34 _ rfl (w.heap.size + 1) 0 rfl ds _ R3 hu34 rfl hi34d ?_)
    | (refine wpList_store_mid rfl 34 _ _ rfl w.heap.size 0 ds.toArray rfl rfl T3 hi34e hone2 ?_))
  have hr := World.rangeAt_setCells_same ((W2.setCell ⟨w.heap.size + 1, 28, none⟩ (.int .i64 0)).setCell ⟨w.heap.size + 1, 28, none⟩ (.int .i64 0)) w.heap.size 0 ds (by rw [show ds.length = ds.toArray.size by simp]; exact T3)
  have hb4 := setCells_below ds (b := w.heap.size) 0 hb3 (Nat.le_refl _)
  generalize ((W2.setCell ⟨w.heap.size + 1, 28, none⟩ (.int .i64 0)).setCell ⟨w.heap.size + 1, 28, none⟩ (.int .i64 0)).setCells w.heap.size 0 ds = W4 at hr hb4 ⊢
  have hres := run_loadVar_mid W4 w.heap.size 0 34 ds _ hr hu34 rfl hi34d
  refine bodyPost_ret (v := .agg ds.toArray) (results_cell1 Tryz.results56 _ ⟨w.heap.size, 0, none⟩ rfl hres) rfl ⟨rfl, hb4⟩

set_option maxRecDepth 100000 in
set_option maxHeartbeats 4000000 in
theorem state_back (w : World) (b : Nat) (cs ds : List Value) (z : Int) (hlen : cs.length = 30) (hone : cs.toArray.all (·.oneCell') = true) (hc : w.rangeAt b 4 cs) (h28 : cs[28]? = some (.int .i64 0)) (h29 : cs[29]? = some (.int .i64 z)) (cAt : w.cell? ⟨b, 1, none⟩ = some (.int .i64 (-1))) (hz : z = 2) (hds : cs.set 28 (.int .i64 0) = ds) (hone2 : ds.toArray.all (·.oneCell') = true) :
    Calls Tryz.prog 56 #[.pointer (some ⟨b, 0, none⟩)] w fun e w' => e = .returned (.agg ds.toArray) ∧ Below w.heap.size w w' := by
  subst hz
  have lg : b < w.heap.size := World.block_lt_of_cell? w _ cAt
  have hdl : ds.length = 30 := by rw [← hds, List.length_set]; exact hlen
  have hc1 := World.rangeAt_alloc hc Z34
  have ca1 : (w.alloc Z34).cell? ⟨b, 1, none⟩ = some (.int .i64 (-1)) := (World.cell?_alloc_lt w _ _ lg).trans cAt
  have ht1 := z34_there w
  have hs1 : (w.alloc Z34).heap.size = w.heap.size + 1 := by simp
  have hb1 : Below w.heap.size w (w.alloc Z34) := (Below.refl _ _).alloc (Nat.le_refl _) _
  have hu34 : Tryz.prog.underlying 34 = some (.struct _) := Tryz.underlying34
  have hi34 : (Tryz.prog.info? 34).map (·.size) = some cs.length := by rw [hlen]; exact Tryz.info34
  have hi34a : (Tryz.prog.info? 34).map (·.size) = some cs.toArray.size := by rw [show cs.toArray.size = 30 by simp [hlen]]; exact Tryz.info34
  have hi34d : (Tryz.prog.info? 34).map (·.size) = some ds.length := by rw [hdl]; exact Tryz.info34
  have hi34e : (Tryz.prog.info? 34).map (·.size) = some ds.toArray.size := by rw [show ds.toArray.size = 30 by simp [hdl]]; exact Tryz.info34
  have hTd : ∀ W : World, W.there w.heap.size 0 30 → W.there w.heap.size 0 ds.toArray.size := fun W h => by rw [show ds.toArray.size = 30 by simp [hdl]]; exact h
  have hRd : ∀ W : World, W.rangeAt (w.heap.size + 1) 0 cs → W.cell? ⟨w.heap.size + 1, 28, none⟩ = some (.int .i64 0) → (W.setCell ⟨w.heap.size + 1, 28, none⟩ (.int .i64 0)).rangeAt (w.heap.size + 1) 0 ds := fun W h hq => by
    rw [← hds]
    have := range_set (v := .int .i64 0) h (n := 28) (u := .int .i64 0) (by simpa using hq)
    simpa using this
  have hRe : ∀ W : World, W.rangeAt (w.heap.size + 1) 0 ds → W.cell? ⟨w.heap.size + 1, 28, none⟩ = some (.int .i64 0) → (W.setCell ⟨w.heap.size + 1, 28, none⟩ (.int .i64 0)).rangeAt (w.heap.size + 1) 0 ds := fun W h hq => by
    have := range_set (v := .int .i64 0) h (n := 28) (u := .int .i64 0) (by simpa using hq)
    have e : ds.set 28 (.int .i64 0) = ds := by rw [← hds, List.set_set]
    rw [e] at this
    simpa using this
  clear hc cAt
  go_enter Tryz.func56, Tryz.ntmps56
  go_wp2_with (first
    | (refine wpList_load_mid rfl 34 _ rfl b 4 rfl cs _ hc1 hu34 rfl hi34 ?_; generalize w.alloc Z34 = W1 at hc1 ca1 ht1 hs1 hb1 ⊢; have ht2 := z34_next hs1 cs hlen)
    | (refine wpList_store_mid rfl 34 _ _ rfl (w.heap.size + 1) 0 cs.toArray rfl rfl ht2 hi34a hone ?_; obtain ⟨R2, T2, T1, ca2, hs2, hb2⟩ := z34_done hs1 cs hlen ca1 ht1 hb1 lg; generalize (W1.alloc Z34).setCells (w.heap.size + 1) 0 cs.toArray.toList = W2 at R2 T2 T1 ca2 hs2 hb2 ⊢; clear hc1 ca1 ht1 hs1 hb1 ht2; have q28 := R2 28 _ h28; have q29 := R2 29 _ h29; have f28 := (T2 28 (by omega)).2; simp only [Nat.zero_add] at q28 q29 f28; have R30 := hRd W2 R2 q28; have R3 := hRe _ R30 (World.cell?_setCell_same W2 _ _ q28); have T3 := hTd _ (there_set (there_set T1 ⟨w.heap.size + 1, 28, none⟩ (.int .i64 0)) ⟨w.heap.size + 1, 28, none⟩ (.int .i64 0));  have hb3 := (hb2.setCell (p := ⟨w.heap.size + 1, 28, none⟩) (Nat.le_succ _) (.int .i64 0)).setCell (p := ⟨w.heap.size + 1, 28, none⟩) (Nat.le_succ _) (.int .i64 0))
    | (refine wpList_load_mid rfl 34 _ rfl (w.heap.size + 1) 0 rfl ds _ R3 hu34 rfl hi34d ?_)
    | (refine wpList_store_mid rfl 34 _ _ rfl w.heap.size 0 ds.toArray rfl rfl T3 hi34e hone2 ?_))
  have hr := World.rangeAt_setCells_same ((W2.setCell ⟨w.heap.size + 1, 28, none⟩ (.int .i64 0)).setCell ⟨w.heap.size + 1, 28, none⟩ (.int .i64 0)) w.heap.size 0 ds (by rw [show ds.length = ds.toArray.size by simp]; exact T3)
  have hb4 := setCells_below ds (b := w.heap.size) 0 hb3 (Nat.le_refl _)
  generalize ((W2.setCell ⟨w.heap.size + 1, 28, none⟩ (.int .i64 0)).setCell ⟨w.heap.size + 1, 28, none⟩ (.int .i64 0)).setCells w.heap.size 0 ds = W4 at hr hb4 ⊢
  have hres := run_loadVar_mid W4 w.heap.size 0 34 ds _ hr hu34 rfl hi34d
  refine bodyPost_ret (v := .agg ds.toArray) (results_cell1 Tryz.results56 _ ⟨w.heap.size, 0, none⟩ rfl hres) rfl ⟨rfl, hb4⟩


end Go.Proofs.YtfpgjkbjbbgciaaGreatDoor

namespace Go.Proofs.YtfpgjkbjbbgciaaGreatDoor
open Go.RowKit Sp

/-- What the document's run comes to. -/
def TracedPost (w : World) (mm : Mc) : Ending → World → Prop := fun e w' => ∃ ao no co, e = .returned (.agg (stateL mm (.slice ao no co) mm.line).toArray) ∧ w'.ownsRow w.heap.size 2 1 (.slice ao no co) mm.out.length (i64s mm.out) ∧ Below w.heap.size w w'
theorem state_any (L : List Said) (w : World) (b g cap2 : Nat) (m : Mc) (bv iv ov : Value) (R : RefAt w b g cap2 L m bv iv ov) (hn : L.length ≤ 300) (A : AtOk L m) :
    ∃ ao no co, ov = .slice ao no co ∧ Calls Tryz.prog 56 #[.pointer (some ⟨b, 0, none⟩)] w fun e w' => e = .returned (.agg (stateL m (.slice ao no co) m.line).toArray) ∧ Below w.heap.size w w' := by
  obtain ⟨ao, co, rfl⟩ := slice_of R.out
  refine ⟨ao, _, co, rfl, ?_⟩
  have hr := R.mem.range
  have hl := stateL_len m (.slice ao m.out.length co) 0
  have h28 := stateL_28 m (.slice ao m.out.length co) 0
  have h29 := stateL_29 m (.slice ao m.out.length co) 0
  have ho := stateL_one m ao m.out.length co 0
  have cA := R.mem.cAt
  rcases A with ⟨h | h, ha⟩ | ⟨hf, k, hk, hlt, _⟩
  · rw [show m.line = 0 by unfold Mc.line; rw [if_pos (.inl h)]]
    rw [ha] at cA
    exact state_stop w b _ _ m.fin hl ho hr h28 h29 cA h (stateL_set _ _ _ _) (stateL_one _ _ _ _ _)
  · rw [show m.line = 0 by unfold Mc.line; rw [if_pos (.inr h)]]
    rw [ha] at cA
    exact state_back w b _ _ m.fin hl ho hr h28 h29 cA h (stateL_set _ _ _ _) (stateL_one _ _ _ _ _)
  · rw [show m.line = (k : Int) + 1 by unfold Mc.line; rw [if_neg (by omega), hk]]
    rw [hk] at cA
    exact state_run w b k _ _ m.fin hl ho hr h28 h29 cA (by omega) (by rcases hf with h | h | h <;> rw [h] <;> rfl) (by rcases hf with h | h | h <;> rw [h] <;> rfl) (stateL_set _ _ _ _) (stateL_one _ _ _ _ _)
def stepsAt (w : World) (b : Nat) : Nat := match w.cell? ⟨b, 4, none⟩ with | some (.int _ s) => s.toNat | _ => 0
theorem RefM.stepsAt {w : World} {b : Nat} {lv bv iv ov : Value} {m : Mc} (h : RefM w b lv bv iv ov m) : Go.Proofs.YtfpgjkbjbbgciaaGreatDoor.stepsAt w b = m.steps.toNat := by unfold Go.Proofs.YtfpgjkbjbbgciaaGreatDoor.stepsAt; rw [h.cS]
/-- What a round of the run sees. -/
structure RunAt (L : List Said) (n g cap2 b : Nat) (w0 wr : World) (FIN m : Mc) (bv iv ov : Value) : Prop where
  ref : RefAt wr b g cap2 L m bv iv ov
  inv : m.fin = 0 → InvR L m
  fin : m.fin = 0 ∨ m.fin = 1 ∨ m.fin = 2
  ok : AtOk L m
  st0 : 0 ≤ m.steps
  st1 : m.steps ≤ (n : Int)
  inp : m.inp.length ≤ 1048576
  run : FIN = runS (stepL L) (n - m.steps.toNat) m
  low : Below w0.heap.size w0 wr
/-- A round: where the machine is behind it. -/
theorem RunAt.round {L : List Said} {n g cap2 b : Nat} {w0 wr : World} {FIN m : Mc} {bv iv ov : Value} (Z : RunAt L n g cap2 b w0 wr FIN m bv iv ov) (G : Good L) (hL : LinesIn w0 g L) (hb : w0.heap.size ≤ b) (hn : n ≤ 100000) (hlt : m.steps < (n : Int)) :
    (Calls Tryz.prog 55 #[.pointer (some ⟨b, 0, none⟩)] wr fun e w' => e = .returned (.bool true) ∧ ∃ m2 bv' iv' ov', RunAt L n g cap2 b w0 w' FIN m2 bv' iv' ov' ∧ m2.steps = m.steps + 1) ∨
    (Calls Tryz.prog 55 #[.pointer (some ⟨b, 0, none⟩)] wr fun e w' => e = .returned (.bool false) ∧ ∃ bv' iv' ov', RefAt w' b g cap2 L FIN bv' iv' ov' ∧ AtOk L FIN ∧ Below w0.heap.size w0 w') := by
  by_cases h0 : m.fin = 0
  · have hI := Z.inv h0
    obtain ⟨hc, hinv⟩ := rstep_any G Z.ref hI h0 hL Z.low hb (by omega) Z.inp
    obtain ⟨hA, hS, hin⟩ := step_at hI h0 hinv
    have hrun : FIN = runS (stepL L) (n - m.steps.toNat - 1) (stepL L m) := by
      rw [Z.run, show n - m.steps.toNat = (n - m.steps.toNat - 1) + 1 by have := Z.st0; omega, runS_step _ _ _ h0]
      rfl
    rcases hS with ⟨hf, hs⟩ | ⟨hf, hs⟩
    · right
      refine hc.mono ?_
      rintro e w' ⟨h1, bv', iv', ov', hR, hB⟩
      have hF : FIN = stepL L m := by rw [hrun, runS_stop _ _ _ (by omega)]
      refine ⟨by rw [h1, show decide (¬ ((stepL L m).fin = 3 ∨ (stepL L m).fin = 4)) = false by simp; omega], bv', iv', ov', by rw [hF]; exact hR, by rw [hF]; exact hA, Z.low.trans (hB.mono hb)⟩
    · left
      refine hc.mono ?_
      rintro e w' ⟨h1, bv', iv', ov', hR, hB⟩
      refine ⟨by rw [h1, show decide (¬ ((stepL L m).fin = 3 ∨ (stepL L m).fin = 4)) = true by simp; omega], stepL L m, bv', iv', ov', ⟨hR, hinv, hf, hA, by have := Z.st0; omega, by omega, by have := Z.inp; omega, ?_, Z.low.trans (hB.mono hb)⟩, hs⟩
      rw [hrun, hs]
      congr 1
      have := Z.st0
      omega
  · right
    refine (step_ended wr b _ bv iv ov m Z.ref.mem (by simpa using h0)).mono ?_
    rintro e w' ⟨h1, rfl⟩
    have hF : FIN = m := by rw [Z.run, runS_stop _ _ _ h0]
    exact ⟨h1, bv, iv, ov, by rw [hF]; exact Z.ref, by rw [hF]; exact Z.ok, Z.low⟩

theorem there_below {w w' : World} {B b o n : Nat} (h : w.there b o n) (hb : Below B w w') (hB : b < B) : w'.there b o n := fun j hj => by
  obtain ⟨h1, h2⟩ := h j hj
  exact ⟨by rw [hb.cell (p := ⟨b, o + j, none⟩) hB]; exact h1, by rw [World.frozen?_of_block (w := w) (hb.block b hB)]; exact h2⟩
theorem there_state {W1 w3 w4 : World} {r : Nat} (ht1 : W1.there r 0 30) (hs1 : W1.heap.size = r + 1) (hb3 : Below W1.heap.size W1 w3) (hb4 : Below w3.heap.size w3 w4) (ds : List Value) (hl : ds.length = 30) : w4.there r 0 ds.toArray.size := by
  rw [show ds.toArray.size = 30 by simp [hl]]
  have h3 := there_below ht1 hb3 (by omega)
  exact there_below h3 hb4 (by have := hb3.size; omega)
theorem info_state (ds : List Value) (hl : ds.length = 30) : (Tryz.prog.info? 34).map (·.size) = some ds.toArray.size := by rw [show ds.toArray.size = 30 by simp [hl]]; exact Tryz.info34
/-- The state is told. -/
theorem traced_end {w W1 w3 w4 : World} {g cap2 : Nat} {L : List Said} {FIN : Mc} {bv iv : Value} {ao : Option Addr} {no co : Nat} {act : Act} (ht1 : W1.there w.heap.size 0 30) (hs1 : W1.heap.size = w.heap.size + 1) (hb1 : Below w.heap.size w W1) (hb3 : Below W1.heap.size W1 w3) (R3 : RefAt w3 (w.heap.size + 1) g cap2 L FIN bv iv (.slice ao no co)) (hb4 : Below w3.heap.size w3 w4)
    (hp : act.tmps.getD 6 undef = .pointer (some ⟨w.heap.size, 0, none⟩)) (hd : act.defers = []) :
    bodyPost Tryz.prog Tryz.f24 (TracedPost w FIN) .ret act (w4.setCells w.heap.size 0 (stateL FIN (.slice ao no co) FIN.line)) := by
  have hl := stateL_len FIN (.slice ao no co) FIN.line
  have ht4 := there_state ht1 hs1 hb3 hb4 _ hl
  generalize hds : stateL FIN (.slice ao no co) FIN.line = ds at hl ht4
  have hu34 : Tryz.prog.underlying 34 = some (.struct _) := Tryz.underlying34
  have hr := World.rangeAt_setCells_same w4 w.heap.size 0 ds (by rw [show ds.length = ds.toArray.size by simp]; exact ht4)
  have hres := run_loadVar_mid (w4.setCells w.heap.size 0 ds) w.heap.size 0 34 ds _ hr hu34 rfl (by rw [hl]; exact Tryz.info34)
  have hb14 : Below w.heap.size w w4 := (hb1.trans (hb3.mono (by omega))).trans (hb4.mono (by have := hb3.size; omega))
  refine bodyPost_ret (v := .agg ds.toArray) (results_cell1 Tryz.results24 _ ⟨w.heap.size, 0, none⟩ hp hres) hd ⟨ao, no, co, by rw [hds], ?_, setCells_below ds 0 hb14 (Nat.le_refl _)⟩
  have ho := own_below R3.out hb4 (Nat.le_refl _)
  have ho2 : (w4.setCells w.heap.size 0 ds).ownsRow (w.heap.size + 1 + 1) 2 1 (.slice ao no co) FIN.out.length (i64s FIN.out) := own_of_block ho (fun q hq => setCells_block ds w4 _ _ _ (by have := (ho.lt q hq).1; omega))
  exact own_mono ho2 (by omega)

set_option maxRecDepth 100000 in
set_option maxHeartbeats 4000000 in
theorem traced_any (w : World) (g cap2 n icap : Nat) (ao : Option Addr) (L : List Said) (inp : List Int) (G : Good L) (hL : LinesIn w g L) (hiv : SlB w w.heap.size (.slice ao inp.length icap) inp) (hin : inp.length ≤ 1048576) (hn : n ≤ 100000) :
    Calls Tryz.prog 24 #[.slice (some ⟨g, 0, none⟩) L.length cap2, .slice ao inp.length icap, .int .i64 (n : Int)] w (TracedPost w (runS (stepL L) n (beginL L inp))) := by
  obtain ⟨p, hp, h2, hz⟩ := G.head
  have e1 : firstFn L 0 = p := firstFn_is L 0 p hp h2 (by omega) (fun j h _ hb => hz j h hb)
  have hb1 : Below w.heap.size w (w.alloc Z34) := (Below.refl _ _).alloc (Nat.le_refl _) _
  have hs1 : (w.alloc Z34).heap.size = w.heap.size + 1 := by simp
  have ht1 := z34_there w
  have hbeg := begin_any (w.alloc Z34) g cap2 p icap ao L inp (hL.below hb1) G.few hp h2 hz (nextFrom L (p + 1)) rfl (by
    obtain ⟨ao', cap', q1, q2, q3⟩ := hiv
    refine ⟨ao', cap', q1, q2, fun hp => ?_⟩
    obtain ⟨ig, io, r1, r2, r3, r4⟩ := q3 hp
    exact ⟨ig, io, r1, by omega, by omega, fun j hj => (hb1.cell (p := ⟨ig, io + j, none⟩) r3).trans (r4 j hj)⟩)
  have hI := begin_inv G inp
  have em : beginL L inp = ⟨nextFrom L (p + 1), [], inp, 0, fun _ => 0, fun _ => 0, [], 1, 1, 0⟩ := by unfold beginL; rw [e1]
  rw [em] at hI ⊢
  generalize hm0 : (⟨nextFrom L (p + 1), [], inp, 0, fun _ => 0, fun _ => 0, [], 1, 1, 0⟩ : Mc) = m0 at hbeg hI ⊢
  have f0 : m0.fin = 0 ∧ m0.steps = 0 ∧ m0.inp = inp := by rw [← hm0]; exact ⟨rfl, rfl, rfl⟩
  obtain ⟨f1, f2, f3⟩ := f0
  generalize hF : runS (stepL L) n m0 = FIN
  have HF : Hid (FIN = runS (stepL L) n m0) := hF.symm
  clear hF hm0 em e1
  have hu34 : Tryz.prog.underlying 34 = some (.struct _) := Tryz.underlying34
  rw [hs1] at hbeg
  clear hiv
  go_enter Tryz.func24, Tryz.ntmps24
  go_wp2_with (first | (go_at_call 54; refine hbeg.mono ?_; rintro e W2 ⟨rfl, hR, hb2⟩))
  have hL1 := hL.below hb1
  clear hbeg hL
  generalize w.alloc Z34 = W1 at hb1 hs1 ht1 hb2 hL1
  go_loopw [8] (fun _ wr => ∃ (m : Mc) (bv iv ov : Value), RunAt L n g cap2 (w.heap.size + 1) W1 wr FIN m bv iv ov) (fun _ wr => n - stepsAt wr (w.heap.size + 1))
  case atStart => exact ⟨m0, _, _, _, ⟨hR, fun _ => hI, .inl f1, .inr ⟨.inl f1, hI.at_⟩, by omega, by omega, by rw [f3]; exact hin, by rw [f2]; exact HF.out, by rw [hs1]; exact hb2⟩⟩
  case round =>
    obtain ⟨m, bv, iv, ov, Z⟩ := hrel
    have cS := Z.ref.mem.cS
    clear hR hb2 HF hI f1 f2 f3
    by_cases hlt : m.steps < (n : Int)
    · rcases Z.round G hL1 (by omega) hn hlt with hc | hc
      · go_wp2_with (first | (go_at_call 55; refine hc.mono ?_; rintro e w3 ⟨rfl, m2, bv', iv', ov', Z2, hs⟩))
        have q1 := Z2.ref.mem.stepsAt
        have q2 := Z.ref.mem.stepsAt
        have q3 := Z.st0
        go_roundw
        case rel => exact ⟨m2, bv', iv', ov', Z2⟩
        case measure => rw [q1, q2]; omega
      · go_wp2_with (first | (go_at_call 55; refine hc.mono ?_; rintro e w3 ⟨rfl, bv', iv', ov', R3, A3, hb3⟩; obtain ⟨ao', no', co', rfl, hst⟩ := state_any L w3 (w.heap.size + 1) g cap2 FIN bv' iv' ov' R3 G.few A3) | (go_at_call 56; refine hst.mono ?_; rintro e w4 ⟨rfl, hb4⟩; have ht4 := there_state ht1 hs1 hb3 hb4 _ (stateL_len FIN (.slice ao' no' co') FIN.line)) | (refine wpList_store_mid rfl 34 _ _ rfl w.heap.size 0 (stateL FIN (.slice ao' no' co') FIN.line).toArray rfl rfl ht4 (info_state _ (stateL_len _ _ _)) (stateL_one _ _ _ _ _) ?_))
        exact traced_end ht1 hs1 hb1 hb3 R3 hb4 rfl rfl
    · have hF : FIN = m := by
        rw [Z.run, show n - m.steps.toNat = 0 by have := Z.st1; omega]; rfl
      subst hF
      have R3 := Z.ref
      have A3 := Z.ok
      have hb3 := Z.low
      obtain ⟨ao', no', co', rfl, hst⟩ := state_any L wr (w.heap.size + 1) g cap2 FIN bv iv ov R3 G.few A3
      go_wp2_with (first | (go_at_call 56; refine hst.mono ?_; rintro e w4 ⟨rfl, hb4⟩; have ht4 := there_state ht1 hs1 hb3 hb4 _ (stateL_len FIN (.slice ao' no' co') FIN.line)) | (refine wpList_store_mid rfl 34 _ _ rfl w.heap.size 0 (stateL FIN (.slice ao' no' co') FIN.line).toArray rfl rfl ht4 (info_state _ (stateL_len _ _ _)) (stateL_one _ _ _ _ _) ?_))
      exact traced_end ht1 hs1 hb1 hb3 R3 hb4 rfl rfl

end Go.Proofs.YtfpgjkbjbbgciaaGreatDoor
