import Derived.Test.YtfpgjkbjbbgciaaGreatDoorMb14
import Derived.Test.YtfpgjkbjbbgciaaGreatDoorMb43
namespace Go.Proofs.YtfpgjkbjbbgciaaGreatDoor
open Go.RowKit Sp
/- What the face does around its work, whatever the work is. -/

abbrev OutW (w : World) : World := (w.alloc (.cells #[.int .i64 0] 22)).alloc (.cells #[.int .i64 0] 3)
set_option maxRecDepth 100000 in
set_option maxHeartbeats 1000000 in
theorem outcome_ret (fn : Nat) (caps : Array Value) (w : World) (Q : World → Prop) (hfn : ∀ W, (callFunc fn caps).run Tryz.prog W = .ok (.enter fn caps) W)
    (hcall : Calls Tryz.prog fn caps (OutW w) fun e w1 => e = .returned (.tuple #[]) ∧ Q w1)
    (hQ : ∀ w1, Q w1 → w1.cell? ⟨w.heap.size, 0, none⟩ = some (.int .i64 0) ∧ w1.cell? ⟨w.heap.size + 1, 0, none⟩ = some (.int .i64 0) ∧ w1.frozen? ⟨w.heap.size, 0, none⟩ = false ∧ w1.frozen? ⟨w.heap.size + 1, 0, none⟩ = false) :
    Calls Tryz.prog 42 #[.func (.func fn) #[] caps] w fun e w' => e = .returned (.tuple #[.int .i64 0, .int .i64 0]) ∧ ∃ w1, Q w1 ∧ w' = (w1.setCell ⟨w.heap.size, 0, none⟩ (.int .i64 0)).setCell ⟨w.heap.size + 1, 0, none⟩ (.int .i64 0) := by
  have hmf : ∀ (fn : Go.Fn) (first cap : Array Value) (w : World), (Instr.makeFunc fn first cap).run Tryz.prog w = .ok (.func fn first cap) w := fun _ _ _ _ => rfl
  go_enter_defers Tryz.func42, Tryz.ntmps42
  go_wp2_with (first | (refine hcall.mono ?_; rintro e w1 ⟨rfl, hq⟩; obtain ⟨z0, z1, f0, f1⟩ := hQ w1 hq))
  have y0 : ((w1.setCell ⟨w.heap.size, 0, none⟩ (.int .i64 0)).setCell ⟨w.heap.size + 1, 0, none⟩ (.int .i64 0)).cell? ⟨w.heap.size, 0, none⟩ = some (.int .i64 0) := by
    rw [World.cell?_setCell_other]
    · exact World.cell?_setCell_same w1 _ _ z0
    · simp
  have y1 : ((w1.setCell ⟨w.heap.size, 0, none⟩ (.int .i64 0)).setCell ⟨w.heap.size + 1, 0, none⟩ (.int .i64 0)).cell? ⟨w.heap.size + 1, 0, none⟩ = some (.int .i64 0) := by
    refine World.cell?_setCell_same (u := .int .i64 0) _ _ _ ?_
    rw [World.cell?_setCell_other]
    · exact z1
    · simp
  generalize hX : (w1.setCell ⟨w.heap.size, 0, none⟩ (.int .i64 0)).setCell ⟨w.heap.size + 1, 0, none⟩ (.int .i64 0) = X at y0 y1 ⊢
  refine leaves_cons (f := 64) (args := #[.pointer (some ⟨w.heap.size, 0, none⟩), .pointer (some ⟨w.heap.size + 1, 0, none⟩)]) (by simp) (by simp [go_sem]) ?_
  refine (catch_idle w.heap.size _).mono ?_
  rintro e u' w'' ⟨rfl, rfl, rfl⟩
  exact ⟨.tuple #[.int .i64 0, .int .i64 0], by simp [results, Tryz.results42, go_sem, y0, y1], rfl, w1, hq, hX.symm⟩
set_option maxRecDepth 100000 in
set_option maxHeartbeats 1000000 in
theorem outcome_refused (fn : Nat) (caps : Array Value) (w : World) (er ln : Int) (hfn : ∀ W, (callFunc fn caps).run Tryz.prog W = .ok (.enter fn caps) W)
    (hcall : Calls Tryz.prog fn caps (OutW w) fun e w1 => e = refusal er ln ∧ Below (OutW w).heap.size (OutW w) w1) :
    Calls Tryz.prog 42 #[.func (.func fn) #[] caps] w fun e w' => e = .returned (.tuple #[.int .i64 er, .int .i64 ln]) ∧ Below w.heap.size w w' := by
  have hmf : ∀ (fn : Go.Fn) (first cap : Array Value) (w : World), (Instr.makeFunc fn first cap).run Tryz.prog w = .ok (.func fn first cap) w := fun _ _ _ _ => rfl
  go_enter_defers Tryz.func42, Tryz.ntmps42
  go_wp2_with (first | (refine hcall.mono ?_; rintro e w1 ⟨rfl, hb⟩; obtain ⟨hc, hf⟩ := bcell hb))
  have z0 : w1.cell? ⟨w.heap.size, 0, none⟩ = some (.int .i64 0) := by rw [hc _ _ (by simp; omega)]; simp
  have z1 : w1.cell? ⟨w.heap.size + 1, 0, none⟩ = some (.int .i64 0) := by rw [hc _ _ (by simp)]; simp
  have f0 : w1.frozen? ⟨w.heap.size, 0, none⟩ = false := by rw [hf _ _ (by simp; omega)]; simp
  have f1 : w1.frozen? ⟨w.heap.size + 1, 0, none⟩ = false := by rw [hf _ _ (by simp)]; simp
  refine leaves_cons (f := 64) (args := #[.pointer (some ⟨w.heap.size, 0, none⟩), .pointer (some ⟨w.heap.size + 1, 0, none⟩)]) (by simp) (by simp [go_sem]) ?_
  refine (catch_refusal w.heap.size 0 0 er ln _ z0 z1 f0 f1).mono ?_
  rintro e u' w'' ⟨rfl, rfl, hb2, y0, y1⟩
  exact ⟨.tuple #[.int .i64 er, .int .i64 ln], by simp [results, Tryz.results42, go_sem, y0, y1], rfl, (two_new _ _ _ hb).trans hb2⟩

end Go.Proofs.YtfpgjkbjbbgciaaGreatDoor

namespace Go.Proofs.YtfpgjkbjbbgciaaGreatDoor
open Go.RowKit Sp

def newL (iv : Value) : List Value := List.replicate 24 (.int .i64 0) ++ [iv, .slice none 0 0, .int .i64 0, .slice none 0 0, .int .i64 0, .int .i64 1, .int .i64 0]
set_option maxRecDepth 100000 in
theorem built157 (ao : Option Addr) (n c : Nat) : Tryz.prog.built 195 [(2, .slice ao n c), (7, .int .i64 1)] = some (newL (.slice ao n c)).toArray := by kernel_rfl
theorem newL_cells (iv : Value) : (newL iv)[24]? = some iv ∧ (newL iv)[25]? = some (.slice none 0 0) ∧ (newL iv)[26]? = some (.int .i64 0) ∧ (newL iv)[27]? = some (.slice none 0 0) ∧ (newL iv)[28]? = some (.int .i64 0) ∧ (newL iv)[29]? = some (.int .i64 1) ∧ (newL iv)[30]? = some (.int .i64 0) := ⟨rfl, rfl, rfl, rfl, rfl, rfl, rfl⟩
theorem newL_zero (iv : Value) (i : Nat) (h : i < 24) : (newL iv)[i]? = some (.int .i64 0) := by
  unfold newL
  rw [List.getElem?_append_left (by simpa using h), List.getElem?_replicate, if_pos h]
theorem new_mem (w : World) (iv : Value) (inp : List Int) : MchM (w.alloc (.cells (newL iv).toArray 195)) w.heap.size (.slice none 0 0) iv (.slice none 0 0) (beginC inp) := by
  have hr := range_new w (newL iv) 195
  have hx : ∀ j v, (newL iv)[j]? = some v → (w.alloc (.cells (newL iv).toArray 195)).cell? ⟨w.heap.size, j, none⟩ = some v := fun j v hv => by have := hr j v hv; rwa [Nat.zero_add] at this
  obtain ⟨c1, c2, c3, c4, c5, c6, c7⟩ := newL_cells iv
  exact ⟨fun i hi => hx i _ (newL_zero iv i (by omega)), fun i hi => hx (8 + i) _ (newL_zero iv _ (by omega)), hx _ _ c1, hx _ _ c2, hx _ _ c3, hx _ _ c4, hx _ _ c5, hx _ _ c6, hx _ _ c7, fun o => by simp⟩
set_option maxRecDepth 100000 in
set_option maxHeartbeats 4000000 in
theorem mnew_any (w : World) (ao : Option Addr) (icap : Nat) (inp : List Int) (hiv : SlB w w.heap.size (.slice ao inp.length icap) inp) :
    Calls Tryz.prog 82 #[.slice ao inp.length icap] w fun e w' => e = .returned (.pointer (some ⟨w.heap.size, 0, none⟩)) ∧ (∃ bv iv ov, MchAt w' w.heap.size (beginC inp) bv iv ov) ∧ Below w.heap.size w w' := by
  have hb := built157 ao inp.length icap
  have hm := new_mem w (.slice ao inp.length icap) inp
  generalize hds : newL (.slice ao inp.length icap) = ds at hb hm
  go_enter Tryz.func82, Tryz.ntmps82
  go_wp2_with (first
    | (refine wpList_build rfl 195 _ rfl ?_ ?_
       · simp [Act.eval, hb]
       simp only [List.map_toArray, List.map_cons, List.map_nil, Act.eval]
       refine Hid.out ?_))
  unfold Hid
  erw [hb]
  simp only [Option.getD_some, Act.put, List.setIfInBounds_toArray, List.set_cons_succ, List.set_cons_zero]
  go_wp2_with (first | (refine Go.Great.wpList_boxTo rfl 195 _ rfl _ rfl w.heap.size rfl ds.toArray rfl ?_))
  go_ret
  have hB : Below w.heap.size w (w.alloc (.cells ds.toArray 195)) := (Below.refl _ _).alloc (Nat.le_refl _) _
  exact ⟨rfl, ⟨_, _, _, hm, World.ownsRow_nil _ _ _ _, World.ownsRow_nil _ _ _ _, hiv.below hB⟩, hB⟩


end Go.Proofs.YtfpgjkbjbbgciaaGreatDoor
