import Derived.Test.YtfpgjkbjbbgciaaGreatDoorMf30
set_option maxRecDepth 100000
set_option maxHeartbeats 8000000
namespace Go.Proofs.YtfpgjkbjbbgciaaGreatDoor
open Go.RowKit Sp
attribute [local go_sem ↓] Go.wp_at_zero Go.wp_at_succ
theorem zin (w : World) (b c r : Nat) (bv ov : Value) (ao : Option Addr) (m : Mc) (hr : r < 8) (h : MchM w b bv (.slice ao 0 c) ov m) (h0 : 0 ≤ m.steps) (h1 : m.steps ≤ 100000) (ha : 0 ≤ m.at') (hb : m.at' ≤ 100000) :
  Calls Tryz.prog 259 #[.agg #[.int .i64 (r : Int)],.pointer (some ⟨b,0,none⟩)] w fun e w' => e = .returned (.tuple #[]) ∧ MchM w' b bv (.slice ao 0 c) ov ({ m with regs:=upd m.regs r 0 }.goes (m.at' + 1)) ∧ w.grownBy w' (some b):=by
 have hl:=h.lt
 have h2:=h.alloc (.cells #[.int .i64 (r : Int)] 180)
 have hcr:=h2.cR r hr
 have hr0 : (0 : Int) ≤ (r : Int):=by omega
 have hr8 : (r : Int) < 8:=by omega
 have hx:=fun n => (h2.drewN n).setR r hr 0
 have hfz:=h2.fz r
 have hcall:=fun n => zlG ((w.alloc (.cells #[.int .i64 (r : Int)] 180)).drewN n) b c bv ov ao m (h2.drewN n)
 have hne4 : ¬ w.heap.size = b:=by omega
 have hne5 : ¬ b = w.heap.size:=by omega
 go_enter Tryz.func259,Tryz.ntmps259
 go_wp2_with fail
 refine zag 8 (by kernel_rfl) (by kernel_rfl) ?_
 simp only [List.take_succ_cons,List.take_zero,List.drop_succ_cons,List.drop_zero]
 repeat (go_big_quiet_step (first | (go_at_call 261; exact Calls.quiet_of_same (hcall _))))
 refine wpQuiet_nil ?_
 rintro _ ⟨nr,rfl⟩
 go_wp2_with (first | (go_at_call 225; refine (zbd _ b bv _ ov _ (hx nr) h0 h1 ha hb).mono ?_; rintro e w2 ⟨rfl,hM,hg⟩))
 go_end0
 exact ⟨rfl,hM,zac za2 hg⟩
theorem zpz (w : World) (b r : Nat) (bv iv ov : Value) (m : Mc) (hr : r < 8) (h : MchM w b bv iv ov m) (hown : w.ownsRow (b + 1) 2 1 ov m.out.length (i64s m.out)) (hlen : m.out.length ≤ 100000) (h0 : 0 ≤ m.steps) (h1 : m.steps ≤ 100000) (ha : 0 ≤ m.at') (hb : m.at' ≤ 100000) :
  Calls Tryz.prog 262 #[.agg #[.int .i64 (r : Int)],.pointer (some ⟨b,0,none⟩)] w fun e w' => e = .returned (.tuple #[]) ∧
   ∃ v' w4,MchM w' b bv iv v' (exec (.write r) (m.at' + 1) m) ∧ w4.ownsRow (b + 1) 2 1 v' (m.out.length + 1) (i64s (m.out ++ [m.regs r])) ∧ w.grownBy w4 ov.ownBlock ∧ w4.grownBy w' (some b):=by
 have hl:=h.lt
 have h2:=h.alloc (.cells #[.int .i64 (r : Int)] 182)
 have hcr:=h2.cR r hr
 have hr0 : (0 : Int) ≤ (r : Int):=by omega
 have hr8 : (r : Int) < 8:=by omega
 have hne4 : ¬ w.heap.size = b:=by omega
 have hne5 : ¬ b = w.heap.size:=by omega
 have hcall:=fun n => zlK ((w.alloc (.cells #[.int .i64 (r : Int)] 182)).drewN n) b (b + 1) bv iv ov m (m.regs r) (h2.drewN n) (hown.alloc _) (zbY hown) (by show b + 1 ≤ (w.alloc _).heap.size; simp; omega) hlen
 go_enter Tryz.func262,Tryz.ntmps262
 go_wp2_with fail
 refine zag 8 (by kernel_rfl) (by kernel_rfl) ?_
 simp only [List.take_succ_cons,List.take_zero,List.drop_succ_cons,List.drop_zero]
 repeat (go_big_quiet_step (fail))
 refine wpQuiet_nil ?_
 rintro _ ⟨nr,rfl⟩
 go_wp2_with (first | (go_at_call 264; refine (hcall nr).mono ?_; rintro e w3 ⟨rfl,v',w4,hM3,hown4,hg4,hg3⟩) | (go_at_call 225; refine (zbd _ b bv iv v' _ hM3 h0 h1 ha hb).mono ?_; rintro e w2 ⟨rfl,hM,hg⟩))
 go_end0
 exact ⟨rfl,v',w4,hM,hown4,(World.grownBy_alloc w _ _).trans (zaY hg4),zac hg3 hg⟩
theorem zio (w : World) (b c r g o n : Nat) (bv ov : Value) (m : Mc) (x : Int) (l : List Int) (hr : r < 8) (h : MchM w b bv (.slice (some ⟨g,o,none⟩) (n + 1) c) ov m) (hx : w.cell? ⟨g,o,none⟩ = some (.int .i64 x)) (hn : n ≤ 9223372036854775806) (hc : n + 1 ≤ c) (h0 : 0 ≤ m.steps) (h1 : m.steps ≤ 100000) (ha : 0 ≤ m.at') (hb : m.at' ≤ 100000) :
  Calls Tryz.prog 259 #[.agg #[.int .i64 (r : Int)],.pointer (some ⟨b,0,none⟩)] w fun e w' => e = .returned (.tuple #[]) ∧ (∃ o',MchM w' b bv (.slice (some ⟨g,o',none⟩) n (c - 1)) ov ({ m with regs:=upd m.regs r x,inp:=l }.goes (m.at' + 1)) ∧ (n = 0 ∨ o' = o + 1)) ∧ w.grownBy w' (some b):=by
 have hl:=h.lt
 have hlg : g < w.heap.size:=World.block_lt_of_cell? w _ hx
 have h2:=h.alloc (.cells #[.int .i64 (r : Int)] 180)
 have hr0 : (0 : Int) ≤ (r : Int):=by omega
 have hr8 : (r : Int) < 8:=by omega
 have hx2 : (w.alloc (.cells #[.int .i64 (r : Int)] 180)).cell? ⟨g,o,none⟩ = some (.int .i64 x):=(World.cell?_alloc_lt w _ _ hlg).trans hx
 have hcall:=zlH ((w.alloc (.cells #[.int .i64 (r : Int)] 180)).drew) b c g o n bv ov m x l h2.drew hx2 hn hc
 have hne4 : ¬ w.heap.size = b:=by omega
 have hne5 : ¬ b = w.heap.size:=by omega
 have hcr:=h2.cR r hr
 have hfr:=h2.fz r
 go_enter Tryz.func259,Tryz.ntmps259
 go_wp2_with fail
 go_region_with (go_at_call 261; refine hcall.mono ?_; rintro e w3 ⟨rfl,⟨o',hM3,ho⟩,hg3⟩; have hc3:=hM3.cR r hr; have hf3:=hM3.fz r; have hq3 : w3.cell? ⟨w.heap.size,0,none⟩ = some (.int .i64 (r : Int)):=(hg3.cell_far ⟨w.heap.size,0,none⟩ (by show w.heap.size < (w.alloc _).heap.size; simp) (by simp; omega)).trans (by show (w.alloc _).cell? _ = _; simp))
 all_goals go_wp2_with (first | (go_at_call 225; refine (zbd _ b bv _ ov _ (hM3.setR r hr x) h0 h1 ha hb).mono ?_; rintro e w2 ⟨rfl,hM,hg⟩))
 all_goals go_end0
 all_goals exact ⟨rfl,⟨o',hM,ho⟩,zac (World.grownBy_alloc w _ _) (zac ⟨hg3.os,hg3.tape,hg3.output,hg3.size,hg3.block⟩ (zac (zat (Below.refl _ _)) hg))⟩
end Go.Proofs.YtfpgjkbjbbgciaaGreatDoor
