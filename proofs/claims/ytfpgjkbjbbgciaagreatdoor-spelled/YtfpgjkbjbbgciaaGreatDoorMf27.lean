import Derived.Test.YtfpgjkbjbbgciaaGreatDoorMf22
import Derived.Test.YtfpgjkbjbbgciaaGreatDoorMf26
set_option maxRecDepth 100000
set_option maxHeartbeats 8000000
namespace Go.Proofs.YtfpgjkbjbbgciaaGreatDoor
open Go.RowKit Sp
theorem MchM.alloc {w : World} {b : Nat} {bv iv ov : Value} {m : Mc} (h : MchM w b bv iv ov m) (x : Obj) : MchM (w.alloc x) b bv iv ov m:=h.of_block (Below.heap_alloc _ _ _ h.lt)
theorem za2 {w : World} {b o n : Nat} {x : Obj} {v : Value} : w.grownBy (((w.alloc x).drewN n).setCell ⟨b,o,none⟩ v) (some b) :=
 zac (World.grownBy_alloc w x _) (zaY (n:=n) (zat (Below.refl _ _)))
theorem zrI (w : World) (b : Nat) (bv iv ov : Value) (m : Mc) (r : Nat) (hr : r < 8) (k : Int) (h : MchM w b bv iv ov m) (h0 : 0 ≤ m.steps) (h1 : m.steps ≤ 100000) (ha : 0 ≤ m.at') (hb : m.at' ≤ 100000) :
  Calls Tryz.prog 223 #[.agg #[.int .i64 (r : Int),.int .i64 k],.pointer (some ⟨b,0,none⟩)] w fun e w' => e = .returned (.tuple #[]) ∧ MchM w' b bv iv ov (exec (.set r k) (m.at' + 1) m) ∧ w.grownBy w' (some b):=by
 have hl:=h.lt
 have h2:=h.alloc (.cells #[.int .i64 (r : Int),.int .i64 k] 167)
 have hcr:=h2.cR r hr
 have hr0 : (0 : Int) ≤ (r : Int):=by omega
 have hr8 : (r : Int) < 8:=by omega
 have hx:=fun n => (h2.drewN n).setR r hr k
 have hfz:=h2.fz r
 have hne4 : ¬ w.heap.size = b:=by omega
 have hne5 : ¬ b = w.heap.size:=by omega
 go_enter Tryz.func223,Tryz.ntmps223
 go_wp2_with fail
 refine zag 8 (by kernel_rfl) (by kernel_rfl) ?_
 simp only [List.take_succ_cons,List.take_zero,List.drop_succ_cons,List.drop_zero]
 repeat (go_big_quiet_step (fail))
 refine wpQuiet_nil ?_
 rintro _ ⟨nr,rfl⟩
 go_wp2_with (first | (go_at_call 225; refine (zbd _ b bv iv ov _ (hx nr) h0 h1 ha hb).mono ?_; rintro e w2 ⟨rfl,hM,hg⟩))
 go_end0
 exact ⟨rfl,hM,zac za2 hg⟩
theorem zrJ (w : World) (b : Nat) (bv iv ov : Value) (m : Mc) (r s : Nat) (hr : r < 8) (hs : s < 8) (h : MchM w b bv iv ov m) (h0 : 0 ≤ m.steps) (h1 : m.steps ≤ 100000) (ha : 0 ≤ m.at') (hb : m.at' ≤ 100000) :
  Calls Tryz.prog 230 #[.agg #[.int .i64 (r : Int),.int .i64 (s : Int)],.pointer (some ⟨b,0,none⟩)] w fun e w' => e = .returned (.tuple #[]) ∧ MchM w' b bv iv ov (exec (.mov r s) (m.at' + 1) m) ∧ w.grownBy w' (some b):=by
 have hl:=h.lt
 have h2:=h.alloc (.cells #[.int .i64 (r : Int),.int .i64 (s : Int)] 169)
 have hcr:=h2.cR r hr
 have hr0 : (0 : Int) ≤ (r : Int):=by omega
 have hr8 : (r : Int) < 8:=by omega
 have hcs:=h2.cR s hs
 have hs0 : (0 : Int) ≤ (s : Int):=by omega
 have hs8 : (s : Int) < 8:=by omega
 have hx:=fun n => (h2.drewN n).setR r hr (m.regs s)
 have hfz:=h2.fz r
 have hne4 : ¬ w.heap.size = b:=by omega
 have hne5 : ¬ b = w.heap.size:=by omega
 go_enter Tryz.func230,Tryz.ntmps230
 go_wp2_with fail
 refine zag 13 (by kernel_rfl) (by kernel_rfl) ?_
 simp only [List.take_succ_cons,List.take_zero,List.drop_succ_cons,List.drop_zero]
 repeat (go_big_quiet_step (fail))
 refine wpQuiet_nil ?_
 rintro _ ⟨nr,rfl⟩
 go_wp2_with (first | (go_at_call 225; refine (zbd _ b bv iv ov _ (hx nr) h0 h1 ha hb).mono ?_; rintro e w2 ⟨rfl,hM,hg⟩))
 go_end0
 exact ⟨rfl,hM,zac za2 hg⟩
theorem zrK (w : World) (b : Nat) (bv iv ov : Value) (m : Mc) (r s t : Nat) (hr : r < 8) (hs : s < 8) (ht : t < 8) (h : MchM w b bv iv ov m) (h0 : 0 ≤ m.steps) (h1 : m.steps ≤ 100000) (ha : 0 ≤ m.at') (hb : m.at' ≤ 100000) :
  Calls Tryz.prog 232 #[.agg #[.int .i64 (r : Int),.int .i64 (s : Int),.int .i64 (t : Int)],.pointer (some ⟨b,0,none⟩)] w fun e w' => e = .returned (.tuple #[]) ∧ MchM w' b bv iv ov (exec (.alu 0 r s t) (m.at' + 1) m) ∧ w.grownBy w' (some b):=by
 have hl:=h.lt
 have h2:=h.alloc (.cells #[.int .i64 (r : Int),.int .i64 (s : Int),.int .i64 (t : Int)] 171)
 have hcr:=h2.cR r hr
 have hr0 : (0 : Int) ≤ (r : Int):=by omega
 have hr8 : (r : Int) < 8:=by omega
 have hcs:=h2.cR s hs
 have hs0 : (0 : Int) ≤ (s : Int):=by omega
 have hs8 : (s : Int) < 8:=by omega
 have hct:=h2.cR t ht
 have ht0 : (0 : Int) ≤ (t : Int):=by omega
 have ht8 : (t : Int) < 8:=by omega
 have hx:=fun n => (h2.drewN n).setR r hr (zcl 0 (m.regs s) (m.regs t))
 have hfz:=h2.fz r
 have hne4 : ¬ w.heap.size = b:=by omega
 have hne5 : ¬ b = w.heap.size:=by omega
 go_enter Tryz.func232,Tryz.ntmps232
 go_wp2_with fail
 refine zag 21 (by kernel_rfl) (by kernel_rfl) ?_
 simp only [List.take_succ_cons,List.take_zero,List.drop_succ_cons,List.drop_zero]
 repeat (go_big_quiet_step (fail))
 refine wpQuiet_nil ?_
 rintro _ ⟨nr,rfl⟩
 rw [zqE]
 go_wp2_with (first | (go_at_call 225; refine (zbd _ b bv iv ov _ (hx nr) h0 h1 ha hb).mono ?_; rintro e w2 ⟨rfl,hM,hg⟩))
 go_end0
 exact ⟨rfl,hM,zac za2 hg⟩
theorem zrL (w : World) (b : Nat) (bv iv ov : Value) (m : Mc) (r s t : Nat) (hr : r < 8) (hs : s < 8) (ht : t < 8) (h : MchM w b bv iv ov m) (h0 : 0 ≤ m.steps) (h1 : m.steps ≤ 100000) (ha : 0 ≤ m.at') (hb : m.at' ≤ 100000) :
  Calls Tryz.prog 239 #[.agg #[.int .i64 (r : Int),.int .i64 (s : Int),.int .i64 (t : Int)],.pointer (some ⟨b,0,none⟩)] w fun e w' => e = .returned (.tuple #[]) ∧ MchM w' b bv iv ov (exec (.alu 1 r s t) (m.at' + 1) m) ∧ w.grownBy w' (some b):=by
 have hl:=h.lt
 have h2:=h.alloc (.cells #[.int .i64 (r : Int),.int .i64 (s : Int),.int .i64 (t : Int)] 172)
 have hcr:=h2.cR r hr
 have hr0 : (0 : Int) ≤ (r : Int):=by omega
 have hr8 : (r : Int) < 8:=by omega
 have hcs:=h2.cR s hs
 have hs0 : (0 : Int) ≤ (s : Int):=by omega
 have hs8 : (s : Int) < 8:=by omega
 have hct:=h2.cR t ht
 have ht0 : (0 : Int) ≤ (t : Int):=by omega
 have ht8 : (t : Int) < 8:=by omega
 have hx:=fun n => (h2.drewN n).setR r hr (zcl 1 (m.regs s) (m.regs t))
 have hfz:=h2.fz r
 have hne4 : ¬ w.heap.size = b:=by omega
 have hne5 : ¬ b = w.heap.size:=by omega
 go_enter Tryz.func239,Tryz.ntmps239
 go_wp2_with fail
 refine zag 21 (by kernel_rfl) (by kernel_rfl) ?_
 simp only [List.take_succ_cons,List.take_zero,List.drop_succ_cons,List.drop_zero]
 repeat (go_big_quiet_step (fail))
 refine wpQuiet_nil ?_
 rintro _ ⟨nr,rfl⟩
 rw [zqF]
 go_wp2_with (first | (go_at_call 225; refine (zbd _ b bv iv ov _ (hx nr) h0 h1 ha hb).mono ?_; rintro e w2 ⟨rfl,hM,hg⟩))
 go_end0
 exact ⟨rfl,hM,zac za2 hg⟩
theorem zrM (w : World) (b : Nat) (bv iv ov : Value) (m : Mc) (r s t : Nat) (hr : r < 8) (hs : s < 8) (ht : t < 8) (h : MchM w b bv iv ov m) (h0 : 0 ≤ m.steps) (h1 : m.steps ≤ 100000) (ha : 0 ≤ m.at') (hb : m.at' ≤ 100000) :
  Calls Tryz.prog 243 #[.agg #[.int .i64 (r : Int),.int .i64 (s : Int),.int .i64 (t : Int)],.pointer (some ⟨b,0,none⟩)] w fun e w' => e = .returned (.tuple #[]) ∧ MchM w' b bv iv ov (exec (.alu 2 r s t) (m.at' + 1) m) ∧ w.grownBy w' (some b):=by
 have hl:=h.lt
 have h2:=h.alloc (.cells #[.int .i64 (r : Int),.int .i64 (s : Int),.int .i64 (t : Int)] 173)
 have hcr:=h2.cR r hr
 have hr0 : (0 : Int) ≤ (r : Int):=by omega
 have hr8 : (r : Int) < 8:=by omega
 have hcs:=h2.cR s hs
 have hs0 : (0 : Int) ≤ (s : Int):=by omega
 have hs8 : (s : Int) < 8:=by omega
 have hct:=h2.cR t ht
 have ht0 : (0 : Int) ≤ (t : Int):=by omega
 have ht8 : (t : Int) < 8:=by omega
 have hx:=fun n => (h2.drewN n).setR r hr (zcl 2 (m.regs s) (m.regs t))
 have hfz:=h2.fz r
 have hne4 : ¬ w.heap.size = b:=by omega
 have hne5 : ¬ b = w.heap.size:=by omega
 go_enter Tryz.func243,Tryz.ntmps243
 go_wp2_with fail
 refine zag 21 (by kernel_rfl) (by kernel_rfl) ?_
 simp only [List.take_succ_cons,List.take_zero,List.drop_succ_cons,List.drop_zero]
 repeat (go_big_quiet_step (fail))
 refine wpQuiet_nil ?_
 rintro _ ⟨nr,rfl⟩
 rw [zqG]
 go_wp2_with (first | (go_at_call 225; refine (zbd _ b bv iv ov _ (hx nr) h0 h1 ha hb).mono ?_; rintro e w2 ⟨rfl,hM,hg⟩))
 go_end0
 exact ⟨rfl,hM,zac za2 hg⟩
theorem zrN (w : World) (b : Nat) (bv iv ov : Value) (m : Mc) (r : Nat) (hr : r < 8) (k : Int) (h : MchM w b bv iv ov m) (h0 : 0 ≤ m.steps) (h1 : m.steps ≤ 100000) (ha : 0 ≤ m.at') (hb : m.at' ≤ 100000) :
  Calls Tryz.prog 249 #[.agg #[.int .i64 (r : Int),.int .i64 k],.pointer (some ⟨b,0,none⟩)] w fun e w' => e = .returned (.tuple #[]) ∧ MchM w' b bv iv ov (exec (.inc r k) (m.at' + 1) m) ∧ w.grownBy w' (some b):=by
 have hl:=h.lt
 have h2:=h.alloc (.cells #[.int .i64 (r : Int),.int .i64 k] 174)
 have hcr:=h2.cR r hr
 have hr0 : (0 : Int) ≤ (r : Int):=by omega
 have hr8 : (r : Int) < 8:=by omega
 have hx:=fun n => (h2.drewN n).setR r hr (w64 (m.regs r + k))
 have hfz:=h2.fz r
 have hne4 : ¬ w.heap.size = b:=by omega
 have hne5 : ¬ b = w.heap.size:=by omega
 go_enter Tryz.func249,Tryz.ntmps249
 go_wp2_with fail
 refine zag 13 (by kernel_rfl) (by kernel_rfl) ?_
 simp only [List.take_succ_cons,List.take_zero,List.drop_succ_cons,List.drop_zero]
 repeat (go_big_quiet_step (fail))
 refine wpQuiet_nil ?_
 rintro _ ⟨nr,rfl⟩
 rw [zpc]
 go_wp2_with (first | (go_at_call 225; refine (zbd _ b bv iv ov _ (hx nr) h0 h1 ha hb).mono ?_; rintro e w2 ⟨rfl,hM,hg⟩))
 go_end0
 exact ⟨rfl,hM,zac za2 hg⟩
end Go.Proofs.YtfpgjkbjbbgciaaGreatDoor
