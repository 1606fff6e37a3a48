import Derived.Test.YtfpgjkbjbbgciaaGreatDoorMf27
set_option maxRecDepth 100000
set_option maxHeartbeats 8000000
namespace Go.Proofs.YtfpgjkbjbbgciaaGreatDoor
open Go.RowKit Sp
theorem zgf (w : World) (b : Nat) (bv iv ov : Value) (m : Mc) (to : Int) (h : MchM w b bv iv ov m) (h0 : 0 ≤ m.steps) (h1 : m.steps ≤ 100000) :
  Calls Tryz.prog 269 #[.pointer (some ⟨b,0,none⟩),.bool true,.int .i64 to] w fun e w' => e = .returned (.tuple #[]) ∧ MchM w' b bv iv ov (m.goes to) ∧ w.grownBy w' (some b):=by
 go_enter Tryz.func269,Tryz.ntmps269
 go_wp2_with (first | (go_at_call 228; refine (zdb w b bv iv ov m to h h0 h1).mono ?_; rintro e w2 ⟨rfl,hM,hg⟩))
 go_end0
 exact ⟨rfl,hM,hg⟩
theorem zfj (w : World) (b : Nat) (bv iv ov : Value) (m : Mc) (to : Int) (h : MchM w b bv iv ov m) (h0 : 0 ≤ m.steps) (h1 : m.steps ≤ 100000) (ha : 0 ≤ m.at') (hb : m.at' ≤ 100000) :
  Calls Tryz.prog 269 #[.pointer (some ⟨b,0,none⟩),.bool false,.int .i64 to] w fun e w' => e = .returned (.tuple #[]) ∧ MchM w' b bv iv ov (m.goes (m.at' + 1)) ∧ w.grownBy w' (some b):=by
 go_enter Tryz.func269,Tryz.ntmps269
 go_wp2_with (first | (go_at_call 225; refine (zbd w b bv iv ov m h h0 h1 ha hb).mono ?_; rintro e w2 ⟨rfl,hM,hg⟩))
 go_end0
 exact ⟨rfl,hM,hg⟩
theorem zqW (w : World) (b : Nat) (bv iv ov : Value) (m : Mc) (to : Int) (h : MchM w b bv iv ov m) (h0 : 0 ≤ m.steps) (h1 : m.steps ≤ 100000) :
  Calls Tryz.prog 265 #[.agg #[.int .i64 to],.pointer (some ⟨b,0,none⟩)] w fun e w' => e = .returned (.tuple #[]) ∧ MchM w' b bv iv ov (exec (.jump to) (m.at' + 1) m) ∧ w.grownBy w' (some b):=by
 have h2:=h.alloc (.cells #[.int .i64 to] 185)
 go_enter Tryz.func265,Tryz.ntmps265
 go_wp2_with (first | (go_at_call 228; refine (zdb _ b bv iv ov m to h2 h0 h1).mono ?_; rintro e w2 ⟨rfl,hM,hg⟩))
 go_end0
 exact ⟨rfl,hM,zac (World.grownBy_alloc w _ _) hg⟩
theorem zqX (w : World) (b : Nat) (bv iv ov : Value) (m : Mc) (r s : Nat) (hr : r < 8) (hs : s < 8) (to : Int) (h : MchM w b bv iv ov m) (h0 : 0 ≤ m.steps) (h1 : m.steps ≤ 100000) (ha : 0 ≤ m.at') (hb : m.at' ≤ 100000) :
  Calls Tryz.prog 267 #[.agg #[.int .i64 (r : Int),.int .i64 (s : Int),.int .i64 to],.pointer (some ⟨b,0,none⟩)] w fun e w' => e = .returned (.tuple #[]) ∧ MchM w' b bv iv ov (exec (.less r s to) (m.at' + 1) m) ∧ w.grownBy w' (some b):=by
 have hl:=h.lt
 have h2:=h.alloc (.cells #[.int .i64 (r : Int),.int .i64 (s : Int),.int .i64 to] 187)
 have hcr:=h2.cR r hr
 have hr0 : (0 : Int) ≤ (r : Int):=by omega
 have hr8 : (r : Int) < 8:=by omega
 have hcs:=h2.cR s hs
 have hs0 : (0 : Int) ≤ (s : Int):=by omega
 have hs8 : (s : Int) < 8:=by omega
 have hne4 : ¬ w.heap.size = b:=by omega
 have hne5 : ¬ b = w.heap.size:=by omega
 show Calls _ _ _ _ fun e w' => _ ∧ MchM w' b bv iv ov (m.goes (if m.regs r < m.regs s then to else m.at' + 1)) ∧ _
 by_cases ht : m.regs r < m.regs s
 ·rw [if_pos ht]
  have hd : m.regs r < m.regs s:=ht
  go_enter Tryz.func267,Tryz.ntmps267
  go_wp2_with fail
  refine zag 18 (by kernel_rfl) (by kernel_rfl) ?_
  simp only [List.take_succ_cons,List.take_zero,List.drop_succ_cons,List.drop_zero]
  repeat (go_big_quiet_step (fail))
  refine wpQuiet_nil ?_
  rintro _ ⟨nr,rfl⟩
  go_wp2_with (first | (go_at_call 269; refine (zgf _ b bv iv ov m to (h2.drewN nr) h0 h1).mono ?_; rintro e w2 ⟨rfl,hM,hg⟩))
  go_end0
  exact ⟨rfl,hM,zac (World.grownBy_alloc w _ _) (zaY hg)⟩
 ·rw [if_neg ht]
  have hd : decide (m.regs r < m.regs s) = false:=by simpa using ht
  go_enter Tryz.func267,Tryz.ntmps267
  go_wp2_with fail
  refine zag 18 (by kernel_rfl) (by kernel_rfl) ?_
  simp only [List.take_succ_cons,List.take_zero,List.drop_succ_cons,List.drop_zero]
  repeat (go_big_quiet_step (fail))
  refine wpQuiet_nil ?_
  rintro _ ⟨nr,rfl⟩
  go_wp2_with (first | (go_at_call 269; refine (zfj _ b bv iv ov m to (h2.drewN nr) h0 h1 ha hb).mono ?_; rintro e w2 ⟨rfl,hM,hg⟩))
  go_end0
  exact ⟨rfl,hM,zac (World.grownBy_alloc w _ _) (zaY hg)⟩
theorem zqY (w : World) (b : Nat) (bv iv ov : Value) (m : Mc) (r s : Nat) (hr : r < 8) (hs : s < 8) (to : Int) (h : MchM w b bv iv ov m) (h0 : 0 ≤ m.steps) (h1 : m.steps ≤ 100000) (ha : 0 ≤ m.at') (hb : m.at' ≤ 100000) :
  Calls Tryz.prog 274 #[.agg #[.int .i64 (r : Int),.int .i64 (s : Int),.int .i64 to],.pointer (some ⟨b,0,none⟩)] w fun e w' => e = .returned (.tuple #[]) ∧ MchM w' b bv iv ov (exec (.same r s to) (m.at' + 1) m) ∧ w.grownBy w' (some b):=by
 have hl:=h.lt
 have h2:=h.alloc (.cells #[.int .i64 (r : Int),.int .i64 (s : Int),.int .i64 to] 188)
 have hcr:=h2.cR r hr
 have hr0 : (0 : Int) ≤ (r : Int):=by omega
 have hr8 : (r : Int) < 8:=by omega
 have hcs:=h2.cR s hs
 have hs0 : (0 : Int) ≤ (s : Int):=by omega
 have hs8 : (s : Int) < 8:=by omega
 have hne4 : ¬ w.heap.size = b:=by omega
 have hne5 : ¬ b = w.heap.size:=by omega
 show Calls _ _ _ _ fun e w' => _ ∧ MchM w' b bv iv ov (m.goes (if m.regs r = m.regs s then to else m.at' + 1)) ∧ _
 by_cases ht : m.regs r = m.regs s
 ·rw [if_pos ht]
  have hd : (m.regs r == m.regs s) = true:=by simpa using ht
  go_enter Tryz.func274,Tryz.ntmps274
  go_wp2_with fail
  refine zag 18 (by kernel_rfl) (by kernel_rfl) ?_
  simp only [List.take_succ_cons,List.take_zero,List.drop_succ_cons,List.drop_zero]
  repeat (go_big_quiet_step (fail))
  refine wpQuiet_nil ?_
  rintro _ ⟨nr,rfl⟩
  go_wp2_with (first | (go_at_call 269; refine (zgf _ b bv iv ov m to (h2.drewN nr) h0 h1).mono ?_; rintro e w2 ⟨rfl,hM,hg⟩))
  go_end0
  exact ⟨rfl,hM,zac (World.grownBy_alloc w _ _) (zaY hg)⟩
 ·rw [if_neg ht]
  have hd : (m.regs r == m.regs s) = false:=by simpa using ht
  go_enter Tryz.func274,Tryz.ntmps274
  go_wp2_with fail
  refine zag 18 (by kernel_rfl) (by kernel_rfl) ?_
  simp only [List.take_succ_cons,List.take_zero,List.drop_succ_cons,List.drop_zero]
  repeat (go_big_quiet_step (fail))
  refine wpQuiet_nil ?_
  rintro _ ⟨nr,rfl⟩
  go_wp2_with (first | (go_at_call 269; refine (zfj _ b bv iv ov m to (h2.drewN nr) h0 h1 ha hb).mono ?_; rintro e w2 ⟨rfl,hM,hg⟩))
  go_end0
  exact ⟨rfl,hM,zac (World.grownBy_alloc w _ _) (zaY hg)⟩
theorem zqZ (w : World) (b : Nat) (bv iv ov : Value) (m : Mc) (h : MchM w b bv iv ov m) (h0 : 0 ≤ m.steps) (h1 : m.steps ≤ 100000) :
  Calls Tryz.prog 288 #[.agg #[],.pointer (some ⟨b,0,none⟩)] w fun e w' => e = .returned (.tuple #[]) ∧ MchM w' b bv iv ov ({ m with steps:=m.steps + 1,fin:=1 }) ∧ w.grownBy w' (some b):=by
 have h2:=h.alloc (.cells #[] 193)
 go_enter Tryz.func288,Tryz.ntmps288
 go_wp2_with (first | (go_at_call 290; refine (zn1 _ b bv iv ov m h2 h0 h1).mono ?_; rintro e w2 ⟨rfl,hM,hg⟩))
 go_end0
 exact ⟨rfl,hM,zac (World.grownBy_alloc w _ _) hg⟩
theorem zjD (w : World) (b : Nat) (bv iv ov : Value) (m : Mc) (r s : Nat) (_hr : r < 8) (hs : s < 8) (h : MchM w b bv iv ov m) (hn : m.regs s < 0 ∨ 15 < m.regs s) :
  Calls Tryz.prog 251 #[.agg #[.int .i64 (r : Int),.int .i64 (s : Int)],.pointer (some ⟨b,0,none⟩)] w fun e w' => e = .returned (.tuple #[]) ∧ MchM w' b bv iv ov (exec (.load r s) (m.at' + 1) m) ∧ w.grownBy w' (some b):=by
 have hl:=h.lt
 have h2:=h.alloc (.cells #[.int .i64 (r : Int),.int .i64 (s : Int)] 176)
 have hcs:=h2.cR s hs
 have hs0 : (0 : Int) ≤ (s : Int):=by omega
 have hs8 : (s : Int) < 8:=by omega
 have hne4 : ¬ w.heap.size = b:=by omega
 have hne5 : ¬ b = w.heap.size:=by omega
 have e1 : exec (.load r s) (m.at' + 1) m = { m with fin:=3 }:=if_pos hn
 rw [e1]
 go_enter Tryz.func251,Tryz.ntmps251
 go_wp2_with fail
 refine zag 8 (by kernel_rfl) (by kernel_rfl) ?_
 simp only [List.take_succ_cons,List.take_zero,List.drop_succ_cons,List.drop_zero]
 repeat (go_big_quiet_step (fail))
 refine wpQuiet_nil ?_
 rintro _ ⟨nr,rfl⟩
 go_wp2_with (first | (go_at_call 253; refine (zil _ b bv iv ov m _ (h2.drewN nr) hn).mono ?_; rintro e w2 ⟨rfl,hM,hg⟩))
 go_end0
 exact ⟨rfl,hM,zac (World.grownBy_alloc w _ _) (zaY hg)⟩
theorem zlI (w : World) (b : Nat) (bv iv ov : Value) (m : Mc) (r s n0 : Nat) (hr : r < 8) (hs : s < 8) (hn16 : n0 < 16) (hn : m.regs s = (n0 : Int)) (h : MchM w b bv iv ov m) (h0 : 0 ≤ m.steps) (h1 : m.steps ≤ 100000) (ha : 0 ≤ m.at') (hb : m.at' ≤ 100000) :
  Calls Tryz.prog 251 #[.agg #[.int .i64 (r : Int),.int .i64 (s : Int)],.pointer (some ⟨b,0,none⟩)] w fun e w' => e = .returned (.tuple #[]) ∧ MchM w' b bv iv ov (exec (.load r s) (m.at' + 1) m) ∧ w.grownBy w' (some b):=by
 have hl:=h.lt
 have h2:=h.alloc (.cells #[.int .i64 (r : Int),.int .i64 (s : Int)] 176)
 have hcr:=h2.cR r hr
 have hr0 : (0 : Int) ≤ (r : Int):=by omega
 have hr8 : (r : Int) < 8:=by omega
 have hcs:=h2.cR s hs
 have hs0 : (0 : Int) ≤ (s : Int):=by omega
 have hs8 : (s : Int) < 8:=by omega
 have hne4 : ¬ w.heap.size = b:=by omega
 have hne5 : ¬ b = w.heap.size:=by omega
 have hcn:=h2.cC n0 hn16
 have hfn:=h2.fz (8 + n0)
 have hfr:=h2.fz r
 have e1 : exec (.load r s) (m.at' + 1) m = { m with regs:=upd m.regs r (m.cells n0) }.goes (m.at' + 1):=by
  show (if _ then _ else _) = _
  rw [if_neg (by omega),hn]; rfl
 rw [e1]
 have hx:=fun n => (h2.drewN n).setR r hr (m.cells n0)
 have hcall:=fun n => zk4 ((w.alloc (.cells #[.int .i64 (r : Int),.int .i64 (s : Int)] 176)).drewN n) b n0 bv iv ov m (h2.drewN n) hn16
 rw [hn] at hcs
 go_enter Tryz.func251,Tryz.ntmps251
 go_wp2_with fail
 go_quiet (first | (go_at_call 253; exact Calls.quiet_of_same (hcall _)))
 go_wp2_with fail
 refine zag 9 (by kernel_rfl) (by kernel_rfl) ?_
 simp only [List.take_succ_cons,List.take_zero,List.drop_succ_cons,List.drop_zero]
 repeat (go_big_quiet_step (fail))
 refine wpQuiet_nil ?_
 rintro _ ⟨nr,rfl⟩
 rw [World.drewN_drewN]
 go_wp2_with (first | (go_at_call 225; refine (zbd _ b bv iv ov _ (hx (nq + nr)) h0 h1 ha hb).mono ?_; rintro e w2 ⟨rfl,hM,hg⟩))
 go_end0
 exact ⟨rfl,hM,zac za2 hg⟩
theorem zim (w : World) (b : Nat) (bv iv ov : Value) (m : Mc) (r s : Nat) (hr : r < 8) (_hs : s < 8) (h : MchM w b bv iv ov m) (hn : m.regs r < 0 ∨ 15 < m.regs r) :
  Calls Tryz.prog 256 #[.agg #[.int .i64 (r : Int),.int .i64 (s : Int)],.pointer (some ⟨b,0,none⟩)] w fun e w' => e = .returned (.tuple #[]) ∧ MchM w' b bv iv ov (exec (.store r s) (m.at' + 1) m) ∧ w.grownBy w' (some b):=by
 have hl:=h.lt
 have h2:=h.alloc (.cells #[.int .i64 (r : Int),.int .i64 (s : Int)] 178)
 have hcr:=h2.cR r hr
 have hr0 : (0 : Int) ≤ (r : Int):=by omega
 have hr8 : (r : Int) < 8:=by omega
 have hne4 : ¬ w.heap.size = b:=by omega
 have hne5 : ¬ b = w.heap.size:=by omega
 have e1 : exec (.store r s) (m.at' + 1) m = { m with fin:=3 }:=if_pos hn
 rw [e1]
 go_enter Tryz.func256,Tryz.ntmps256
 go_wp2_with fail
 refine zag 8 (by kernel_rfl) (by kernel_rfl) ?_
 simp only [List.take_succ_cons,List.take_zero,List.drop_succ_cons,List.drop_zero]
 repeat (go_big_quiet_step (fail))
 refine wpQuiet_nil ?_
 rintro _ ⟨nr,rfl⟩
 go_wp2_with (first | (go_at_call 253; refine (zil _ b bv iv ov m _ (h2.drewN nr) hn).mono ?_; rintro e w2 ⟨rfl,hM,hg⟩))
 go_end0
 exact ⟨rfl,hM,zac (World.grownBy_alloc w _ _) (zaY hg)⟩
theorem zjE (w : World) (b : Nat) (bv iv ov : Value) (m : Mc) (r s n0 : Nat) (hr : r < 8) (hs : s < 8) (hn16 : n0 < 16) (hn : m.regs r = (n0 : Int)) (h : MchM w b bv iv ov m) (h0 : 0 ≤ m.steps) (h1 : m.steps ≤ 100000) (ha : 0 ≤ m.at') (hb : m.at' ≤ 100000) :
  Calls Tryz.prog 256 #[.agg #[.int .i64 (r : Int),.int .i64 (s : Int)],.pointer (some ⟨b,0,none⟩)] w fun e w' => e = .returned (.tuple #[]) ∧ MchM w' b bv iv ov (exec (.store r s) (m.at' + 1) m) ∧ w.grownBy w' (some b):=by
 have hl:=h.lt
 have h2:=h.alloc (.cells #[.int .i64 (r : Int),.int .i64 (s : Int)] 178)
 have hcr:=h2.cR r hr
 have hr0 : (0 : Int) ≤ (r : Int):=by omega
 have hr8 : (r : Int) < 8:=by omega
 have hcs:=h2.cR s hs
 have hs0 : (0 : Int) ≤ (s : Int):=by omega
 have hs8 : (s : Int) < 8:=by omega
 have hne4 : ¬ w.heap.size = b:=by omega
 have hne5 : ¬ b = w.heap.size:=by omega
 have hcn:=h2.cC n0 hn16
 have hfn:=h2.fz (8 + n0)
 have hfr:=h2.fz r
 have e1 : exec (.store r s) (m.at' + 1) m = { m with cells:=upd m.cells n0 (m.regs s) }.goes (m.at' + 1):=by
  show (if _ then _ else _) = _
  rw [if_neg (by omega),hn]; rfl
 rw [e1]
 have hx:=fun n => (h2.drewN n).setC n0 hn16 (m.regs s)
 have hcall:=fun n => zk4 ((w.alloc (.cells #[.int .i64 (r : Int),.int .i64 (s : Int)] 178)).drewN n) b n0 bv iv ov m (h2.drewN n) hn16
 rw [hn] at hcr
 go_enter Tryz.func256,Tryz.ntmps256
 go_wp2_with fail
 go_quiet (first | (go_at_call 253; exact Calls.quiet_of_same (hcall _)))
 go_wp2_with fail
 refine zag 9 (by kernel_rfl) (by kernel_rfl) ?_
 simp only [List.take_succ_cons,List.take_zero,List.drop_succ_cons,List.drop_zero]
 repeat (go_big_quiet_step (fail))
 refine wpQuiet_nil ?_
 rintro _ ⟨nr,rfl⟩
 rw [World.drewN_drewN]
 go_wp2_with (first | (go_at_call 225; refine (zbd _ b bv iv ov _ (hx (nq + nr)) h0 h1 ha hb).mono ?_; rintro e w2 ⟨rfl,hM,hg⟩))
 go_end0
 exact ⟨rfl,hM,zac za2 hg⟩
end Go.Proofs.YtfpgjkbjbbgciaaGreatDoor
