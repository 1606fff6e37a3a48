import Derived.Test.YtfpgjkbjbbgciaaGreatDoorMf30
set_option maxRecDepth 100000
set_option maxHeartbeats 8000000
namespace Go.Proofs.YtfpgjkbjbbgciaaGreatDoor
open Go.RowKit Sp
attribute [local go_sem ↓] Go.wp_at_zero Go.wp_at_succ
theorem zp0 (w : World) (b c : Nat) (ao : Option Addr) (iv ov : Value) (m : Mc) (to : Int) (p : Nat) (h : MchM w b (.slice ao m.backs.length c) iv ov m) (h2 : (m.fin == 2) = false) (hown : w.ownsRow (b + 1) 3 1 (.slice ao m.backs.length c) m.backs.length (i64s m.backs)) (hlen : m.backs.length < 15) (hp : m.peak = (p : Int)) (_hp1 : p ≤ 16)
  (h0 : 0 ≤ m.steps) (h1 : m.steps ≤ 100000) (ha : 0 ≤ m.at') (hb : m.at' ≤ 100000) :
  Calls Tryz.prog 281 #[.pointer (some ⟨b,0,none⟩),.int .i64 to] w fun e w' => e = .returned (.tuple #[]) ∧
   ∃ g c' w4,MchM w' b (.slice (some ⟨g,0,none⟩) (m.backs.length + 1) c') iv ov ({ m with backs:=m.backs ++ [m.at' + 1],peak:=max m.peak ((m.backs.length : Int) + 2) }.goes to) ∧ w4.ownsRow (b + 1) 3 1 (.slice (some ⟨g,0,none⟩) (m.backs.length + 1) c') (m.backs.length + 1) (i64s (m.backs ++ [m.at' + 1])) ∧ w.grownBy w4 ((Value.slice ao m.backs.length c).ownBlock) ∧ w4.grownBy w' (some b):=by
 have hpk : max m.peak ((m.backs.length : Int) + 2) = max (p : Int) ((m.backs.length : Int) + 1 + 1):=by rw [hp,Int.add_assoc]; rfl
 rw [hpk]
 have hno:=zbY hown
 have hf:=zdu w b _ c ao iv ov m h (by omega) h2
 have hc:=h.cB
 have hcn:=h.cN
 have hf27:=h.fz 27
 have lg:=h.lt
 obtain ⟨i0,hi0,hz0,hz1,hz2⟩:=info_parts Tryz.info3
 generalize hbv : Value.slice ao m.backs.length c = bv at h hown hno hc hf
 have hne2 : some b ≠ bv.ownBlock:=fun e => hno e.symm
 have hne4 : ¬ w.heap.size = b:=by omega
 have hne5 : ¬ b = w.heap.size:=by omega
 have h16 : (((m.backs.length : Int) + 1) == 16) = false:=by simp; omega
 have hw1 : IntKind.i64.wrap (m.at' + 1) = m.at' + 1:=zeI _ (by omega) (by omega)
 go_enter Tryz.func281,Tryz.ntmps281
 go_wp2_with (first | (go_at_call 110; refine hf.mono ?_; rintro e wx ⟨rfl,hww⟩; have hw2:=hww.symm; subst hw2))
 go_region_law
  ((refine step_append_lies _ (by rfl) _ _ _ (by rfl) (b + 1) 3 i0 _ 1 8 Tryz.under59 hi0 hz0 hz1 hz2 rfl (by omega) bv m.backs.length (i64s m.backs) (by rfl) ((hown.alloc _).drew)
     ⟨w.heap.size,0,none⟩ 1 1 [.int .i64 (m.at' + 1)] (by rfl) (by rfl) (World.news_of_block (cs:=#[.int .i64 (m.at' + 1)]) (t:=3) (fr:=(0,0)) (zpj w _ _)) (by simp [Value.oneCell'])
     (by omega) (by unfold maxLen; omega) (by omega) (by simp; omega) (w.heap.size + 1) (by simp) ?_; intro g c' w1 hown1 hgrow hat hltg; have hfz : w1.frozen? ⟨b,27,none⟩ = false:=(hgrow.frozen_far _ (by simp; omega) hne2).trans ((zgJ w _ _ lg).trans hf27); have hcz : w1.cell? ⟨b,27,none⟩ = some bv:=(hgrow.cell_far _ (by simp; omega) hne2).trans ((zft w _ _ lg).trans hc)))
 all_goals have h4 : MchM w1 b bv iv ov m:=h.of_block ((hgrow.block b (by simp; omega) hne2).trans (Below.heap_alloc _ _ _ lg))
 all_goals have h5:=h4.setB (.slice (some ⟨g,0,none⟩) (m.backs.length + 1) c') (m.backs ++ [m.at' + 1])
 all_goals have hg4 : w.grownBy w1 bv.ownBlock:=zfZ hgrow
 all_goals have hg5 : w1.grownBy (w1.setCell ⟨b,27,none⟩ (.slice (some ⟨g,0,none⟩) (m.backs.length + 1) c')) (some b):=zat (Below.refl _ _)
 all_goals clear hfz hcz hc hf27 hcn hf h16
 all_goals generalize w1.setCell ⟨b,27,none⟩ (.slice (some ⟨g,0,none⟩) (m.backs.length + 1) c') = w5 at h5 hg5 ⊢
 all_goals have hf5:=fun n => zdu (w5.drewN n) b (m.backs.length + 1) c' _ iv ov _ (h5.drewN n) (by omega) h2
 all_goals simp only [Int.natCast_add,Int.cast_ofNat_Int] at hf5
 all_goals have hcp:=h5.cP
 all_goals have hfp:=h5.fz 29
 all_goals go_wp2_with fail
 all_goals refine zag 10 (by kernel_rfl) (by kernel_rfl) ?_
 all_goals simp only [List.take_succ_cons,List.take_zero,List.drop_succ_cons,List.drop_zero]
 all_goals repeat (go_big_quiet_step (first | (go_at_call 110; exact Calls.quiet_of_same (hf5 _))))
 all_goals refine wpQuiet_nil ?_
 all_goals rintro _ ⟨nr,rfl⟩
 all_goals go_wp2_with (first | (go_at_call 228; refine (zdb _ b _ iv ov _ to ((h5.drewN nr).setP (max (p : Int) ((m.backs.length : Int) + 1 + 1))) h0 h1).mono ?_; rintro e w2 ⟨rfl,hM,hg⟩))
 all_goals go_end0
 all_goals exact ⟨rfl,g,c',w1,hM,by simpa [i64s] using hown1,hg4,zac hg5 (zac (zaY (n:=nr) (zat (Below.refl _ _))) hg)⟩
theorem zip (w : World) (b c : Nat) (ao : Option Addr) (iv ov : Value) (m : Mc) (to : Int) (h : MchM w b (.slice ao 15 c) iv ov m) (h2 : (m.fin == 2) = false) :
  Calls Tryz.prog 279 #[.agg #[.int .i64 to],.pointer (some ⟨b,0,none⟩)] w fun e w' => e = .returned (.tuple #[]) ∧ MchM w' b (.slice ao 15 c) iv ov { m with fin:=4 } ∧ w.grownBy w' (some b):=by
 have h3:=h.alloc (.cells #[.int .i64 to] 190)
 go_enter Tryz.func279,Tryz.ntmps279
 go_wp2_with (first | (go_at_call 281; refine (zlL _ b c ao iv ov m to h3 h2).mono ?_; rintro e w2 ⟨rfl,hM,hg⟩))
 go_end0
 exact ⟨rfl,hM,zac (World.grownBy_alloc w _ _) hg⟩
theorem zlM (w : World) (b c : Nat) (ao : Option Addr) (iv ov : Value) (m : Mc) (to : Int) (p : Nat) (h : MchM w b (.slice ao m.backs.length c) iv ov m) (h2 : (m.fin == 2) = false) (hown : w.ownsRow (b + 1) 3 1 (.slice ao m.backs.length c) m.backs.length (i64s m.backs)) (hlen : m.backs.length < 15) (hp : m.peak = (p : Int)) (hp1 : p ≤ 16)
  (h0 : 0 ≤ m.steps) (h1 : m.steps ≤ 100000) (ha : 0 ≤ m.at') (hb : m.at' ≤ 100000) :
  Calls Tryz.prog 279 #[.agg #[.int .i64 to],.pointer (some ⟨b,0,none⟩)] w fun e w' => e = .returned (.tuple #[]) ∧
   ∃ g c' w4,MchM w' b (.slice (some ⟨g,0,none⟩) (m.backs.length + 1) c') iv ov ({ m with backs:=m.backs ++ [m.at' + 1],peak:=max m.peak ((m.backs.length : Int) + 2) }.goes to) ∧ w4.ownsRow (b + 1) 3 1 (.slice (some ⟨g,0,none⟩) (m.backs.length + 1) c') (m.backs.length + 1) (i64s (m.backs ++ [m.at' + 1])) ∧ w.grownBy w4 ((Value.slice ao m.backs.length c).ownBlock) ∧ w4.grownBy w' (some b):=by
 have h3:=h.alloc (.cells #[.int .i64 to] 190)
 go_enter Tryz.func279,Tryz.ntmps279
 go_wp2_with (first | (go_at_call 281; refine (zp0 _ b c ao iv ov m to p h3 h2 (hown.alloc _) hlen hp hp1 h0 h1 ha hb).mono ?_; rintro e w2 ⟨rfl,g,c',w4,hM,hown4,hg4,hg⟩))
 go_end0
 exact ⟨rfl,g,c',w4,hM,hown4,(World.grownBy_alloc w _ _).trans hg4,hg⟩
theorem zjF (w : World) (b c : Nat) (ao : Option Addr) (iv ov : Value) (m : Mc) (h : MchM w b (.slice ao 0 c) iv ov m) (h0 : 0 ≤ m.steps) (h1 : m.steps ≤ 100000) :
  Calls Tryz.prog 284 #[.agg #[],.pointer (some ⟨b,0,none⟩)] w fun e w' => e = .returned (.tuple #[]) ∧ MchM w' b (.slice ao 0 c) iv ov { m with steps:=m.steps + 1,fin:=2 } ∧ w.grownBy w' (some b):=by
 have h3:=h.alloc (.cells #[] 192)
 go_enter Tryz.func284,Tryz.ntmps284
 go_wp2_with (first | (go_at_call 222; refine (zn2 _ b c ao iv ov m h3 h0 h1).mono ?_; rintro e w2 ⟨rfl,hM,hg⟩))
 go_end0
 exact ⟨rfl,hM,zac (World.grownBy_alloc w _ _) hg⟩
theorem zlN (w : World) (b c g n : Nat) (iv ov : Value) (m : Mc) (to : Int) (l : List Int) (h : MchM w b (.slice (some ⟨g,0,none⟩) (n + 1) c) iv ov m) (hcg : w.cell? ⟨g,n,none⟩ = some (.int .i64 to)) (hgb : ¬ g = b) (hn : n ≤ 16) (hc : n + 1 ≤ c) (h0 : 0 ≤ m.steps) (h1 : m.steps ≤ 100000) :
  Calls Tryz.prog 284 #[.agg #[],.pointer (some ⟨b,0,none⟩)] w fun e w' => e = .returned (.tuple #[]) ∧ MchM w' b (.slice (some ⟨g,0,none⟩) n c) iv ov ({ m with backs:=l }.goes to) ∧ w.grownBy w' (some b):=by
 have h3:=h.alloc (.cells #[] 192)
 have hcg3 : (w.alloc (.cells #[] 192)).cell? ⟨g,n,none⟩ = some (.int .i64 to):=(World.cell?_alloc_lt w _ _ (World.block_lt_of_cell? w _ hcg)).trans hcg
 go_enter Tryz.func284,Tryz.ntmps284
 go_wp2_with (first | (go_at_call 222; refine (zpy _ b c g n iv ov m to l h3 hcg3 hgb hn hc h0 h1).mono ?_; rintro e w2 ⟨rfl,hM,hg⟩))
 go_end0
 exact ⟨rfl,hM,zac (World.grownBy_alloc w _ _) hg⟩
end Go.Proofs.YtfpgjkbjbbgciaaGreatDoor
