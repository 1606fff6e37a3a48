import Derived.Test.YtfpgjkbjbbgciaaGreatDoorMd21
import Derived.Test.YtfpgjkbjbbgciaaGreatDoorMd22
import Derived.Laws.Small
set_option maxRecDepth 100000
set_option maxHeartbeats 8000000
namespace Go.Proofs.YtfpgjkbjbbgciaaGreatDoor
open Go.RowKit Sp
attribute [local go_sem ↓] Go.wp_at_zero Go.wp_at_succ
theorem zpR(w:World)(b B:Nat)(bv iv ov:Value)(m:Mc)(x:Int)(h:MchM w b bv iv ov m)(hown:w.ownsRow B 2 1 ov m.out.length (i64s m.out))(hno:ov.ownBlock≠some b)(hB:B≤w.heap.size)(hlen:m.out.length≤100000):
  Calls Tryz.prog 264 #[.pointer (some ⟨b,0,none⟩),.int .i64 x] w fun e w'=>e=.returned (.tuple #[]) ∧
   ∃ v' w4,MchM w' b bv iv v' { m with out:=m.out++[x] }∧w4.ownsRow B 2 1 v' (m.out.length+1) (i64s (m.out++[x]))∧w.grownBy w4 ov.ownBlock∧w4.grownBy w' (some b):=by
 have lg:=h.lt
 have hco:=h.cO
 obtain⟨i0,hi0,hz0,hz1,hz2⟩:=info_parts Tryz.info2
 have hne2:some b≠ov.ownBlock:=fun e=>hno e.symm
 have hne4:¬w.heap.size=b:=by omega
 have hne5:¬b=w.heap.size:=by omega
 go_enter Tryz.func264,Tryz.ntmps264
 go_wp2_with(first
  | (at_builtin;refine wpList_append_own _ rfl _ _ 29 rfl B 2 i0 (.int .i64 0) 1 8 Tryz.under29 hi0 hz0 hz1 hz2 rfl (by decide) _ _ _ rfl (hown.alloc _) ⟨w.heap.size,0,none⟩ 1 1 [.int .i64 x] rfl rfl (zeV _ _) (by simp [Value.oneCell']) (by unfold maxLen;omega) (by omega) (by simp;omega) ?_))
 intro v' w4 hown4 hgrow _
 obtain⟨gb,c,rfl,hgb,hgl⟩:=hown4.form (by omega)
 have h4:MchM w4 b bv iv ov m:=h.of_block ((hgrow.block b (by simp;omega) hne2).trans (Below.heap_alloc _ _ _ lg))
 have hg4:w.grownBy w4 ov.ownBlock:=(World.grownBy_alloc w _ _).trans hgrow
 clear hco
 have hco:=h4.cO
 have hfo:=h4.fz 25
 go_wp2
 go_end0
 exact⟨rfl,_,w4,h4.setO (.slice (some ⟨gb,0,none⟩) (m.out.length+1) c) (m.out++[x]),by simpa [i64s] using hown4,hg4,zac (Below.refl _ _)⟩
theorem zpS(w:World)(b c:Nat)(ao:Option Addr)(iv ov:Value)(m:Mc)(to:Int)(h:MchM w b (.slice ao 15 c) iv ov m)(h2:(m.fin == 2)=false):
  Calls Tryz.prog 281 #[.pointer (some ⟨b,0,none⟩),.int .i64 to] w fun e w'=>e=.returned (.tuple #[])∧MchM w' b (.slice ao 15 c) iv ov { m with fin:=4 }∧w.grownBy w' (some b):=by
 have hce:=h.cE
 have hfe:=h.fz 30
 have hf:=zeU w b 15 c ao iv ov m h (by omega) h2
 go_enter Tryz.func281,Tryz.ntmps281
 go_wp2_with(first|(go_at_call 110;refine hf.mono ?_;rintro e wx ⟨rfl,hww⟩;have hw2:=hww.symm;subst hw2))
 (try simp only [Exit.inBlock,Exit.then]);refine bodyPost_ret (results_none rfl _ _ _) rfl ?_
 exact⟨rfl,h.setE 4,zac (Below.refl _ _)⟩
theorem zsy(w:World)(b c:Nat)(ao:Option Addr)(iv ov:Value)(m:Mc)(h:MchM w b (.slice ao 0 c) iv ov m)(h0:0≤m.steps)(h1:m.steps≤100000):
  Calls Tryz.prog 222 #[.pointer (some ⟨b,0,none⟩)] w fun e w'=>e=.returned (.tuple #[])∧MchM w' b (.slice ao 0 c) iv ov { m with steps:=m.steps+1,fin:=2 }∧w.grownBy w' (some b):=by
 have hcb:=h.cB
 go_enter Tryz.func222,Tryz.ntmps222
 go_wp2_with(first|(go_at_call 286;refine(zhQ w b _ iv ov m 2 h h0 h1).mono ?_;rintro e w2 ⟨rfl,hM,hg⟩))
 (try simp only [Exit.inBlock,Exit.then]);refine bodyPost_ret (results_none rfl _ _ _) rfl ?_
 exact⟨rfl,hM,hg⟩
theorem zuZ(w:World)(b c g n:Nat)(iv ov:Value)(m:Mc)(to:Int)(l:List Int)(h:MchM w b (.slice (some ⟨g,0,none⟩) (n+1) c) iv ov m)(hcg:w.cell? ⟨g,n,none⟩=some (.int .i64 to))(hgb:¬g=b)(hn:n≤16)(hc:n+1≤c)(h0:0≤m.steps)(h1:m.steps≤100000):
  Calls Tryz.prog 222 #[.pointer (some ⟨b,0,none⟩)] w fun e w'=>e=.returned (.tuple #[])∧MchM w' b (.slice (some ⟨g,0,none⟩) n c) iv ov ({ m with backs:=l }.goes to)∧w.grownBy w' (some b):=by
 have hcb:=h.cB
 have hfb:=h.fz 27
 have hbg:¬b=g:=fun e=>hgb e.symm
 have hn0:(0:Int)≤(n:Int):=by omega
 have hn1:(n:Int)<(n:Int)+1:=by omega
 have hx:=h.setB (.slice (some ⟨g,0,none⟩) n c) l
 go_enter Tryz.func222,Tryz.ntmps222
 go_wp2_with(first|(go_at_call 228;refine(ze5 _ b _ iv ov _ to hx h0 h1).mono ?_;rintro e w2 ⟨rfl,hM,hg⟩))
 go_end0
 exact⟨rfl,hM,zae (zac (Below.refl _ _)) hg⟩
end Go.Proofs.YtfpgjkbjbbgciaaGreatDoor
namespace Go.Proofs.YtfpgjkbjbbgciaaGreatDoor
open Go.RowKit Sp
attribute [local go_sem ↓] Go.wp_at_zero Go.wp_at_succ
theorem zlp(w:World)(b c r:Nat)(bv ov:Value)(ao:Option Addr)(m:Mc)(hr:r<8)(h:MchM w b bv (.slice ao 0 c) ov m)(h0:0≤m.steps)(h1:m.steps≤100000)(ha:0≤m.at')(hb:m.at'≤100000):
  Calls Tryz.prog 259 #[.agg #[.int .i64 (r:Int)],.pointer (some ⟨b,0,none⟩)] w fun e w'=>e=.returned (.tuple #[])∧MchM w' b bv (.slice ao 0 c) ov ({ m with regs:=upd m.regs r 0 }.goes (m.at'+1))∧w.grownBy w' (some b):=by
 have hl:=h.lt
 have h2:=h.alloc (.cells #[.int .i64 (r:Int)] 180)
 have hcr:=h2.cR r hr
 have hr0:(0:Int)≤(r:Int):=by omega
 have hr8:(r:Int)<8:=by omega
 have hx:=fun n=>(h2.drewN n).setR r hr 0
 have hfz:=h2.fz r
 have hcall:=fun n=>zpO ((w.alloc (.cells #[.int .i64 (r:Int)] 180)).drewN n) b c bv ov ao m (h2.drewN n)
 have hne4:¬w.heap.size=b:=by omega
 have hne5:¬b=w.heap.size:=by omega
 go_enter Tryz.func259,Tryz.ntmps259
 go_wp2_with fail
 refine zak 8 (by kernel_rfl) (by kernel_rfl) ?_
 simp only [List.take,List.drop]
 repeat(go_big_quiet_step (first|(go_at_call 261;exact Calls.quiet_of_same (hcall _))))
 refine wpQuiet_nil ?_
 rintro _ ⟨nr,rfl⟩
 go_wp2_with(first|(go_at_call 225;refine(zbQ _ b bv _ ov _ (hx nr) h0 h1 ha hb).mono ?_;rintro e w2 ⟨rfl,hM,hg⟩))
 go_end0
 exact⟨rfl,hM,zae zaO hg⟩
theorem zva(w:World)(b r:Nat)(bv iv ov:Value)(m:Mc)(hr:r<8)(h:MchM w b bv iv ov m)(hown:w.ownsRow (b+1) 2 1 ov m.out.length (i64s m.out))(hlen:m.out.length≤100000)(h0:0≤m.steps)(h1:m.steps≤100000)(ha:0≤m.at')(hb:m.at'≤100000):
  Calls Tryz.prog 262 #[.agg #[.int .i64 (r:Int)],.pointer (some ⟨b,0,none⟩)] w fun e w'=>e=.returned (.tuple #[]) ∧
   ∃ v' w4,MchM w' b bv iv v' (exec (.write r) (m.at'+1) m)∧w4.ownsRow (b+1) 2 1 v' (m.out.length+1) (i64s (m.out++[m.regs r]))∧w.grownBy w4 ov.ownBlock∧w4.grownBy w' (some b):=by
 have hl:=h.lt
 have h2:=h.alloc (.cells #[.int .i64 (r:Int)] 182)
 have hcr:=h2.cR r hr
 have hr0:(0:Int)≤(r:Int):=by omega
 have hr8:(r:Int)<8:=by omega
 have hne4:¬w.heap.size=b:=by omega
 have hne5:¬b=w.heap.size:=by omega
 have hcall:=fun n=>zpR ((w.alloc (.cells #[.int .i64 (r:Int)] 182)).drewN n) b (b+1) bv iv ov m (m.regs r) (h2.drewN n) (hown.alloc _) (zaY hown) (by show b+1≤(w.alloc _).heap.size;simp;omega) hlen
 go_enter Tryz.func262,Tryz.ntmps262
 go_wp2_with fail
 refine zak 8 (by kernel_rfl) (by kernel_rfl) ?_
 simp only [List.take,List.drop]
 repeat(go_big_quiet_step (fail))
 refine wpQuiet_nil ?_
 rintro _ ⟨nr,rfl⟩
 go_wp2_with(first|(go_at_call 264;refine(hcall nr).mono ?_;rintro e w3 ⟨rfl,v',w4,hM3,hown4,hg4,hg3⟩)|(go_at_call 225;refine(zbQ _ b bv iv v' _ hM3 h0 h1 ha hb).mono ?_;rintro e w2 ⟨rfl,hM,hg⟩))
 go_end0
 exact⟨rfl,v',w4,hM,hown4,(World.grownBy_alloc w _ _).trans (za6 hg4),zae hg3 hg⟩
theorem zlq(w:World)(b c r g o n:Nat)(bv ov:Value)(m:Mc)(x:Int)(l:List Int)(hr:r<8)(h:MchM w b bv (.slice (some ⟨g,o,none⟩) (n+1) c) ov m)(hx:w.cell? ⟨g,o,none⟩=some (.int .i64 x))(hn:n≤9223372036854775806)(hc:n+1≤c)(h0:0≤m.steps)(h1:m.steps≤100000)(ha:0≤m.at')(hb:m.at'≤100000):
  Calls Tryz.prog 259 #[.agg #[.int .i64 (r:Int)],.pointer (some ⟨b,0,none⟩)] w fun e w'=>e=.returned (.tuple #[])∧(∃ o',MchM w' b bv (.slice (some ⟨g,o',none⟩) n (c-1)) ov ({ m with regs:=upd m.regs r x,inp:=l }.goes (m.at'+1))∧(n=0∨o'=o+1))∧w.grownBy w' (some b):=by
 have hl:=h.lt
 have hlg:g<w.heap.size:=World.block_lt_of_cell? w _ hx
 have h2:=h.alloc (.cells #[.int .i64 (r:Int)] 180)
 have hr0:(0:Int)≤(r:Int):=by omega
 have hr8:(r:Int)<8:=by omega
 have hx2:(w.alloc (.cells #[.int .i64 (r:Int)] 180)).cell? ⟨g,o,none⟩=some (.int .i64 x):=(World.cell?_alloc_lt w _ _ hlg).trans hx
 have hcall:=zpP ((w.alloc (.cells #[.int .i64 (r:Int)] 180)).drew) b c g o n bv ov m x l h2.drew hx2 hn hc
 have hne4:¬w.heap.size=b:=by omega
 have hne5:¬b=w.heap.size:=by omega
 have hcr:=h2.cR r hr
 have hfr:=h2.fz r
 go_enter Tryz.func259,Tryz.ntmps259
 go_wp2_with fail
 go_region_with(go_at_call 261;refine hcall.mono ?_;rintro e w3 ⟨rfl,⟨o',hM3,ho⟩,hg3⟩;have hc3:=hM3.cR r hr;have hf3:=hM3.fz r;have hq3:w3.cell? ⟨w.heap.size,0,none⟩=some (.int .i64 (r:Int)):=(hg3.cell_far ⟨w.heap.size,0,none⟩ (by show w.heap.size<(w.alloc _).heap.size;simp) (by simp;omega)).trans (by show(w.alloc _).cell? _=_;simp))
 all_goals go_wp2_with(first|(go_at_call 225;refine(zbQ _ b bv _ ov _ (hM3.setR r hr x) h0 h1 ha hb).mono ?_;rintro e w2 ⟨rfl,hM,hg⟩))
 all_goals go_end0
 all_goals exact⟨rfl,⟨o',hM,ho⟩,zae (World.grownBy_alloc w _ _) (zae ⟨hg3.os,hg3.tape,hg3.output,hg3.size,hg3.block⟩ (zae (zac (Below.refl _ _)) hg))⟩
end Go.Proofs.YtfpgjkbjbbgciaaGreatDoor
namespace Go.Proofs.YtfpgjkbjbbgciaaGreatDoor
open Go.RowKit Sp
attribute [local go_sem ↓] Go.wp_at_zero Go.wp_at_succ
theorem zvb(w:World)(b c:Nat)(ao:Option Addr)(iv ov:Value)(m:Mc)(to:Int)(p:Nat)(h:MchM w b (.slice ao m.backs.length c) iv ov m)(h2:(m.fin == 2)=false)(hown:w.ownsRow (b+1) 3 1 (.slice ao m.backs.length c) m.backs.length (i64s m.backs))(hlen:m.backs.length<15)(hp:m.peak=(p:Int))(_hp1:p≤16)
  (h0:0≤m.steps) (h1:m.steps≤100000) (ha:0≤m.at') (hb:m.at'≤100000) :
  Calls Tryz.prog 281 #[.pointer (some ⟨b,0,none⟩),.int .i64 to] w fun e w'=>e=.returned (.tuple #[]) ∧
   ∃ g c' w4,MchM w' b (.slice (some ⟨g,0,none⟩) (m.backs.length+1) c') iv ov ({ m with backs:=m.backs++[m.at'+1],peak:=max m.peak ((m.backs.length:Int)+2) }.goes to)∧w4.ownsRow (b+1) 3 1 (.slice (some ⟨g,0,none⟩) (m.backs.length+1) c') (m.backs.length+1) (i64s (m.backs++[m.at'+1]))∧w.grownBy w4 ((Value.slice ao m.backs.length c).ownBlock)∧w4.grownBy w' (some b):=by
 have hpk:max m.peak ((m.backs.length:Int)+2)=max (p:Int) ((m.backs.length:Int)+1+1):=by rw [hp,Int.add_assoc];rfl
 rw [hpk]
 have hno:=zaY hown
 have hf:=zeU w b _ c ao iv ov m h (by omega) h2
 have hc:=h.cB
 have hcn:=h.cN
 have hf27:=h.fz 27
 have lg:=h.lt
 obtain⟨i0,hi0,hz0,hz1,hz2⟩:=info_parts Tryz.info3
 generalize hbv:Value.slice ao m.backs.length c=bv at h hown hno hc hf
 have hne2:some b≠bv.ownBlock:=fun e=>hno e.symm
 have hne4:¬w.heap.size=b:=by omega
 have hne5:¬b=w.heap.size:=by omega
 have h16:(((m.backs.length:Int)+1) == 16)=false:=by simp;omega
 have hw1:IntKind.i64.wrap (m.at'+1)=m.at'+1:=zc8 _ (by omega) (by omega)
 go_enter Tryz.func281,Tryz.ntmps281
 go_wp2_with(first|(go_at_call 110;refine hf.mono ?_;rintro e wx ⟨rfl,hww⟩;have hw2:=hww.symm;subst hw2))
 go_region_law
  ((refine step_append_lies _ (by rfl) _ _ _ (by rfl) (b+1) 3 i0 _ 1 8 Tryz.under59 hi0 hz0 hz1 hz2 rfl (by omega) bv m.backs.length (i64s m.backs) (by rfl) ((hown.alloc _).drew)
     ⟨w.heap.size,0,none⟩ 1 1 [.int .i64 (m.at'+1)] (by rfl) (by rfl) (World.news_of_block (cs:=#[.int .i64 (m.at'+1)]) (t:=3) (fr:=(0,0)) (zjN w _ _)) (by simp [Value.oneCell'])
     (by omega) (by unfold maxLen;omega) (by omega) (by simp;omega) (w.heap.size+1) (by simp) ?_;intro g c' w1 hown1 hgrow hat hltg;have hfz:w1.frozen? ⟨b,27,none⟩=false:=(hgrow.frozen_far _ (by simp;omega) hne2).trans ((zgs w _ _ lg).trans hf27);have hcz:w1.cell? ⟨b,27,none⟩=some bv:=(hgrow.cell_far _ (by simp;omega) hne2).trans ((zfO w _ _ lg).trans hc)))
 all_goals have h4:MchM w1 b bv iv ov m:=h.of_block ((hgrow.block b (by simp;omega) hne2).trans (Below.heap_alloc _ _ _ lg))
 all_goals have h5:=h4.setB (.slice (some ⟨g,0,none⟩) (m.backs.length+1) c') (m.backs++[m.at'+1])
 all_goals have hg4:w.grownBy w1 bv.ownBlock:=zfP hgrow
 all_goals have hg5:w1.grownBy (w1.setCell ⟨b,27,none⟩ (.slice (some ⟨g,0,none⟩) (m.backs.length+1) c')) (some b):=zac (Below.refl _ _)
 all_goals clear hfz hcz hc hf27 hcn hf h16
 all_goals generalize w1.setCell ⟨b,27,none⟩ (.slice (some ⟨g,0,none⟩) (m.backs.length+1) c')=w5 at h5 hg5 ⊢
 all_goals have hf5:=fun n=>zeU (w5.drewN n) b (m.backs.length+1) c' _ iv ov _ (h5.drewN n) (by omega) h2
 all_goals simp only [Int.natCast_add,Int.cast_ofNat_Int] at hf5
 all_goals have hcp:=h5.cP
 all_goals have hfp:=h5.fz 29
 all_goals go_wp2_with fail
 all_goals refine zak 10 (by kernel_rfl) (by kernel_rfl) ?_
 all_goals simp only [List.take,List.drop]
 all_goals repeat(go_big_quiet_step (first|(go_at_call 110;exact Calls.quiet_of_same (hf5 _))))
 all_goals refine wpQuiet_nil ?_
 all_goals rintro _ ⟨nr,rfl⟩
 all_goals go_wp2_with(first|(go_at_call 228;refine(ze5 _ b _ iv ov _ to ((h5.drewN nr).setP (max (p:Int) ((m.backs.length:Int)+1+1))) h0 h1).mono ?_;rintro e w2 ⟨rfl,hM,hg⟩))
 all_goals go_end0
 all_goals exact⟨rfl,g,c',w1,hM,by simpa [i64s] using hown1,hg4,zae hg5 (zae (za6 (n:=nr) (zac (Below.refl _ _))) hg)⟩
theorem zlr(w:World)(b c:Nat)(ao:Option Addr)(iv ov:Value)(m:Mc)(to:Int)(h:MchM w b (.slice ao 15 c) iv ov m)(h2:(m.fin == 2)=false):
  Calls Tryz.prog 279 #[.agg #[.int .i64 to],.pointer (some ⟨b,0,none⟩)] w fun e w'=>e=.returned (.tuple #[])∧MchM w' b (.slice ao 15 c) iv ov { m with fin:=4 }∧w.grownBy w' (some b):=by
 have h3:=h.alloc (.cells #[.int .i64 to] 190)
 go_enter Tryz.func279,Tryz.ntmps279
 go_wp2_with(first|(go_at_call 281;refine(zpS _ b c ao iv ov m to h3 h2).mono ?_;rintro e w2 ⟨rfl,hM,hg⟩))
 go_end0
 exact⟨rfl,hM,zae (World.grownBy_alloc w _ _) hg⟩
theorem zpT(w:World)(b c:Nat)(ao:Option Addr)(iv ov:Value)(m:Mc)(to:Int)(p:Nat)(h:MchM w b (.slice ao m.backs.length c) iv ov m)(h2:(m.fin == 2)=false)(hown:w.ownsRow (b+1) 3 1 (.slice ao m.backs.length c) m.backs.length (i64s m.backs))(hlen:m.backs.length<15)(hp:m.peak=(p:Int))(hp1:p≤16)
  (h0:0≤m.steps) (h1:m.steps≤100000) (ha:0≤m.at') (hb:m.at'≤100000) :
  Calls Tryz.prog 279 #[.agg #[.int .i64 to],.pointer (some ⟨b,0,none⟩)] w fun e w'=>e=.returned (.tuple #[]) ∧
   ∃ g c' w4,MchM w' b (.slice (some ⟨g,0,none⟩) (m.backs.length+1) c') iv ov ({ m with backs:=m.backs++[m.at'+1],peak:=max m.peak ((m.backs.length:Int)+2) }.goes to)∧w4.ownsRow (b+1) 3 1 (.slice (some ⟨g,0,none⟩) (m.backs.length+1) c') (m.backs.length+1) (i64s (m.backs++[m.at'+1]))∧w.grownBy w4 ((Value.slice ao m.backs.length c).ownBlock)∧w4.grownBy w' (some b):=by
 have h3:=h.alloc (.cells #[.int .i64 to] 190)
 go_enter Tryz.func279,Tryz.ntmps279
 go_wp2_with(first|(go_at_call 281;refine(zvb _ b c ao iv ov m to p h3 h2 (hown.alloc _) hlen hp hp1 h0 h1 ha hb).mono ?_;rintro e w2 ⟨rfl,g,c',w4,hM,hown4,hg4,hg⟩))
 go_end0
 exact⟨rfl,g,c',w4,hM,hown4,(World.grownBy_alloc w _ _).trans hg4,hg⟩
theorem zmU(w:World)(b c:Nat)(ao:Option Addr)(iv ov:Value)(m:Mc)(h:MchM w b (.slice ao 0 c) iv ov m)(h0:0≤m.steps)(h1:m.steps≤100000):
  Calls Tryz.prog 284 #[.agg #[],.pointer (some ⟨b,0,none⟩)] w fun e w'=>e=.returned (.tuple #[])∧MchM w' b (.slice ao 0 c) iv ov { m with steps:=m.steps+1,fin:=2 }∧w.grownBy w' (some b):=by
 have h3:=h.alloc (.cells #[] 192)
 go_enter Tryz.func284,Tryz.ntmps284
 go_wp2_with(first|(go_at_call 222;refine(zsy _ b c ao iv ov m h3 h0 h1).mono ?_;rintro e w2 ⟨rfl,hM,hg⟩))
 go_end0
 exact⟨rfl,hM,zae (World.grownBy_alloc w _ _) hg⟩
theorem zpU(w:World)(b c g n:Nat)(iv ov:Value)(m:Mc)(to:Int)(l:List Int)(h:MchM w b (.slice (some ⟨g,0,none⟩) (n+1) c) iv ov m)(hcg:w.cell? ⟨g,n,none⟩=some (.int .i64 to))(hgb:¬g=b)(hn:n≤16)(hc:n+1≤c)(h0:0≤m.steps)(h1:m.steps≤100000):
  Calls Tryz.prog 284 #[.agg #[],.pointer (some ⟨b,0,none⟩)] w fun e w'=>e=.returned (.tuple #[])∧MchM w' b (.slice (some ⟨g,0,none⟩) n c) iv ov ({ m with backs:=l }.goes to)∧w.grownBy w' (some b):=by
 have h3:=h.alloc (.cells #[] 192)
 have hcg3:(w.alloc (.cells #[] 192)).cell? ⟨g,n,none⟩=some (.int .i64 to):=(World.cell?_alloc_lt w _ _ (World.block_lt_of_cell? w _ hcg)).trans hcg
 go_enter Tryz.func284,Tryz.ntmps284
 go_wp2_with(first|(go_at_call 222;refine(zuZ _ b c g n iv ov m to l h3 hcg3 hgb hn hc h0 h1).mono ?_;rintro e w2 ⟨rfl,hM,hg⟩))
 go_end0
 exact⟨rfl,hM,zae (World.grownBy_alloc w _ _) hg⟩
end Go.Proofs.YtfpgjkbjbbgciaaGreatDoor
namespace Go.Proofs.YtfpgjkbjbbgciaaGreatDoor
open Go.RowKit Sp
theorem zhR(w:World)(b:Nat)(bv iv ov:Value)(m:Mc)(to:Int)(h:MchM w b bv iv ov m)(h0:0≤m.steps)(h1:m.steps≤100000):
  Calls Tryz.prog 269 #[.pointer (some ⟨b,0,none⟩),.bool true,.int .i64 to] w fun e w'=>e=.returned (.tuple #[])∧MchM w' b bv iv ov (m.goes to)∧w.grownBy w' (some b):=by
 go_enter Tryz.func269,Tryz.ntmps269
 go_wp2_with(first|(go_at_call 228;refine(ze5 w b bv iv ov m to h h0 h1).mono ?_;rintro e w2 ⟨rfl,hM,hg⟩))
 go_end0
 exact⟨rfl,hM,hg⟩
theorem zgL(w:World)(b:Nat)(bv iv ov:Value)(m:Mc)(to:Int)(h:MchM w b bv iv ov m)(h0:0≤m.steps)(h1:m.steps≤100000)(ha:0≤m.at')(hb:m.at'≤100000):
  Calls Tryz.prog 269 #[.pointer (some ⟨b,0,none⟩),.bool false,.int .i64 to] w fun e w'=>e=.returned (.tuple #[])∧MchM w' b bv iv ov (m.goes (m.at'+1))∧w.grownBy w' (some b):=by
 go_enter Tryz.func269,Tryz.ntmps269
 go_wp2_with(first|(go_at_call 225;refine(zbQ w b bv iv ov m h h0 h1 ha hb).mono ?_;rintro e w2 ⟨rfl,hM,hg⟩))
 go_end0
 exact⟨rfl,hM,hg⟩
theorem zxc(w:World)(b:Nat)(bv iv ov:Value)(m:Mc)(to:Int)(h:MchM w b bv iv ov m)(h0:0≤m.steps)(h1:m.steps≤100000):
  Calls Tryz.prog 265 #[.agg #[.int .i64 to],.pointer (some ⟨b,0,none⟩)] w fun e w'=>e=.returned (.tuple #[])∧MchM w' b bv iv ov (exec (.jump to) (m.at'+1) m)∧w.grownBy w' (some b):=by
 have h2:=h.alloc (.cells #[.int .i64 to] 185)
 go_enter Tryz.func265,Tryz.ntmps265
 go_wp2_with(first|(go_at_call 228;refine(ze5 _ b bv iv ov m to h2 h0 h1).mono ?_;rintro e w2 ⟨rfl,hM,hg⟩))
 go_end0
 exact⟨rfl,hM,zae (World.grownBy_alloc w _ _) hg⟩
theorem zxd(w:World)(b:Nat)(bv iv ov:Value)(m:Mc)(r s:Nat)(hr:r<8)(hs:s<8)(to:Int)(h:MchM w b bv iv ov m)(h0:0≤m.steps)(h1:m.steps≤100000)(ha:0≤m.at')(hb:m.at'≤100000):
  Calls Tryz.prog 267 #[.agg #[.int .i64 (r:Int),.int .i64 (s:Int),.int .i64 to],.pointer (some ⟨b,0,none⟩)] w fun e w'=>e=.returned (.tuple #[])∧MchM w' b bv iv ov (exec (.less r s to) (m.at'+1) m)∧w.grownBy w' (some b):=by
 have hl:=h.lt
 have h2:=h.alloc (.cells #[.int .i64 (r:Int),.int .i64 (s:Int),.int .i64 to] 187)
 have hcr:=h2.cR r hr
 have hr0:(0:Int)≤(r:Int):=by omega
 have hr8:(r:Int)<8:=by omega
 have hcs:=h2.cR s hs
 have hs0:(0:Int)≤(s:Int):=by omega
 have hs8:(s:Int)<8:=by omega
 have hne4:¬w.heap.size=b:=by omega
 have hne5:¬b=w.heap.size:=by omega
 show Calls _ _ _ _ fun e w'=>_∧MchM w' b bv iv ov (m.goes (if m.regs r<m.regs s then to else m.at'+1))∧_
 by_cases ht:m.regs r<m.regs s
 ·rw [if_pos ht]
  have hd:m.regs r<m.regs s:=ht
  go_enter Tryz.func267,Tryz.ntmps267
  go_wp2_with fail
  refine zak 18 (by kernel_rfl) (by kernel_rfl) ?_
  simp only [List.take,List.drop]
  repeat(go_big_quiet_step (fail))
  refine wpQuiet_nil ?_
  rintro _ ⟨nr,rfl⟩
  go_wp2_with(first|(go_at_call 269;refine(zhR _ b bv iv ov m to (h2.drewN nr) h0 h1).mono ?_;rintro e w2 ⟨rfl,hM,hg⟩))
  go_end0
  exact⟨rfl,hM,zae (World.grownBy_alloc w _ _) (za6 hg)⟩
 ·rw [if_neg ht]
  have hd:decide (m.regs r<m.regs s)=false:=by simpa using ht
  go_enter Tryz.func267,Tryz.ntmps267
  go_wp2_with fail
  refine zak 18 (by kernel_rfl) (by kernel_rfl) ?_
  simp only [List.take,List.drop]
  repeat(go_big_quiet_step (fail))
  refine wpQuiet_nil ?_
  rintro _ ⟨nr,rfl⟩
  go_wp2_with(first|(go_at_call 269;refine(zgL _ b bv iv ov m to (h2.drewN nr) h0 h1 ha hb).mono ?_;rintro e w2 ⟨rfl,hM,hg⟩))
  go_end0
  exact⟨rfl,hM,zae (World.grownBy_alloc w _ _) (za6 hg)⟩
theorem zxe(w:World)(b:Nat)(bv iv ov:Value)(m:Mc)(r s:Nat)(hr:r<8)(hs:s<8)(to:Int)(h:MchM w b bv iv ov m)(h0:0≤m.steps)(h1:m.steps≤100000)(ha:0≤m.at')(hb:m.at'≤100000):
  Calls Tryz.prog 274 #[.agg #[.int .i64 (r:Int),.int .i64 (s:Int),.int .i64 to],.pointer (some ⟨b,0,none⟩)] w fun e w'=>e=.returned (.tuple #[])∧MchM w' b bv iv ov (exec (.same r s to) (m.at'+1) m)∧w.grownBy w' (some b):=by
 have hl:=h.lt
 have h2:=h.alloc (.cells #[.int .i64 (r:Int),.int .i64 (s:Int),.int .i64 to] 188)
 have hcr:=h2.cR r hr
 have hr0:(0:Int)≤(r:Int):=by omega
 have hr8:(r:Int)<8:=by omega
 have hcs:=h2.cR s hs
 have hs0:(0:Int)≤(s:Int):=by omega
 have hs8:(s:Int)<8:=by omega
 have hne4:¬w.heap.size=b:=by omega
 have hne5:¬b=w.heap.size:=by omega
 show Calls _ _ _ _ fun e w'=>_∧MchM w' b bv iv ov (m.goes (if m.regs r=m.regs s then to else m.at'+1))∧_
 by_cases ht:m.regs r=m.regs s
 ·rw [if_pos ht]
  have hd:(m.regs r == m.regs s)=true:=by simpa using ht
  go_enter Tryz.func274,Tryz.ntmps274
  go_wp2_with fail
  refine zak 18 (by kernel_rfl) (by kernel_rfl) ?_
  simp only [List.take,List.drop]
  repeat(go_big_quiet_step (fail))
  refine wpQuiet_nil ?_
  rintro _ ⟨nr,rfl⟩
  go_wp2_with(first|(go_at_call 269;refine(zhR _ b bv iv ov m to (h2.drewN nr) h0 h1).mono ?_;rintro e w2 ⟨rfl,hM,hg⟩))
  go_end0
  exact⟨rfl,hM,zae (World.grownBy_alloc w _ _) (za6 hg)⟩
 ·rw [if_neg ht]
  have hd:(m.regs r == m.regs s)=false:=by simpa using ht
  go_enter Tryz.func274,Tryz.ntmps274
  go_wp2_with fail
  refine zak 18 (by kernel_rfl) (by kernel_rfl) ?_
  simp only [List.take,List.drop]
  repeat(go_big_quiet_step (fail))
  refine wpQuiet_nil ?_
  rintro _ ⟨nr,rfl⟩
  go_wp2_with(first|(go_at_call 269;refine(zgL _ b bv iv ov m to (h2.drewN nr) h0 h1 ha hb).mono ?_;rintro e w2 ⟨rfl,hM,hg⟩))
  go_end0
  exact⟨rfl,hM,zae (World.grownBy_alloc w _ _) (za6 hg)⟩
theorem zxf(w:World)(b:Nat)(bv iv ov:Value)(m:Mc)(h:MchM w b bv iv ov m)(h0:0≤m.steps)(h1:m.steps≤100000):
  Calls Tryz.prog 288 #[.agg #[],.pointer (some ⟨b,0,none⟩)] w fun e w'=>e=.returned (.tuple #[])∧MchM w' b bv iv ov ({ m with steps:=m.steps+1,fin:=1 })∧w.grownBy w' (some b):=by
 have h2:=h.alloc (.cells #[] 193)
 go_enter Tryz.func288,Tryz.ntmps288
 go_wp2_with(first|(go_at_call 290;refine(zsv _ b bv iv ov m h2 h0 h1).mono ?_;rintro e w2 ⟨rfl,hM,hg⟩))
 go_end0
 exact⟨rfl,hM,zae (World.grownBy_alloc w _ _) hg⟩
theorem zmS(w:World)(b:Nat)(bv iv ov:Value)(m:Mc)(r s:Nat)(_hr:r<8)(hs:s<8)(h:MchM w b bv iv ov m)(hn:m.regs s<0∨15<m.regs s):
  Calls Tryz.prog 251 #[.agg #[.int .i64 (r:Int),.int .i64 (s:Int)],.pointer (some ⟨b,0,none⟩)] w fun e w'=>e=.returned (.tuple #[])∧MchM w' b bv iv ov (exec (.load r s) (m.at'+1) m)∧w.grownBy w' (some b):=by
 have hl:=h.lt
 have h2:=h.alloc (.cells #[.int .i64 (r:Int),.int .i64 (s:Int)] 176)
 have hcs:=h2.cR s hs
 have hs0:(0:Int)≤(s:Int):=by omega
 have hs8:(s:Int)<8:=by omega
 have hne4:¬w.heap.size=b:=by omega
 have hne5:¬b=w.heap.size:=by omega
 have e1:exec (.load r s) (m.at'+1) m={ m with fin:=3 }:=if_pos hn
 rw [e1]
 go_enter Tryz.func251,Tryz.ntmps251
 go_wp2_with fail
 refine zak 8 (by kernel_rfl) (by kernel_rfl) ?_
 simp only [List.take,List.drop]
 repeat(go_big_quiet_step (fail))
 refine wpQuiet_nil ?_
 rintro _ ⟨nr,rfl⟩
 go_wp2_with(first|(go_at_call 253;refine(zln _ b bv iv ov m _ (h2.drewN nr) hn).mono ?_;rintro e w2 ⟨rfl,hM,hg⟩))
 go_end0
 exact⟨rfl,hM,zae (World.grownBy_alloc w _ _) (za6 hg)⟩
theorem zpQ(w:World)(b:Nat)(bv iv ov:Value)(m:Mc)(r s n0:Nat)(hr:r<8)(hs:s<8)(hn16:n0<16)(hn:m.regs s=(n0:Int))(h:MchM w b bv iv ov m)(h0:0≤m.steps)(h1:m.steps≤100000)(ha:0≤m.at')(hb:m.at'≤100000):
  Calls Tryz.prog 251 #[.agg #[.int .i64 (r:Int),.int .i64 (s:Int)],.pointer (some ⟨b,0,none⟩)] w fun e w'=>e=.returned (.tuple #[])∧MchM w' b bv iv ov (exec (.load r s) (m.at'+1) m)∧w.grownBy w' (some b):=by
 have hl:=h.lt
 have h2:=h.alloc (.cells #[.int .i64 (r:Int),.int .i64 (s:Int)] 176)
 have hcr:=h2.cR r hr
 have hr0:(0:Int)≤(r:Int):=by omega
 have hr8:(r:Int)<8:=by omega
 have hcs:=h2.cR s hs
 have hs0:(0:Int)≤(s:Int):=by omega
 have hs8:(s:Int)<8:=by omega
 have hne4:¬w.heap.size=b:=by omega
 have hne5:¬b=w.heap.size:=by omega
 have hcn:=h2.cC n0 hn16
 have hfn:=h2.fz (8+n0)
 have hfr:=h2.fz r
 have e1:exec (.load r s) (m.at'+1) m={ m with regs:=upd m.regs r (m.cells n0) }.goes (m.at'+1):=by
  show(if _ then _ else _)=_
  rw [if_neg (by omega),hn];rfl
 rw [e1]
 have hx:=fun n=>(h2.drewN n).setR r hr (m.cells n0)
 have hcall:=fun n=>zom ((w.alloc (.cells #[.int .i64 (r:Int),.int .i64 (s:Int)] 176)).drewN n) b n0 bv iv ov m (h2.drewN n) hn16
 rw [hn] at hcs
 go_enter Tryz.func251,Tryz.ntmps251
 go_wp2_with fail
 go_quiet(first|(go_at_call 253;exact Calls.quiet_of_same (hcall _)))
 go_wp2_with fail
 refine zak 9 (by kernel_rfl) (by kernel_rfl) ?_
 simp only [List.take,List.drop]
 repeat(go_big_quiet_step (fail))
 refine wpQuiet_nil ?_
 rintro _ ⟨nr,rfl⟩
 rw [World.drewN_drewN]
 go_wp2_with(first|(go_at_call 225;refine(zbQ _ b bv iv ov _ (hx (nq+nr)) h0 h1 ha hb).mono ?_;rintro e w2 ⟨rfl,hM,hg⟩))
 go_end0
 exact⟨rfl,hM,zae zaO hg⟩
theorem zlo(w:World)(b:Nat)(bv iv ov:Value)(m:Mc)(r s:Nat)(hr:r<8)(_hs:s<8)(h:MchM w b bv iv ov m)(hn:m.regs r<0∨15<m.regs r):
  Calls Tryz.prog 256 #[.agg #[.int .i64 (r:Int),.int .i64 (s:Int)],.pointer (some ⟨b,0,none⟩)] w fun e w'=>e=.returned (.tuple #[])∧MchM w' b bv iv ov (exec (.store r s) (m.at'+1) m)∧w.grownBy w' (some b):=by
 have hl:=h.lt
 have h2:=h.alloc (.cells #[.int .i64 (r:Int),.int .i64 (s:Int)] 178)
 have hcr:=h2.cR r hr
 have hr0:(0:Int)≤(r:Int):=by omega
 have hr8:(r:Int)<8:=by omega
 have hne4:¬w.heap.size=b:=by omega
 have hne5:¬b=w.heap.size:=by omega
 have e1:exec (.store r s) (m.at'+1) m={ m with fin:=3 }:=if_pos hn
 rw [e1]
 go_enter Tryz.func256,Tryz.ntmps256
 go_wp2_with fail
 refine zak 8 (by kernel_rfl) (by kernel_rfl) ?_
 simp only [List.take,List.drop]
 repeat(go_big_quiet_step (fail))
 refine wpQuiet_nil ?_
 rintro _ ⟨nr,rfl⟩
 go_wp2_with(first|(go_at_call 253;refine(zln _ b bv iv ov m _ (h2.drewN nr) hn).mono ?_;rintro e w2 ⟨rfl,hM,hg⟩))
 go_end0
 exact⟨rfl,hM,zae (World.grownBy_alloc w _ _) (za6 hg)⟩
theorem zmT(w:World)(b:Nat)(bv iv ov:Value)(m:Mc)(r s n0:Nat)(hr:r<8)(hs:s<8)(hn16:n0<16)(hn:m.regs r=(n0:Int))(h:MchM w b bv iv ov m)(h0:0≤m.steps)(h1:m.steps≤100000)(ha:0≤m.at')(hb:m.at'≤100000):
  Calls Tryz.prog 256 #[.agg #[.int .i64 (r:Int),.int .i64 (s:Int)],.pointer (some ⟨b,0,none⟩)] w fun e w'=>e=.returned (.tuple #[])∧MchM w' b bv iv ov (exec (.store r s) (m.at'+1) m)∧w.grownBy w' (some b):=by
 have hl:=h.lt
 have h2:=h.alloc (.cells #[.int .i64 (r:Int),.int .i64 (s:Int)] 178)
 have hcr:=h2.cR r hr
 have hr0:(0:Int)≤(r:Int):=by omega
 have hr8:(r:Int)<8:=by omega
 have hcs:=h2.cR s hs
 have hs0:(0:Int)≤(s:Int):=by omega
 have hs8:(s:Int)<8:=by omega
 have hne4:¬w.heap.size=b:=by omega
 have hne5:¬b=w.heap.size:=by omega
 have hcn:=h2.cC n0 hn16
 have hfn:=h2.fz (8+n0)
 have hfr:=h2.fz r
 have e1:exec (.store r s) (m.at'+1) m={ m with cells:=upd m.cells n0 (m.regs s) }.goes (m.at'+1):=by
  show(if _ then _ else _)=_
  rw [if_neg (by omega),hn];rfl
 rw [e1]
 have hx:=fun n=>(h2.drewN n).setC n0 hn16 (m.regs s)
 have hcall:=fun n=>zom ((w.alloc (.cells #[.int .i64 (r:Int),.int .i64 (s:Int)] 178)).drewN n) b n0 bv iv ov m (h2.drewN n) hn16
 rw [hn] at hcr
 go_enter Tryz.func256,Tryz.ntmps256
 go_wp2_with fail
 go_quiet(first|(go_at_call 253;exact Calls.quiet_of_same (hcall _)))
 go_wp2_with fail
 refine zak 9 (by kernel_rfl) (by kernel_rfl) ?_
 simp only [List.take,List.drop]
 repeat(go_big_quiet_step (fail))
 refine wpQuiet_nil ?_
 rintro _ ⟨nr,rfl⟩
 rw [World.drewN_drewN]
 go_wp2_with(first|(go_at_call 225;refine(zbQ _ b bv iv ov _ (hx (nq+nr)) h0 h1 ha hb).mono ?_;rintro e w2 ⟨rfl,hM,hg⟩))
 go_end0
 exact⟨rfl,hM,zae zaO hg⟩
structure MchAt(w:World)(b:Nat)(m:Mc)(bv iv ov:Value):Prop where
 mem:MchM w b bv iv ov m
 backs:w.ownsRow (b+1) 3 1 bv m.backs.length (i64s m.backs)
 out:w.ownsRow (b+1) 2 1 ov m.out.length (i64s m.out)
 inp:SlB w b iv m.inp
theorem MchAt.same{w w':World}{b:Nat}{m m2:Mc}{bv iv ov:Value}(h:MchAt w b m bv iv ov)(hM:MchM w' b bv iv ov m2)(hg:w.grownBy w' (some b))(e1:m2.backs=m.backs)(e2:m2.out=m.out)(e3:m2.inp=m.inp):
  MchAt w' b m2 bv iv ov∧Below b w w':=by
 have hb:=zcW h.mem.lt hg
 refine⟨⟨hM,?_,?_,?_⟩,hb⟩
 ·rw [e1];exact h.backs.kept hg (.inr (zaY h.backs))
 ·rw [e2];exact h.out.kept hg (.inr (zaY h.out))
 ·rw [e3];exact h.inp.below hb
def insT:Ins→Nat
 | .set _ _=>167|.mov _ _=>169|.alu o _ _ _=>if o=0 then 171 else if o=1 then 172 else 173|.inc _ _=>174|.load _ _=>176|.store _ _=>178
 | .read _=>180|.write _=>182|.jump _=>185|.less _ _ _=>187|.same _ _ _=>188|.call _=>190|.back=>192|.stop=>193
def insF:Ins→Nat
 | .set _ _=>223|.mov _ _=>230|.alu o _ _ _=>if o=0 then 232 else if o=1 then 239 else 243|.inc _ _=>249|.load _ _=>251|.store _ _=>256
 | .read _=>259|.write _=>262|.jump _=>265|.less _ _ _=>267|.same _ _ _=>274|.call _=>279|.back=>284|.stop=>288
def insA:Ins→Array Value
 | .set r k=>#[.int .i64 (r:Int),.int .i64 k]
 | .mov r s=>#[.int .i64 (r:Int),.int .i64 (s:Int)]
 | .alu _ r s t=>#[.int .i64 (r:Int),.int .i64 (s:Int),.int .i64 (t:Int)]
 | .inc r k=>#[.int .i64 (r:Int),.int .i64 k]
 | .load r s=>#[.int .i64 (r:Int),.int .i64 (s:Int)]
 | .store r s=>#[.int .i64 (r:Int),.int .i64 (s:Int)]
 | .read r=>#[.int .i64 (r:Int)]
 | .write r=>#[.int .i64 (r:Int)]
 | .jump to=>#[.int .i64 to]
 | .less r s to=>#[.int .i64 (r:Int),.int .i64 (s:Int),.int .i64 to]
 | .same r s to=>#[.int .i64 (r:Int),.int .i64 (s:Int),.int .i64 to]
 | .call to=>#[.int .i64 to]
 | .back=>#[]
 | .stop=>#[]
def zgW:Ins→Prop
 | .set r _=>r<8
 | .mov r s=>r<8∧s<8
 | .alu o r s t=>o≤2∧r<8∧s<8∧t<8
 | .inc r _=>r<8
 | .load r s=>r<8∧s<8
 | .store r s=>r<8∧s<8
 | .read r=>r<8
 | .write r=>r<8
 | .less r s _=>r<8∧s<8
 | .same r s _=>r<8∧s<8
 | _=>True
def zaW(i:Ins)(m:Mc):Mc:=if(exec i (m.at'+1) m).fin=1∨(exec i (m.at'+1) m).fin=2 then{ exec i (m.at'+1) m with at':=m.at' } else exec i (m.at'+1) m
theorem zai{i:Ins}{m:Mc}(h:(exec i (m.at'+1) m).fin=m.fin∨2<(exec i (m.at'+1) m).fin)(h0:m.fin=0):zaW i m=exec i (m.at'+1) m:=by
 unfold zaW;rw [if_neg (by omega)]
structure InvC(m:Mc):Prop where
 at0:0≤m.at'
 at1:m.at'≤1000
 frames:m.frames=(m.backs.length:Int)+1
 few:m.backs.length≤15
 peak:∃ p:Nat,m.peak=(p:Int)∧p≤16
 steps:0≤m.steps
 out:(m.out.length:Int)≤m.steps
def zjj(w:World)(b:Nat)(m2:Mc):Ending→World→Prop:=fun e w'=>e=.returned (.tuple #[])∧∃ bv iv ov,MchAt w' b m2 bv iv ov∧Below b w w'
theorem MchAt.done{w:World}{b f:Nat}{args:Array Value}{m m2:Mc}{bv iv ov:Value}(M:MchAt w b m bv iv ov)(e1:m2.backs=m.backs)(e2:m2.out=m.out)(e3:m2.inp=m.inp)
  (h:Calls Tryz.prog f args w fun e w'=>e=.returned (.tuple #[])∧MchM w' b bv iv ov m2∧w.grownBy w' (some b)):Calls Tryz.prog f args w (zjj w b m2):=by
 refine h.mono ?_
 rintro e w' ⟨h1,hM,hg⟩
 obtain⟨h2,h3⟩:=M.same hM hg e1 e2 e3
 exact⟨h1,_,_,_,h2,h3⟩
theorem zmV{w:World}{b r:Nat}{m:Mc}{bv iv ov:Value}(hr:r<8)(M:MchAt w b m bv iv ov)(I:InvC m)(hst:m.steps≤99999)(hin:m.inp.length≤9223372036854775807):
  Calls Tryz.prog 259 #[.agg #[.int .i64 (r:Int)],.pointer (some ⟨b,0,none⟩)] w (zjj w b (exec (.read r) (m.at'+1) m)):=by
 have h0:=I.steps
 have ha:=I.at0
 have hb:=I.at1
 obtain⟨ao,cap,rfl,hcap,hl⟩:=M.inp
 cases hi:m.inp with
 | nil =>
  have hz:m.inp.length=0:=by rw [hi];rfl
  have hm:=M.mem
  rw [hz] at hm
  have e1:exec (.read r) (m.at'+1) m={ m with regs:=upd m.regs r 0 }.goes (m.at'+1):=by simp [exec,hi,Mc.goes]
  rw [e1]
  refine(zlp w b cap r bv ov ao m hr hm h0 (by omega) ha (by omega)).mono ?_
  rintro e w' ⟨h1,hM,hg⟩
  rw [←hz] at hM
  obtain⟨h2,h3⟩:=M.same hM hg rfl rfl rfl
  exact⟨h1,_,_,_,h2,h3⟩
 | cons x l =>
  obtain⟨g,o,rfl,hgb,hgs,hc⟩:=hl (by rw [hi];simp)
  have hz:m.inp.length=l.length+1:=by rw [hi];rfl
  have hm:=M.mem
  rw [hz] at hm
  have hx:w.cell? ⟨g,o,none⟩=some (.int .i64 x):=by
   have:=hc 0 (by omega)
   rw [Nat.add_zero] at this
   rw [this]
   simp [hi]
  have e1:exec (.read r) (m.at'+1) m={ m with regs:=upd m.regs r x,inp:=l }.goes (m.at'+1):=by simp [exec,hi,Mc.goes]
  rw [e1]
  refine(zlq w b cap r g o l.length bv ov m x l hr hm hx (by omega) (by omega) h0 (by omega) ha (by omega)).mono ?_
  rintro e w' ⟨h1,⟨o',hM,ho⟩,hg⟩
  have hB:=zcW M.mem.lt hg
  refine⟨h1,_,_,_,⟨hM,M.backs.kept hg (.inr (zaY M.backs)),M.out.kept hg (.inr (zaY M.out)),?_⟩,hB⟩
  refine⟨some ⟨g,o',none⟩,cap-1,rfl,by show l.length≤cap-1;omega,fun hp=>⟨g,o',rfl,hgb,Nat.lt_of_lt_of_le hgs hB.size,fun j hj=>?_⟩⟩
  rcases ho with ho|rfl
  ·have:0<l.length:=hp
   omega
  ·have hj2:j<l.length:=hj
   have:=hc (j+1) (by omega)
   rw [show o+(j+1)=o+1+j by omega] at this
   rw [(hB.cell (p:=⟨g,o+1+j,none⟩) hgb).trans this]
   simp [hi,Mc.goes]
theorem zls{w:World}{b r:Nat}{m:Mc}{bv iv ov:Value}(hr:r<8)(M:MchAt w b m bv iv ov)(I:InvC m)(hst:m.steps≤99999):
  Calls Tryz.prog 262 #[.agg #[.int .i64 (r:Int)],.pointer (some ⟨b,0,none⟩)] w (zjj w b (exec (.write r) (m.at'+1) m)):=by
 have h0:=I.steps
 have ha:=I.at0
 have hb:=I.at1
 have hlen:=I.out
 refine(zva w b r bv iv ov m hr M.mem M.out (by omega) h0 (by omega) ha (by omega)).mono ?_
 rintro e w' ⟨h1,v',w4,hM,how,hg4,hg⟩
 have hb4:Below b w w4:=(Below.refl b w).grown hg4 (by have:=M.mem.lt;omega) (fun q hq=>by have:=(M.out.lt q hq).1;omega)
 have hB:Below b w w':=hb4.trans ((Below.refl b w4).grown hg (by have:=hb4.size;have:=M.mem.lt;omega) (fun j hj=>by cases hj;exact Nat.le_refl _))
 refine⟨h1,_,_,_,⟨hM,?_,?_,M.inp.below hB⟩,hB⟩
 ·exact(M.backs.kept hg4 (zdJ M.backs M.out (by decide))).kept hg (.inr (zaY M.backs))
 ·have:=how.kept hg (.inr (zaY how))
  show World.ownsRow _ (b+1) 2 1 _ (m.out++[m.regs r]).length (i64s (m.out++[m.regs r]))
  rw [List.length_append]
  exact this
theorem zmW{w:World}{b:Nat}{m:Mc}{bv iv ov:Value}(to:Int)(M:MchAt w b m bv iv ov)(I:InvC m)(hfin:m.fin=0)(hst:m.steps≤99999):
  Calls Tryz.prog 279 #[.agg #[.int .i64 to],.pointer (some ⟨b,0,none⟩)] w (zjj w b (exec (.call to) (m.at'+1) m)):=by
 have h0:=I.steps
 have ha:=I.at0
 have hb:=I.at1
 have hfr:=I.frames
 have hfew:=I.few
 obtain⟨p,hp,hp1⟩:=I.peak
 obtain⟨ao,c,rfl⟩:=zb8 M.backs
 have h2:(m.fin == 2)=false:=by rw [hfin];rfl
 by_cases hf:m.frames=16
 ·have e1:exec (.call to) (m.at'+1) m={ m with fin:=4 }:=if_pos hf
  rw [e1]
  have hz:m.backs.length=15:=by omega
  have hm:=M.mem
  rw [hz] at hm
  refine(zlr w b c ao iv ov m to hm h2).mono ?_
  rintro e w' ⟨h1,hM,hg⟩
  rw [←hz] at hM
  obtain⟨h2,h3⟩:=M.same hM hg rfl rfl rfl
  exact⟨h1,_,_,_,h2,h3⟩
 ·have e1:exec (.call to) (m.at'+1) m={ m with backs:=m.backs++[m.at'+1],frames:=m.frames+1,peak:=max m.peak (m.frames+1) }.goes to:=if_neg hf
  rw [e1]
  have hpk:max m.peak (m.frames+1)=max m.peak ((m.backs.length:Int)+2):=by rw [hfr,Int.add_assoc];rfl
  rw [hpk]
  refine(zpT w b c ao iv ov m to p M.mem h2 M.backs (by omega) hp hp1 h0 (by omega) ha (by omega)).mono ?_
  rintro e w' ⟨h1,g,c',w4,hM,how,hg4,hg⟩
  have hb4:Below b w w4:=(Below.refl b w).grown hg4 (by have:=M.mem.lt;omega) (fun q hq=>by have:=(M.backs.lt q hq).1;omega)
  have hB:Below b w w':=hb4.trans ((Below.refl b w4).grown hg (by have:=hb4.size;have:=M.mem.lt;omega) (fun j hj=>by cases hj;exact Nat.le_refl _))
  refine⟨h1,_,_,_,⟨hM.frames (m.frames+1),?_,?_,M.inp.below hB⟩,hB⟩
  ·have:=how.kept hg (.inr (zaY how))
   show World.ownsRow _ (b+1) 3 1 _ (m.backs++[m.at'+1]).length (i64s (m.backs++[m.at'+1]))
   rw [List.length_append]
   exact this
  ·exact(M.out.kept hg4 (zdJ M.out M.backs (by decide))).kept hg (.inr (zaY M.out))
theorem zmX{w:World}{b:Nat}{m:Mc}{bv iv ov:Value}(M:MchAt w b m bv iv ov)(I:InvC m)(hfin:m.fin=0)(hst:m.steps≤99999):
  Calls Tryz.prog 284 #[.agg #[],.pointer (some ⟨b,0,none⟩)] w (zjj w b (zaW .back m)):=by
 have h0:=I.steps
 have hfr:=I.frames
 have hfew:=I.few
 by_cases hf:m.frames=1
 ·have hz:m.backs.length=0:=by omega
  have e0:exec .back (m.at'+1) m={ m with frames:=0,fin:=2 }.goes (-1):=if_pos hf
  have e1:zaW .back m={ m with steps:=m.steps+1,frames:=0,fin:=2 }:=by
   unfold zaW;rw [e0,if_pos (.inr rfl)];rfl
  rw [e1]
  obtain⟨ao,c,rfl⟩:=zb8 M.backs
  have hm:=M.mem
  rw [hz] at hm
  refine(zmU w b c ao iv ov m hm h0 (by omega)).mono ?_
  rintro e w' ⟨h1,hM,hg⟩
  rw [←hz] at hM
  obtain⟨h2,h3⟩:=M.same (hM.frames 0) hg rfl rfl rfl
  exact⟨h1,_,_,_,h2,h3⟩
 ·have e0:exec .back (m.at'+1) m={ m with frames:=m.frames-1,backs:=m.backs.dropLast }.goes (m.backs.getLastD 0):=if_neg hf
  have e1:zaW .back m={ m with frames:=m.frames-1,backs:=m.backs.dropLast }.goes (m.backs.getLastD 0):=by
   rw [zai (.inl (by rw [e0];rfl)) hfin,e0]
  rw [e1]
  obtain⟨I',x,hI⟩:∃ I x,m.backs=I++[x]:=by
   rcases List.eq_nil_or_concat m.backs with h|⟨I,x,h⟩
   ·rw [h] at hfr;simp at hfr;omega
   ·exact⟨I,x,by rw [h,List.concat_eq_append]⟩
  have hrow:=M.backs
  have hIl:m.backs.length=I'.length+1:=by rw [hI];simp
  rw [hIl] at hrow
  obtain⟨gb,c,hbv,hgb,hgl⟩:=hrow.form (by omega)
  have hcap:I'.length+1≤c:=by
   rcases hrow.2 with ⟨h',_⟩|⟨g',cap',cur,h',_,_,hnc,_⟩
   ·rw [hbv] at h';simp at h'
   ·rw [hbv] at h';simp at h';omega
  have hcell:w.cell? ⟨gb,I'.length,none⟩=some (.int .i64 x):=by
   rw [hbv] at hrow
   rw [World.ownsRow.cellAt hrow I'.length (by omega),hI]
   simp
  have hlast:m.backs.getLastD 0=x:=by rw [hI];simp
  rw [hlast]
  have hm:=M.mem
  rw [hbv] at hm
  refine(zpU w b c gb I'.length iv ov m x m.backs.dropLast hm hcell (by omega) (by omega) hcap h0 (by omega)).mono ?_
  rintro e w' ⟨h1,hM,hg⟩
  have hb:=zcW M.mem.lt hg
  refine⟨h1,_,_,_,⟨hM.frames (m.frames-1),?_,M.out.kept hg (.inr (zaY M.out)),M.inp.below hb⟩,hb⟩
  have hk:=hrow.kept hg (.inr (zaY hrow))
  rw [hbv] at hk
  show World.ownsRow _ (b+1) 3 1 _ m.backs.dropLast.length (i64s m.backs.dropLast)
  rw [hI] at hk ⊢
  simp only [List.dropLast_concat]
  exact zof hk
theorem zyk{w:World}{b:Nat}{m:Mc}{bv iv ov:Value}(i:Ins)(hi:zgW i)(M:MchAt w b m bv iv ov)(I:InvC m)(hfin:m.fin=0)(hst:m.steps≤99999)(hin:m.inp.length≤9223372036854775807):
  Calls Tryz.prog (insF i) #[.agg (insA i),.pointer (some ⟨b,0,none⟩)] w (zjj w b (zaW i m)):=by
 have h0:=I.steps
 have ha:=I.at0
 have hb:=I.at1
 cases i with
 | set r k=>rw [zai (.inl rfl) hfin];exact M.done rfl rfl rfl (zye w b bv iv ov m r hi k M.mem h0 (by omega) ha (by omega))
 | mov r s=>rw [zai (.inl rfl) hfin];exact M.done rfl rfl rfl (zyf w b bv iv ov m r s hi.1 hi.2 M.mem h0 (by omega) ha (by omega))
 | alu o r s t =>
  rw [zai (.inl rfl) hfin]
  obtain⟨ho,hr,hs,ht⟩:=hi
  match o,ho with
  | 0,_=>exact M.done rfl rfl rfl (zyg w b bv iv ov m r s t hr hs ht M.mem h0 (by omega) ha (by omega))
  | 1,_=>exact M.done rfl rfl rfl (zyh w b bv iv ov m r s t hr hs ht M.mem h0 (by omega) ha (by omega))
  | 2,_=>exact M.done rfl rfl rfl (zyi w b bv iv ov m r s t hr hs ht M.mem h0 (by omega) ha (by omega))
 | inc r k=>rw [zai (.inl rfl) hfin];exact M.done rfl rfl rfl (zyj w b bv iv ov m r hi k M.mem h0 (by omega) ha (by omega))
 | load r s =>
  by_cases hn:m.regs s<0∨15<m.regs s
  ·have e1:exec (.load r s) (m.at'+1) m={ m with fin:=3 }:=if_pos hn
   have hd:=zmS w b bv iv ov m r s hi.1 hi.2 M.mem hn
   rw [zai (.inr (by rw [e1];show(2:Int)<3;decide)) hfin]
   rw [e1] at hd ⊢
   exact M.done rfl rfl rfl hd
  ·obtain⟨n,hn'⟩:=Int.eq_ofNat_of_zero_le (by omega:0≤m.regs s)
   have e1:exec (.load r s) (m.at'+1) m={ m with regs:=upd m.regs r (m.cells (m.regs s).toNat) }.goes (m.at'+1):=if_neg hn
   have hd:=zpQ w b bv iv ov m r s n hi.1 hi.2 (by omega) hn' M.mem h0 (by omega) ha (by omega)
   rw [zai (.inl (by rw [e1];rfl)) hfin]
   rw [e1] at hd ⊢
   exact M.done rfl rfl rfl hd
 | store r s =>
  by_cases hn:m.regs r<0∨15<m.regs r
  ·have e1:exec (.store r s) (m.at'+1) m={ m with fin:=3 }:=if_pos hn
   have hd:=zlo w b bv iv ov m r s hi.1 hi.2 M.mem hn
   rw [zai (.inr (by rw [e1];show(2:Int)<3;decide)) hfin]
   rw [e1] at hd ⊢
   exact M.done rfl rfl rfl hd
  ·obtain⟨n,hn'⟩:=Int.eq_ofNat_of_zero_le (by omega:0≤m.regs r)
   have e1:exec (.store r s) (m.at'+1) m={ m with cells:=upd m.cells (m.regs r).toNat (m.regs s) }.goes (m.at'+1):=if_neg hn
   have hd:=zmT w b bv iv ov m r s n hi.1 hi.2 (by omega) hn' M.mem h0 (by omega) ha (by omega)
   rw [zai (.inl (by rw [e1];rfl)) hfin]
   rw [e1] at hd ⊢
   exact M.done rfl rfl rfl hd
 | read r=>rw [zai (.inl rfl) hfin];exact zmV hi M I hst hin
 | write r=>rw [zai (.inl rfl) hfin];exact zls hi M I hst
 | jump to=>rw [zai (.inl rfl) hfin];exact M.done rfl rfl rfl (zxc w b bv iv ov m to M.mem h0 (by omega))
 | less r s to=>rw [zai (.inl rfl) hfin];exact M.done rfl rfl rfl (zxd w b bv iv ov m r s hi.1 hi.2 to M.mem h0 (by omega) ha (by omega))
 | same r s to=>rw [zai (.inl rfl) hfin];exact M.done rfl rfl rfl (zxe w b bv iv ov m r s hi.1 hi.2 to M.mem h0 (by omega) ha (by omega))
 | call to =>
  have hc:=zmW to M I hfin hst
  rw [zai ?_ hfin]
  ·exact hc
  ·simp only [exec]
   split
   ·exact .inr (by show(2:Int)<4;decide)
   ·exact .inl rfl
 | back=>exact zmX M I hfin hst
 | stop =>
  have e1:zaW .stop m={ m with steps:=m.steps+1,fin:=1 }:=by
   unfold zaW;rw [show exec .stop (m.at'+1) m={ m with fin:=1 }.goes (-1) from rfl,if_pos (.inl rfl)];rfl
  rw [e1]
  exact M.done rfl rfl rfl (zxf w b bv iv ov m M.mem h0 (by omega))
end Go.Proofs.YtfpgjkbjbbgciaaGreatDoor
