import Derived.Test.YtfpgjkbjbbgciaaGreatDoorMk13
import Derived.Test.YtfpgjkbjbbgciaaGreatDoorMk17
set_option maxRecDepth 100000
set_option maxHeartbeats 8000000
namespace Go.Proofs.YtfpgjkbjbbgciaaGreatDoor
section
open Go.RowKit Sp
attribute [local go_sem ↓] Go.wp_at_zero Go.wp_at_succ
theorem zlE(w:World)(b c r:Nat)(bv ov:Value)(ao:Option Addr)(m:Mc)(hr:r<8)(h:MchM w b bv (.slice ao 0 c) ov m)(h0:0≤m.steps)(h1:m.steps≤100000)(ha:0≤m.at')(hb:m.at'≤100000):
  Calls Tryz.prog 259 #[.agg #[.int .i64 (r:Int)],.pointer (some ⟨b,0,none⟩)] w fun e w'=>e=.returned (.tuple #[])∧MchM w' b bv (.slice ao 0 c) ov ({ m with regs:=upd m.regs r 0 }.goes (m.at'+1))∧w.grownBy w' (some b):=by
 have hl:=h.lt;have d:=h.alloc (.cells #[.int .i64 (r:Int)] 180);have hcr:=d.cR r hr;have hr0:(0:Int)≤(r:Int):=by omega
 have hr8:(r:Int)<8:=by omega
 have i:=fun n=>(d.drewN n).setR r hr 0;have hfz:=d.fz r;have a:=fun n=>zqn ((w.alloc (.cells #[.int .i64 (r:Int)] 180)).drewN n) b c bv ov ao m (d.drewN n);have hne4:¬w.heap.size=b:=by omega
 have hne5:¬b=w.heap.size:=by omega
 go_enter Tryz.func259,Tryz.ntmps259;go_wp2_with fail
 refine zan 8 (by kernel_rfl) (by kernel_rfl) ?_;simp only [List.take_succ_cons,List.take_zero,List.drop_succ_cons,List.drop_zero];repeat(go_big_quiet_step (first|(go_at_call 261;exact Calls.quiet_of_same (a _))))
 refine wpQuiet_nil ?_;rintro _ ⟨j,rfl⟩;go_wp2_with(first|(go_at_call 225;refine(zbC _ b bv _ ov _ (i j) h0 h1 ha hb).mono ?_;rintro e w2 ⟨rfl,f,g⟩))
 go_end0
 exact⟨rfl,f,zai zaG g⟩
theorem zvX(w:World)(b r:Nat)(bv iv ov:Value)(m:Mc)(hr:r<8)(h:MchM w b bv iv ov m)(hown:w.ownsRow (b+1) 2 1 ov m.out.length (i64s m.out))(hlen:m.out.length≤100000)(h0:0≤m.steps)(h1:m.steps≤100000)(ha:0≤m.at')(hb:m.at'≤100000):
  Calls Tryz.prog 262 #[.agg #[.int .i64 (r:Int)],.pointer (some ⟨b,0,none⟩)] w fun e w'=>e=.returned (.tuple #[]) ∧
   ∃ v' w4,MchM w' b bv iv v' (exec (.write r) (m.at'+1) m)∧w4.ownsRow (b+1) 2 1 v' (m.out.length+1) (i64s (m.out++[m.regs r]))∧w.grownBy w4 ov.ownBlock∧w4.grownBy w' (some b):=by
 have hl:=h.lt;have i:=h.alloc (.cells #[.int .i64 (r:Int)] 182);have hcr:=i.cR r hr;have hr0:(0:Int)≤(r:Int):=by omega
 have hr8:(r:Int)<8:=by omega
 have hne4:¬w.heap.size=b:=by omega
 have hne5:¬b=w.heap.size:=by omega
 have a:=fun n=>zqy ((w.alloc (.cells #[.int .i64 (r:Int)] 182)).drewN n) b (b+1) bv iv ov m (m.regs r) (i.drewN n) (hown.alloc _) (zcQ hown) (by show b+1≤(w.alloc _).heap.size;simp;omega) hlen;go_enter Tryz.func262,Tryz.ntmps262;go_wp2_with fail
 refine zan 8 (by kernel_rfl) (by kernel_rfl) ?_;simp only [List.take_succ_cons,List.take_zero,List.drop_succ_cons,List.drop_zero];repeat(go_big_quiet_step (fail))
 refine wpQuiet_nil ?_;rintro _ ⟨l,rfl⟩;go_wp2_with(first|(go_at_call 264;refine(a l).mono ?_;rintro e w3 ⟨rfl,v',w4,d,c,g,f⟩)|(go_at_call 225;refine(zbC _ b bv iv v' _ d h0 h1 ha hb).mono ?_;rintro e w2 ⟨rfl,j,k⟩))
 go_end0
 exact⟨rfl,v',w4,j,c,(World.grownBy_alloc w _ _).trans (zb2 g),zai f k⟩
theorem zlF(w:World)(b c r g o n:Nat)(bv ov:Value)(m:Mc)(x:Int)(l:List Int)(hr:r<8)(h:MchM w b bv (.slice (some ⟨g,o,none⟩) (n+1) c) ov m)(hx:w.cell? ⟨g,o,none⟩=some (.int .i64 x))(hn:n≤9223372036854775806)(hc:n+1≤c)(h0:0≤m.steps)(h1:m.steps≤100000)(ha:0≤m.at')(hb:m.at'≤100000):
  Calls Tryz.prog 259 #[.agg #[.int .i64 (r:Int)],.pointer (some ⟨b,0,none⟩)] w fun e w'=>e=.returned (.tuple #[])∧(∃ o',MchM w' b bv (.slice (some ⟨g,o',none⟩) n (c-1)) ov ({ m with regs:=upd m.regs r x,inp:=l }.goes (m.at'+1))∧(n=0∨o'=o+1))∧w.grownBy w' (some b):=by
 have hl:=h.lt;have j:g<w.heap.size:=World.block_lt_of_cell? w _ hx;have i:=h.alloc (.cells #[.int .i64 (r:Int)] 180);have hr0:(0:Int)≤(r:Int):=by omega
 have hr8:(r:Int)<8:=by omega
 have k:(w.alloc (.cells #[.int .i64 (r:Int)] 180)).cell? ⟨g,o,none⟩=some (.int .i64 x):=(World.cell?_alloc_lt w _ _ j).trans hx;have f:=zqo ((w.alloc (.cells #[.int .i64 (r:Int)] 180)).drew) b c g o n bv ov m x l i.drew k hn hc;have hne4:¬w.heap.size=b:=by omega
 have hne5:¬b=w.heap.size:=by omega
 have hcr:=i.cR r hr;have hfr:=i.fz r;go_enter Tryz.func259,Tryz.ntmps259;go_wp2_with fail
 go_region_with(go_at_call 261;refine f.mono ?_;rintro e t ⟨rfl,⟨o',d,s⟩,a⟩;have hc3:=d.cR r hr;have hf3:=d.fz r;have hq3:t.cell? ⟨w.heap.size,0,none⟩=some (.int .i64 (r:Int)):=(a.cell_far ⟨w.heap.size,0,none⟩ (by show w.heap.size<(w.alloc _).heap.size;simp) (by simp;omega)).trans (by show(w.alloc _).cell? _=_;simp))
 all_goals go_wp2_with(first|(go_at_call 225;refine(zbC _ b bv _ ov _ (d.setR r hr x) h0 h1 ha hb).mono ?_;rintro e w2 ⟨rfl,p,q⟩))
 all_goals go_end0
 all_goals exact⟨rfl,⟨o',p,s⟩,zai (World.grownBy_alloc w _ _) (zai ⟨a.os,a.tape,a.output,a.size,a.block⟩ (zai (zah (Below.refl _ _)) q))⟩
end
section
open Go.RowKit Sp
attribute [local go_sem ↓] Go.wp_at_zero Go.wp_at_succ
theorem zvY(w:World)(b c:Nat)(ao:Option Addr)(iv ov:Value)(m:Mc)(to:Int)(p:Nat)(h:MchM w b (.slice ao m.backs.length c) iv ov m)(h2:(m.fin == 2)=false)(hown:w.ownsRow (b+1) 3 1 (.slice ao m.backs.length c) m.backs.length (i64s m.backs))(hlen:m.backs.length<15)(hp:m.peak=(p:Int))(_hp1:p≤16)
  (h0:0≤m.steps) (h1:m.steps≤100000) (ha:0≤m.at') (hb:m.at'≤100000) :
  Calls Tryz.prog 281 #[.pointer (some ⟨b,0,none⟩),.int .i64 to] w fun e w'=>e=.returned (.tuple #[]) ∧
   ∃ g c' w4,MchM w' b (.slice (some ⟨g,0,none⟩) (m.backs.length+1) c') iv ov ({ m with backs:=m.backs++[m.at'+1],peak:=max m.peak ((m.backs.length:Int)+2) }.goes to)∧w4.ownsRow (b+1) 3 1 (.slice (some ⟨g,0,none⟩) (m.backs.length+1) c') (m.backs.length+1) (i64s (m.backs++[m.at'+1]))∧w.grownBy w4 ((Value.slice ao m.backs.length c).ownBlock)∧w4.grownBy w' (some b):=by
 have hpk:max m.peak ((m.backs.length:Int)+2)=max (p:Int) ((m.backs.length:Int)+1+1):=by rw [hp,Int.add_assoc];rfl
 rw [hpk];have q:=zcQ hown;have x:=zeD w b _ c ao iv ov m h (by omega) h2;have s:=h.cB;have u:=h.cN;have f:=h.fz 27;have G:=h.lt;obtain⟨L,A,D,E,F⟩:=info_parts Tryz.info3;generalize hbv:Value.slice ao m.backs.length c=bv at h hown q s x;have d:some b≠bv.ownBlock:=fun e=>q e.symm;have hne4:¬w.heap.size=b:=by omega
 have hne5:¬b=w.heap.size:=by omega
 have r:(((m.backs.length:Int)+1) == 16)=false:=by simp;omega
 have hw1:IntKind.i64.wrap (m.at'+1)=m.at'+1:=zd6 _ (by omega) (by omega);go_enter Tryz.func281,Tryz.ntmps281;go_wp2_with(first|(go_at_call 110;refine x.mono ?_;rintro e wx ⟨rfl,C⟩;have B:=C.symm;subst B))
 go_region_law
  ((refine step_append_lies _ (by rfl) _ _ _ (by rfl) (b+1) 3 L _ 1 8 Tryz.under59 A D E F rfl (by omega) bv m.backs.length (i64s m.backs) (by rfl) ((hown.alloc _).drew)
     ⟨w.heap.size,0,none⟩ 1 1 [.int .i64 (m.at'+1)] (by rfl) (by rfl) (World.news_of_block (cs:=#[.int .i64 (m.at'+1)]) (t:=3) (fr:=(0,0)) (zpk w _ _)) (by simp [Value.oneCell'])
     (by omega) (by unfold maxLen;omega) (by omega) (by simp;omega) (w.heap.size+1) (by simp) ?_;intro g c' i j a hat hltg;have y:i.frozen? ⟨b,27,none⟩=false:=(a.frozen_far _ (by simp;omega) d).trans ((zjN w _ _ G).trans f);have v:i.cell? ⟨b,27,none⟩=some bv:=(a.cell_far _ (by simp;omega) d).trans ((zh1 w _ _ G).trans s)))
 all_goals have I:MchM i b bv iv ov m:=h.of_block ((a.block b (by simp;omega) d).trans (Below.heap_alloc _ _ _ G))
 all_goals have k:=I.setB (.slice (some ⟨g,0,none⟩) (m.backs.length+1) c') (m.backs++[m.at'+1])
 all_goals have z:w.grownBy i bv.ownBlock:=zip a
 all_goals have o:i.grownBy (i.setCell ⟨b,27,none⟩ (.slice (some ⟨g,0,none⟩) (m.backs.length+1) c')) (some b):=zah (Below.refl _ _)
 all_goals clear y v s f u x r
 all_goals generalize i.setCell ⟨b,27,none⟩ (.slice (some ⟨g,0,none⟩) (m.backs.length+1) c')=w5 at k o ⊢
 all_goals have l:=fun n=>zeD (w5.drewN n) b (m.backs.length+1) c' _ iv ov _ (k.drewN n) (by omega) h2
 all_goals simp only [Int.natCast_add,Int.cast_ofNat_Int] at l
 all_goals have hcp:=k.cP
 all_goals have hfp:=k.fz 29
 all_goals go_wp2_with fail
 all_goals refine zan 10 (by kernel_rfl) (by kernel_rfl) ?_
 all_goals simp only [List.take_succ_cons,List.take_zero,List.drop_succ_cons,List.drop_zero]
 all_goals repeat(go_big_quiet_step (first|(go_at_call 110;exact Calls.quiet_of_same (l _))))
 all_goals refine wpQuiet_nil ?_
 all_goals rintro _ ⟨H,rfl⟩
 all_goals go_wp2_with(first|(go_at_call 228;refine(zeo _ b _ iv ov _ to ((k.drewN H).setP (max (p:Int) ((m.backs.length:Int)+1+1))) h0 h1).mono ?_;rintro e w2 ⟨rfl,J,K⟩))
 all_goals go_end0
 all_goals exact⟨rfl,g,c',i,J,by simpa [i64s] using j,z,zai o (zai (zb2 (n:=H) (zah (Below.refl _ _))) K)⟩
theorem zlG(w:World)(b c:Nat)(ao:Option Addr)(iv ov:Value)(m:Mc)(to:Int)(h:MchM w b (.slice ao 15 c) iv ov m)(h2:(m.fin == 2)=false):
  Calls Tryz.prog 279 #[.agg #[.int .i64 to],.pointer (some ⟨b,0,none⟩)] w fun e w'=>e=.returned (.tuple #[])∧MchM w' b (.slice ao 15 c) iv ov { m with fin:=4 }∧w.grownBy w' (some b):=by
 have a:=h.alloc (.cells #[.int .i64 to] 190);go_enter Tryz.func279,Tryz.ntmps279;go_wp2_with(first|(go_at_call 281;refine(zqz _ b c ao iv ov m to a h2).mono ?_;rintro e w2 ⟨rfl,d,f⟩))
 go_end0
 exact⟨rfl,d,zai (World.grownBy_alloc w _ _) f⟩
theorem zq0(w:World)(b c:Nat)(ao:Option Addr)(iv ov:Value)(m:Mc)(to:Int)(p:Nat)(h:MchM w b (.slice ao m.backs.length c) iv ov m)(h2:(m.fin == 2)=false)(hown:w.ownsRow (b+1) 3 1 (.slice ao m.backs.length c) m.backs.length (i64s m.backs))(hlen:m.backs.length<15)(hp:m.peak=(p:Int))(hp1:p≤16)
  (h0:0≤m.steps) (h1:m.steps≤100000) (ha:0≤m.at') (hb:m.at'≤100000) :
  Calls Tryz.prog 279 #[.agg #[.int .i64 to],.pointer (some ⟨b,0,none⟩)] w fun e w'=>e=.returned (.tuple #[]) ∧
   ∃ g c' w4,MchM w' b (.slice (some ⟨g,0,none⟩) (m.backs.length+1) c') iv ov ({ m with backs:=m.backs++[m.at'+1],peak:=max m.peak ((m.backs.length:Int)+2) }.goes to)∧w4.ownsRow (b+1) 3 1 (.slice (some ⟨g,0,none⟩) (m.backs.length+1) c') (m.backs.length+1) (i64s (m.backs++[m.at'+1]))∧w.grownBy w4 ((Value.slice ao m.backs.length c).ownBlock)∧w4.grownBy w' (some b):=by
 have f:=h.alloc (.cells #[.int .i64 to] 190);go_enter Tryz.func279,Tryz.ntmps279;go_wp2_with(first|(go_at_call 281;refine(zvY _ b c ao iv ov m to p f h2 (hown.alloc _) hlen hp hp1 h0 h1 ha hb).mono ?_;rintro e w2 ⟨rfl,g,c',w4,i,a,d,j⟩))
 go_end0
 exact⟨rfl,g,c',w4,i,a,(World.grownBy_alloc w _ _).trans d,j⟩
theorem zn4(w:World)(b c:Nat)(ao:Option Addr)(iv ov:Value)(m:Mc)(h:MchM w b (.slice ao 0 c) iv ov m)(h0:0≤m.steps)(h1:m.steps≤100000):
  Calls Tryz.prog 284 #[.agg #[],.pointer (some ⟨b,0,none⟩)] w fun e w'=>e=.returned (.tuple #[])∧MchM w' b (.slice ao 0 c) iv ov { m with steps:=m.steps+1,fin:=2 }∧w.grownBy w' (some b):=by
 have a:=h.alloc (.cells #[] 192);go_enter Tryz.func284,Tryz.ntmps284;go_wp2_with(first|(go_at_call 222;refine(zsS _ b c ao iv ov m a h0 h1).mono ?_;rintro e w2 ⟨rfl,d,f⟩))
 go_end0
 exact⟨rfl,d,zai (World.grownBy_alloc w _ _) f⟩
theorem zq1(w:World)(b c g n:Nat)(iv ov:Value)(m:Mc)(to:Int)(l:List Int)(h:MchM w b (.slice (some ⟨g,0,none⟩) (n+1) c) iv ov m)(hcg:w.cell? ⟨g,n,none⟩=some (.int .i64 to))(hgb:¬g=b)(hn:n≤16)(hc:n+1≤c)(h0:0≤m.steps)(h1:m.steps≤100000):
  Calls Tryz.prog 284 #[.agg #[],.pointer (some ⟨b,0,none⟩)] w fun e w'=>e=.returned (.tuple #[])∧MchM w' b (.slice (some ⟨g,0,none⟩) n c) iv ov ({ m with backs:=l }.goes to)∧w.grownBy w' (some b):=by
 have d:=h.alloc (.cells #[] 192);have a:(w.alloc (.cells #[] 192)).cell? ⟨g,n,none⟩=some (.int .i64 to):=(World.cell?_alloc_lt w _ _ (World.block_lt_of_cell? w _ hcg)).trans hcg;go_enter Tryz.func284,Tryz.ntmps284;go_wp2_with(first|(go_at_call 222;refine(zvW _ b c g n iv ov m to l d a hgb hn hc h0 h1).mono ?_;rintro e w2 ⟨rfl,f,i⟩))
 go_end0
 exact⟨rfl,f,zai (World.grownBy_alloc w _ _) i⟩
end
section
open Go.RowKit Sp
structure MchAt(w:World)(b:Nat)(m:Mc)(bv iv ov:Value):Prop where
 mem:MchM w b bv iv ov m
 backs:w.ownsRow (b+1) 3 1 bv m.backs.length (i64s m.backs)
 out:w.ownsRow (b+1) 2 1 ov m.out.length (i64s m.out)
 inp:SlB w b iv m.inp
theorem MchAt.same{w w':World}{b:Nat}{m m2:Mc}{bv iv ov:Value}(h:MchAt w b m bv iv ov)(hM:MchM w' b bv iv ov m2)(hg:w.grownBy w' (some b))(e1:m2.backs=m.backs)(e2:m2.out=m.out)(e3:m2.inp=m.inp):
  MchAt w' b m2 bv iv ov∧Below b w w':=by
 have a:=zfu h.mem.lt hg;refine⟨⟨hM,?_,?_,?_⟩,a⟩
 ·rw [e1];exact h.backs.kept hg (.inr (zcQ h.backs))
 ·rw [e2];exact h.out.kept hg (.inr (zcQ h.out))
 ·rw [e3];exact h.inp.below a
def insT:Ins→Nat
 | .set _ _=>167|.mov _ _=>169|.alu o _ _ _=>if o=0 then 171 else if o=1 then 172 else 173|.inc _ _=>174|.load _ _=>176|.store _ _=>178
 | .read _=>180|.write _=>182|.jump _=>185|.less _ _ _=>187|.same _ _ _=>188|.call _=>190|.back=>192|.stop=>193
def insF:Ins→Nat
 | .set _ _=>223|.mov _ _=>230|.alu o _ _ _=>if o=0 then 232 else if o=1 then 239 else 243|.inc _ _=>249|.load _ _=>251|.store _ _=>256
 | .read _=>259|.write _=>262|.jump _=>265|.less _ _ _=>267|.same _ _ _=>274|.call _=>279|.back=>284|.stop=>288
def insA:Ins→Array Value
 | .set r k=>#[.int .i64 (r:Int),.int .i64 k]
 | .mov r s=>#[.int .i64 (r:Int),.int .i64 (s:Int)]
 | .alu _ r s t=>#[.int .i64 (r:Int),.int .i64 (s:Int),.int .i64 (t:Int)]
 | .inc r k=>#[.int .i64 (r:Int),.int .i64 k]
 | .load r s=>#[.int .i64 (r:Int),.int .i64 (s:Int)]
 | .store r s=>#[.int .i64 (r:Int),.int .i64 (s:Int)]
 | .read r=>#[.int .i64 (r:Int)]
 | .write r=>#[.int .i64 (r:Int)]
 | .jump to=>#[.int .i64 to]
 | .less r s to=>#[.int .i64 (r:Int),.int .i64 (s:Int),.int .i64 to]
 | .same r s to=>#[.int .i64 (r:Int),.int .i64 (s:Int),.int .i64 to]
 | .call to=>#[.int .i64 to]
 | .back=>#[]
 | .stop=>#[]
def zhs:Ins→Prop
 | .set r _=>r<8
 | .mov r s=>r<8∧s<8
 | .alu o r s t=>o≤2∧r<8∧s<8∧t<8
 | .inc r _=>r<8
 | .load r s=>r<8∧s<8
 | .store r s=>r<8∧s<8
 | .read r=>r<8
 | .write r=>r<8
 | .less r s _=>r<8∧s<8
 | .same r s _=>r<8∧s<8
 | _=>True
def za2(i:Ins)(m:Mc):Mc:=if(exec i (m.at'+1) m).fin=1∨(exec i (m.at'+1) m).fin=2 then{ exec i (m.at'+1) m with at':=m.at' } else exec i (m.at'+1) m
theorem zag{i:Ins}{m:Mc}(h:(exec i (m.at'+1) m).fin=m.fin∨2<(exec i (m.at'+1) m).fin)(h0:m.fin=0):za2 i m=exec i (m.at'+1) m:=by
 unfold za2;rw [if_neg (by omega)]
structure InvC(m:Mc):Prop where
 at0:0≤m.at'
 at1:m.at'≤1000
 frames:m.frames=(m.backs.length:Int)+1
 few:m.backs.length≤15
 peak:∃ p:Nat,m.peak=(p:Int)∧p≤16
 steps:0≤m.steps
 out:(m.out.length:Int)≤m.steps
def zjO(w:World)(b:Nat)(m2:Mc):Ending→World→Prop:=fun e w'=>e=.returned (.tuple #[])∧∃ bv iv ov,MchAt w' b m2 bv iv ov∧Below b w w'
theorem MchAt.done{w:World}{b f:Nat}{args:Array Value}{m m2:Mc}{bv iv ov:Value}(M:MchAt w b m bv iv ov)(e1:m2.backs=m.backs)(e2:m2.out=m.out)(e3:m2.inp=m.inp)
  (h:Calls Tryz.prog f args w fun e w'=>e=.returned (.tuple #[])∧MchM w' b bv iv ov m2∧w.grownBy w' (some b)):Calls Tryz.prog f args w (zjO w b m2):=by
 refine h.mono ?_;rintro e w' ⟨a,g,i⟩;obtain⟨c,d⟩:=M.same g i e1 e2 e3;exact⟨a,_,_,_,c,d⟩
theorem zn5{w:World}{b r:Nat}{m:Mc}{bv iv ov:Value}(hr:r<8)(M:MchAt w b m bv iv ov)(I:InvC m)(hst:m.steps≤99999)(hin:m.inp.length≤9223372036854775807):
  Calls Tryz.prog 259 #[.agg #[.int .i64 (r:Int)],.pointer (some ⟨b,0,none⟩)] w (zjO w b (exec (.read r) (m.at'+1) m)):=by
 have q:=I.steps;have s:=I.at0;have hb:=I.at1;obtain⟨z,a,rfl,hcap,D⟩:=M.inp;cases hi:m.inp with
 | nil =>
  have v:m.inp.length=0:=by rw [hi];rfl
  have f:=M.mem;rw [v] at f;have A:exec (.read r) (m.at'+1) m={ m with regs:=upd m.regs r 0 }.goes (m.at'+1):=by simp [exec,hi,Mc.goes]
  rw [A];refine(zlE w b a r bv ov z m hr f q (by omega) s (by omega)).mono ?_;rintro e F ⟨i,h,c⟩;rw [←v] at h;obtain⟨B,C⟩:=M.same h c rfl rfl rfl;exact⟨i,_,_,_,B,C⟩
 | cons x l =>
  obtain⟨g,o,rfl,d,n,t⟩:=D (by rw [hi];simp);have v:m.inp.length=l.length+1:=by rw [hi];rfl
  have f:=M.mem;rw [v] at f;have E:w.cell? ⟨g,o,none⟩=some (.int .i64 x):=by
   have:=t 0 (by omega);rw [Nat.add_zero] at this;rw [this];simp [hi]
  have A:exec (.read r) (m.at'+1) m={ m with regs:=upd m.regs r x,inp:=l }.goes (m.at'+1):=by simp [exec,hi,Mc.goes]
  rw [A];refine(zlF w b a r g o l.length bv ov m x l hr f E (by omega) (by omega) q (by omega) s (by omega)).mono ?_;rintro e F ⟨i,⟨y,h,u⟩,c⟩;have k:=zfu M.mem.lt c;refine⟨i,_,_,_,⟨h,M.backs.kept c (.inr (zcQ M.backs)),M.out.kept c (.inr (zcQ M.out)),?_⟩,k⟩;refine⟨some ⟨g,y,none⟩,a-1,rfl,by show l.length≤a-1;omega,fun hp=>⟨g,y,rfl,d,Nat.lt_of_lt_of_le n k.size,fun j hj=>?_⟩⟩;rcases u with u|rfl
  ·have:0<l.length:=hp;omega
  ·have hj2:j<l.length:=hj;have:=t (j+1) (by omega);rw [show o+(j+1)=o+1+j by omega] at this;rw [(k.cell (p:=⟨g,o+1+j,none⟩) d).trans this];simp [hi,Mc.goes]
theorem zlI{w:World}{b r:Nat}{m:Mc}{bv iv ov:Value}(hr:r<8)(M:MchAt w b m bv iv ov)(I:InvC m)(hst:m.steps≤99999):
  Calls Tryz.prog 262 #[.agg #[.int .i64 (r:Int)],.pointer (some ⟨b,0,none⟩)] w (zjO w b (exec (.write r) (m.at'+1) m)):=by
 have i:=I.steps;have n:=I.at0;have hb:=I.at1;have hlen:=I.out;refine(zvX w b r bv iv ov m hr M.mem M.out (by omega) i (by omega) n (by omega)).mono ?_;rintro e o ⟨k,v',h,l,d,c,f⟩;have a:Below b w h:=(Below.refl b w).grown c (by have:=M.mem.lt;omega) (fun q hq=>by have:=(M.out.lt q hq).1;omega);have g:Below b w o:=a.trans ((Below.refl b h).grown f (by have:=a.size;have:=M.mem.lt;omega) (fun j hj=>by cases hj;exact Nat.le_refl _));refine⟨k,_,_,_,⟨l,?_,?_,M.inp.below g⟩,g⟩
 ·exact(M.backs.kept c (zcL M.backs M.out (by decide))).kept f (.inr (zcQ M.backs))
 ·have:=d.kept f (.inr (zcQ d));show World.ownsRow _ (b+1) 2 1 _ (m.out++[m.regs r]).length (i64s (m.out++[m.regs r]));rw [List.length_append];exact this
theorem zn6{w:World}{b:Nat}{m:Mc}{bv iv ov:Value}(to:Int)(M:MchAt w b m bv iv ov)(I:InvC m)(hfin:m.fin=0)(hst:m.steps≤99999):
  Calls Tryz.prog 279 #[.agg #[.int .i64 to],.pointer (some ⟨b,0,none⟩)] w (zjO w b (exec (.call to) (m.at'+1) m)):=by
 have y:=I.steps;have A:=I.at0;have hb:=I.at1;have hfr:=I.frames;have hfew:=I.few;obtain⟨p,B,n⟩:=I.peak;obtain⟨o,c,rfl⟩:=zba M.backs;have i:(m.fin == 2)=false:=by rw [hfin];rfl
 by_cases s:m.frames=16
 ·have x:exec (.call to) (m.at'+1) m={ m with fin:=4 }:=if_pos s;rw [x];have C:m.backs.length=15:=by omega
  have t:=M.mem;rw [C] at t;refine(zlG w b c o iv ov m to t i).mono ?_;rintro e u ⟨l,k,d⟩;rw [←C] at k;obtain⟨i,z⟩:=M.same k d rfl rfl rfl;exact⟨l,_,_,_,i,z⟩
 ·have x:exec (.call to) (m.at'+1) m={ m with backs:=m.backs++[m.at'+1],frames:=m.frames+1,peak:=max m.peak (m.frames+1) }.goes to:=if_neg s;rw [x];have hpk:max m.peak (m.frames+1)=max m.peak ((m.backs.length:Int)+2):=by rw [hfr,Int.add_assoc];rfl
  rw [hpk];refine(zq0 w b c o iv ov m to p M.mem i M.backs (by omega) B n y (by omega) A (by omega)).mono ?_;rintro e u ⟨l,g,c',v,k,h,f,d⟩;have a:Below b w v:=(Below.refl b w).grown f (by have:=M.mem.lt;omega) (fun q hq=>by have:=(M.backs.lt q hq).1;omega);have r:Below b w u:=a.trans ((Below.refl b v).grown d (by have:=a.size;have:=M.mem.lt;omega) (fun j hj=>by cases hj;exact Nat.le_refl _));refine⟨l,_,_,_,⟨k.frames (m.frames+1),?_,?_,M.inp.below r⟩,r⟩
  ·have:=h.kept d (.inr (zcQ h));show World.ownsRow _ (b+1) 3 1 _ (m.backs++[m.at'+1]).length (i64s (m.backs++[m.at'+1]));rw [List.length_append];exact this
  ·exact(M.out.kept f (zcL M.out M.backs (by decide))).kept d (.inr (zcQ M.out))
theorem zn7{w:World}{b:Nat}{m:Mc}{bv iv ov:Value}(M:MchAt w b m bv iv ov)(I:InvC m)(hfin:m.fin=0)(hst:m.steps≤99999):
  Calls Tryz.prog 284 #[.agg #[],.pointer (some ⟨b,0,none⟩)] w (zjO w b (za2 .back m)):=by
 have s:=I.steps;have j:=I.frames;have hfew:=I.few;by_cases u:m.frames=1
 ·have C:m.backs.length=0:=by omega
  have q:exec .back (m.at'+1) m={ m with frames:=0,fin:=2 }.goes (-1):=if_pos u;have y:za2 .back m={ m with steps:=m.steps+1,frames:=0,fin:=2 }:=by
   unfold za2;rw [q,if_pos (.inr rfl)];rfl
  rw [y];obtain⟨v,c,rfl⟩:=zba M.backs;have l:=M.mem;rw [C] at l;refine(zn4 w b c v iv ov m l s (by omega)).mono ?_;rintro e D ⟨o,n,k⟩;rw [←C] at n;obtain⟨z,A⟩:=M.same (n.frames 0) k rfl rfl rfl;exact⟨o,_,_,_,z,A⟩
 ·have q:exec .back (m.at'+1) m={ m with frames:=m.frames-1,backs:=m.backs.dropLast }.goes (m.backs.getLastD 0):=if_neg u;have y:za2 .back m={ m with frames:=m.frames-1,backs:=m.backs.dropLast }.goes (m.backs.getLastD 0):=by
   rw [zag (.inl (by rw [q];rfl)) hfin,q]
  rw [y];obtain⟨f,x,B⟩:∃ I x,m.backs=I++[x]:=by
   rcases List.eq_nil_or_concat m.backs with h|⟨I,x,h⟩
   ·rw [h] at j;simp at j;omega
   ·exact⟨I,x,by rw [h,List.concat_eq_append]⟩
  have a:=M.backs;have hIl:m.backs.length=f.length+1:=by rw [B];simp
  rw [hIl] at a;obtain⟨r,c,hbv,hgb,hgl⟩:=a.form (by omega);have i:f.length+1≤c:=by
   rcases a.2 with ⟨g,_⟩|⟨g',cap',cur,g,_,_,hnc,_⟩
   ·rw [hbv] at g;simp at g
   ·rw [hbv] at g;simp at g;omega
  have d:w.cell? ⟨r,f.length,none⟩=some (.int .i64 x):=by
   rw [hbv] at a;rw [World.ownsRow.cellAt a f.length (by omega),B];simp
  have hlast:m.backs.getLastD 0=x:=by rw [B];simp
  rw [hlast];have l:=M.mem;rw [hbv] at l;refine(zq1 w b c r f.length iv ov m x m.backs.dropLast l d (by omega) (by omega) i s (by omega)).mono ?_;rintro e D ⟨o,n,k⟩;have t:=zfu M.mem.lt k;refine⟨o,_,_,_,⟨n.frames (m.frames-1),?_,M.out.kept k (.inr (zcQ M.out)),M.inp.below t⟩,t⟩;have p:=a.kept k (.inr (zcQ a));rw [hbv] at p;show World.ownsRow _ (b+1) 3 1 _ m.backs.dropLast.length (i64s m.backs.dropLast);rw [B] at p ⊢;simp only [List.dropLast_concat];exact zvZ p
theorem zzX{w:World}{b:Nat}{m:Mc}{bv iv ov:Value}(i:Ins)(hi:zhs i)(M:MchAt w b m bv iv ov)(I:InvC m)(hfin:m.fin=0)(hst:m.steps≤99999)(hin:m.inp.length≤9223372036854775807):
  Calls Tryz.prog (insF i) #[.agg (insA i),.pointer (some ⟨b,0,none⟩)] w (zjO w b (za2 i m)):=by
 have a:=I.steps;have d:=I.at0;have hb:=I.at1;cases i with
 | set r k=>rw [zag (.inl rfl) hfin];exact M.done rfl rfl rfl (zzM w b bv iv ov m r hi k M.mem a (by omega) d (by omega))
 | mov r s=>rw [zag (.inl rfl) hfin];exact M.done rfl rfl rfl (zzN w b bv iv ov m r s hi.1 hi.2 M.mem a (by omega) d (by omega))
 | alu o r s t =>
  rw [zag (.inl rfl) hfin];obtain⟨q,h,j,l⟩:=hi
  match o,q with
  | 0,_=>exact M.done rfl rfl rfl (zzO w b bv iv ov m r s t h j l M.mem a (by omega) d (by omega))
  | 1,_=>exact M.done rfl rfl rfl (zzP w b bv iv ov m r s t h j l M.mem a (by omega) d (by omega))
  | 2,_=>exact M.done rfl rfl rfl (zzQ w b bv iv ov m r s t h j l M.mem a (by omega) d (by omega))
 | inc r k=>rw [zag (.inl rfl) hfin];exact M.done rfl rfl rfl (zzR w b bv iv ov m r hi k M.mem a (by omega) d (by omega))
 | load r s =>
  by_cases e:m.regs s<0∨15<m.regs s
  ·have g:exec (.load r s) (m.at'+1) m={ m with fin:=3 }:=if_pos e;have c:=znw w b bv iv ov m r s hi.1 hi.2 M.mem e;rw [zag (.inr (by rw [g];show(2:Int)<3;decide)) hfin];rw [g] at c ⊢;exact M.done rfl rfl rfl c
  ·obtain⟨n,f⟩:=Int.eq_ofNat_of_zero_le (by omega:0≤m.regs s);have g:exec (.load r s) (m.at'+1) m={ m with regs:=upd m.regs r (m.cells (m.regs s).toNat) }.goes (m.at'+1):=if_neg e;have c:=zqq w b bv iv ov m r s n hi.1 hi.2 (by omega) f M.mem a (by omega) d (by omega);rw [zag (.inl (by rw [g];rfl)) hfin];rw [g] at c ⊢;exact M.done rfl rfl rfl c
 | store r s =>
  by_cases e:m.regs r<0∨15<m.regs r
  ·have g:exec (.store r s) (m.at'+1) m={ m with fin:=3 }:=if_pos e;have c:=zl3 w b bv iv ov m r s hi.1 hi.2 M.mem e;rw [zag (.inr (by rw [g];show(2:Int)<3;decide)) hfin];rw [g] at c ⊢;exact M.done rfl rfl rfl c
  ·obtain⟨n,f⟩:=Int.eq_ofNat_of_zero_le (by omega:0≤m.regs r);have g:exec (.store r s) (m.at'+1) m={ m with cells:=upd m.cells (m.regs r).toNat (m.regs s) }.goes (m.at'+1):=if_neg e;have c:=znx w b bv iv ov m r s n hi.1 hi.2 (by omega) f M.mem a (by omega) d (by omega);rw [zag (.inl (by rw [g];rfl)) hfin];rw [g] at c ⊢;exact M.done rfl rfl rfl c
 | read r=>rw [zag (.inl rfl) hfin];exact zn5 hi M I hst hin
 | write r=>rw [zag (.inl rfl) hfin];exact zlI hi M I hst
 | jump to=>rw [zag (.inl rfl) hfin];exact M.done rfl rfl rfl (zyn w b bv iv ov m to M.mem a (by omega))
 | less r s to=>rw [zag (.inl rfl) hfin];exact M.done rfl rfl rfl (zyo w b bv iv ov m r s hi.1 hi.2 to M.mem a (by omega) d (by omega))
 | same r s to=>rw [zag (.inl rfl) hfin];exact M.done rfl rfl rfl (zyp w b bv iv ov m r s hi.1 hi.2 to M.mem a (by omega) d (by omega))
 | call to =>
  have p:=zn6 to M I hfin hst;rw [zag ?_ hfin]
  ·exact p
  ·simp only [exec];split
   ·exact .inr (by show(2:Int)<4;decide)
   ·exact .inl rfl
 | back=>exact zn7 M I hfin hst
 | stop =>
  have g:za2 .stop m={ m with steps:=m.steps+1,fin:=1 }:=by
   unfold za2;rw [show exec .stop (m.at'+1) m={ m with fin:=1 }.goes (-1) from rfl,if_pos (.inl rfl)];rfl
  rw [g];exact M.done rfl rfl rfl (zyq w b bv iv ov m M.mem a (by omega))
end
section
open Sp
structure Kn where
 regs:Nat→Rg
 cells:Nat→Rg
 next:Int
 behind:List Int
 steps:Int
def updR(f:Nat→Rg)(i:Nat)(v:Rg):Nat→Rg:=fun j=>if j=i then v else f j
def kn0:Kn:=⟨fun _=>only 0,fun _=>only 0,0,[],0⟩
def Kn.goTo(k:Kn)(p:Int):Kn:={ k with steps:=k.steps+1,next:=p }
def zbm(r:Rg):Option (Nat × Nat):=if 0≤r.lo∧r.hi≤15 then some (r.lo.toNat,r.hi.toNat) else none
def zbz(c:Nat→Rg)(a:Nat):Nat→Rg
 | 0=>c a
 | n+1=>(zbz c a n).or (c (a+(n+1)))
def zaw(c:Nat→Rg)(a b:Nat)(v:Rg):Nat→Rg:=if a=b then updR c a v else fun j=>if a≤j∧j≤b then(c j).or v else c j
def zaX(k:Kn)(l r:Nat)(holds fails:Rg→Rg→Option (Rg × Rg))(label:Int):List Kn :=
 match holds (k.regs l) (k.regs r),fails (k.regs l) (k.regs r) with
 | some (a,b),some (c,d)=>[{ k with regs:=updR (updR k.regs l a) r b }.goTo label,{ k with regs:=updR (updR k.regs l c) r d }.goTo (k.next+1)]
 | some (a,b),none=>[{ k with regs:=updR (updR k.regs l a) r b }.goTo label]
 | none,some (c,d)=>[{ k with regs:=updR (updR k.regs l c) r d }.goTo (k.next+1)]
 | none,none=>[k.goTo label]
def zam(i:Ins)(k:Kn):Option (List Kn) :=
 match i with
 | .set r n=>some [{ k with regs:=updR k.regs r (only n) }.goTo (k.next+1)]
 | .mov r s=>some [{ k with regs:=updR k.regs r (k.regs s) }.goTo (k.next+1)]
 | .alu o r s t=>some [{ k with regs:=updR k.regs r (if o=0 then(k.regs s).plus (k.regs t) else if o=1 then(if s=t then only 0 else(k.regs s).minus (k.regs t)) else(k.regs s).times (k.regs t)) }.goTo (k.next+1)]
 | .inc r n=>some [{ k with regs:=updR k.regs r ((k.regs r).plus (only n)) }.goTo (k.next+1)]
 | .load r s=>match zbm (k.regs s) with
  | none=>none
  | some (a,b)=>some [{ k with regs:=updR k.regs r (zbz k.cells a (b-a)) }.goTo (k.next+1)]
 | .store r s=>match zbm (k.regs r) with
  | none=>none
  | some (a,b)=>some [{ k with cells:=zaw k.cells a b (k.regs s) }.goTo (k.next+1)]
 | .read r=>some [{ k with regs:=updR k.regs r anyR }.goTo (k.next+1)]
 | .write _=>some [k.goTo (k.next+1)]
 | .jump to=>some [k.goTo to]
 | .less l r to=>if l=r then some [k.goTo (k.next+1)] else some (zaX k l r zdl zaD to)
 | .same l r to=>if l=r then some [k.goTo to] else some (zaX k l r zex zbd to)
 | .call to=>if k.behind.length+1=16 then none else some [{ k with behind:=k.behind++[k.next+1] }.goTo to]
 | .back=>match k.behind with
  | []=>some []
  | b :: r=>some [{ k with behind:=(b :: r).dropLast }.goTo ((b :: r).getLastD 0)]
 | .stop=>some []
structure Cov(k:Kn)(m:Mc):Prop where
 regs:∀ r,r<8→(k.regs r).In (m.regs r)
 cells:∀ c,c<16→(k.cells c).In (m.cells c)
 next:m.at'=k.next
 behind:m.backs=k.behind
 steps:m.steps=k.steps
structure KnOk(k:Kn):Prop where
 regs:∀ r,r<8→(k.regs r).Ok
 cells:∀ c,c<16→(k.cells c).Ok
structure Mc64(m:Mc):Prop where
 regs:∀ r,r<8→i64 (m.regs r)
 cells:∀ c,c<16→i64 (m.cells c)
 inp:∀ x∈m.inp,i64 x
def zkK:Ins→Prop
 | .set _ n=>i64 n
 | .inc _ n=>i64 n
 | _=>True
theorem zdm(f:Nat→Rg)(i:Nat)(v:Rg):updR f i v i=v:=by simp [updR]
theorem zgB(f:Nat→Rg)(i j:Nat)(v:Rg)(h:¬j=i):updR f i v j=f j:=by simp [updR,h]
theorem ziC{f:Nat→Rg}{g:Nat→Int}{n:Nat}(h:∀ r,r<n→(f r).In (g r)){i:Nat}{v:Rg}{x:Int}(hv:v.In x):∀ r,r<n→(updR f i v r).In (upd g i x r):=by
 intro r a;by_cases e:r=i
 ·subst e;rw [zdm,zfG];exact hv
 ·rw [zgB _ _ _ _ e,zen _ _ _ _ e];exact h r a
theorem zdX{f:Nat→Rg}{n:Nat}(h:∀ r,r<n→(f r).Ok){i:Nat}{v:Rg}(hv:v.Ok):∀ r,r<n→(updR f i v r).Ok:=by
 intro r a;by_cases e:r=i
 ·subst e;rw [zdm];exact hv
 ·rw [zgB _ _ _ _ e];exact h r a
theorem ziD{g:Nat→Int}{n:Nat}(h:∀ r,r<n→i64 (g r)){i:Nat}{x:Int}(hx:i64 x):∀ r,r<n→i64 (upd g i x r):=by
 intro r a;by_cases e:r=i
 ·subst e;rw [zfG];exact hx
 ·rw [zen _ _ _ _ e];exact h r a
theorem zh8{f:Nat→Rg}{g:Nat→Int}{n:Nat}(h:∀ r,r<n→(f r).In (g r)){i:Nat}{v:Rg}(hv:v.In (g i)):∀ r,r<n→(updR f i v r).In (g r):=by
 intro r a;by_cases e:r=i
 ·subst e;rw [zdm];exact hv
 ·rw [zgB _ _ _ _ e];exact h r a
theorem zrd{c:Nat→Rg}{g:Nat→Int}{a n j:Nat}(h1:a≤j)(h2:j≤a+n)(h:(c j).In (g j)):(zbz c a n).In (g j):=by
 induction n with
 | zero =>
  have e:j=a:=by omega
  subst e;exact h
 | succ n ih =>
  by_cases e:j=a+(n+1)
  ·subst e;exact zh6 h _
  ·exact zkH (ih (by omega)) _
theorem zre{c:Nat→Rg}{a n:Nat}(h:∀ j,a≤j→j≤a+n→(c j).Ok):(zbz c a n).Ok:=by
 induction n with
 | zero=>exact h a (Nat.le_refl _) (Nat.le_refl _)
 | succ n ih=>exact zwB (ih (fun j h1 h2=>h j h1 (by omega))) (h _ (by omega) (by omega))
theorem zwG{c:Nat→Rg}{g:Nat→Int}{a b j:Nat}{v:Rg}{x:Int}(h:∀ r,r<16→(c r).In (g r))(h1:a≤j)(h2:j≤b)(hv:v.In x):∀ r,r<16→(zaw c a b v r).In (upd g j x r):=by
 intro r d;unfold zaw;split
 ·rename_i e;have e2:a=j:=by omega
  rw [e2];exact ziC h hv r d
 ·dsimp only;by_cases e:r=j
  ·subst e;rw [if_pos ⟨h1,h2⟩,zfG];exact zh6 hv _
  ·rw [zen _ _ _ _ e];split
   ·exact zkH (h r d) _
   ·exact h r d
theorem zwH{c:Nat→Rg}{a b:Nat}{v:Rg}(h:∀ r,r<16→(c r).Ok)(hv:v.Ok):∀ r,r<16→(zaw c a b v r).Ok:=by
 intro r d;unfold zaw;split
 ·exact zdX h hv r d
 ·dsimp only;split
  ·exact zwB (h r d) hv
  ·exact h r d
theorem zkc{r:Rg}{x:Int}{a b:Nat}(h:zbm r=some (a,b))(hx:r.In x):∃ j:Nat,x=(j:Int)∧j<16∧a≤j∧j≤b∧b≤15:=by
 unfold zbm at h;unfold Rg.In at hx;split at h
 ·rename_i hc;simp only [Option.some.injEq,Prod.mk.injEq] at h;obtain⟨rfl,rfl⟩:=h;exact⟨x.toNat,by omega,by omega,by omega,by omega,by omega⟩
 ·cases h
theorem zrf{r:Rg}{a b:Nat}(h:zbm r=some (a,b))(hr:r.Ok):a≤b∧b≤15:=by
 unfold zbm at h;unfold Rg.Ok at hr;split at h
 ·rename_i hc;simp only [Option.some.injEq,Prod.mk.injEq] at h;obtain⟨rfl,rfl⟩:=h;omega
 ·cases h
def zyP(ks:List Kn)(m:Mc):Prop:=(m.fin=0∧∃ k∈ks,Cov k m)∨m.fin=1∨m.fin=2
theorem Cov.on{k:Kn}{m m1:Mc}{ks:List Kn}(c:Cov k m){f:Nat→Rg}{g:Nat→Rg}{z:Int}(hk:{ k with regs:=f,cells:=g }.goTo z∈ks)(h0:m1.fin=0)(h1:∀ r,r<8→(f r).In (m1.regs r))(h2:∀ r,r<16→(g r).In (m1.cells r))(h3:m1.backs=m.backs)(h4:m1.steps=m.steps):
  zyP ks (m1.goes z):=.inl ⟨h0,_,hk,⟨h1,h2,rfl,by show m1.backs=k.behind;rw [h3];exact c.behind,by show m1.steps+1=k.steps+1;rw [h4,c.steps]⟩⟩
theorem zb8{α:Type}(a:α):a∈[a]:=List.mem_singleton.2 rfl
theorem zhg{k:Kn}{m:Mc}(c:Cov k m)(hfin:m.fin=0){l r:Nat}(_hl:l<8)(_hr:r<8)(hne:¬l=r){holds fails:Rg→Rg→Option (Rg × Rg)}{P:Prop} [Decidable P] {to:Int}
  (h1:P→∃ a b,holds (k.regs l) (k.regs r)=some (a,b)∧a.In (m.regs l)∧b.In (m.regs r)) (h2:¬P→∃ a b,fails (k.regs l) (k.regs r)=some (a,b)∧a.In (m.regs l)∧b.In (m.regs r)) :
  zyP (zaX k l r holds fails to) (m.goes (if P then to else m.at'+1)):=by
 have hne':¬r=l:=fun e=>hne e.symm;by_cases f:P
 ·rw [if_pos f];obtain⟨a,b,e,h,i⟩:=h1 f;have d:∀ q,q<8→(updR (updR k.regs l a) r b q).In (m.regs q):=zh8 (zh8 c.regs h) i;unfold zaX;rw [e];cases fails (k.regs l) (k.regs r) with
  | none=>exact c.on (g:=k.cells) (zb8 _) hfin d c.cells rfl rfl
  | some q=>exact c.on (g:=k.cells) (List.mem_cons_self) hfin d c.cells rfl rfl
 ·rw [if_neg f];obtain⟨a,b,e,h,i⟩:=h2 f;have d:∀ q,q<8→(updR (updR k.regs l a) r b q).In (m.regs q):=zh8 (zh8 c.regs h) i;unfold zaX;rw [e,c.next];cases holds (k.regs l) (k.regs r) with
  | none=>exact c.on (g:=k.cells) (zb8 _) hfin d c.cells rfl rfl
  | some q=>exact c.on (g:=k.cells) (List.mem_cons_of_mem _ (zb8 _)) hfin d c.cells rfl rfl
theorem ziE{k:Kn}{m:Mc}{i:Ins}{ks:List Kn}(c:Cov k m)(K:KnOk k)(M:Mc64 m)(hi:zhs i)(h64:zkK i)(hfin:m.fin=0)(hf:m.frames=(m.backs.length:Int)+1)(h:zam i k=some ks):zyP ks (za2 i m):=by
 have l:=c.next;cases i with
 | set r n =>
  simp only [zam,Option.some.injEq] at h;subst h;rw [zag (.inl rfl) hfin,show exec (.set r n) (m.at'+1) m=Mc.goes { m with regs:=upd m.regs r n } (m.at'+1) from rfl,l];exact c.on (g:=k.cells) (zb8 _) hfin (ziC c.regs (zew n)) c.cells rfl rfl
 | mov r s =>
  simp only [zam,Option.some.injEq] at h;subst h;rw [zag (.inl rfl) hfin,show exec (.mov r s) (m.at'+1) m=Mc.goes { m with regs:=upd m.regs r (m.regs s) } (m.at'+1) from rfl,l];exact c.on (g:=k.cells) (zb8 _) hfin (ziC c.regs (c.regs s hi.2)) c.cells rfl rfl
 | alu o r s t =>
  simp only [zam,Option.some.injEq] at h;subst h;obtain⟨_,hr,w,p⟩:=hi;rw [zag (.inl rfl) hfin,show exec (.alu o r s t) (m.at'+1) m=Mc.goes { m with regs:=upd m.regs r (zc1 o (m.regs s) (m.regs t)) } (m.at'+1) from rfl,l];refine c.on (g:=k.cells) (zb8 _) hfin (ziC c.regs ?_) c.cells rfl rfl;unfold zc1;split
  ·exact ztH (K.regs s w) (K.regs t p) (c.regs s w) (c.regs t p)
  ·split
   ·split
    ·rename_i e;subst e;rw [show m.regs s-m.regs s=0 by omega];exact zew 0
    ·exact zwC (K.regs s w) (K.regs t p) (c.regs s w) (c.regs t p)
   ·exact zwE (K.regs s w) (K.regs t p) (c.regs s w) (c.regs t p)
 | inc r n =>
  simp only [zam,Option.some.injEq] at h;subst h;rw [zag (.inl rfl) hfin,show exec (.inc r n) (m.at'+1) m=Mc.goes { m with regs:=upd m.regs r (w64 (m.regs r+n)) } (m.at'+1) from rfl,l];exact c.on (g:=k.cells) (zb8 _) hfin (ziC c.regs (ztH (K.regs r hi) (ziB h64) (c.regs r hi) (zew n))) c.cells rfl rfl
 | load r s =>
  simp only [zam] at h;cases p:zbm (k.regs s) with
  | none=>rw [p] at h;cases h
  | some q =>
   obtain⟨a,b⟩:=q;rw [p] at h;simp only [Option.some.injEq] at h;subst h;obtain⟨j,B,u,v,D,_⟩:=zkc p (c.regs s hi.2);have d:¬(m.regs s<0∨15<m.regs s):=by omega
   have y:exec (.load r s) (m.at'+1) m={ m with regs:=upd m.regs r (m.cells (m.regs s).toNat) }.goes (m.at'+1):=if_neg d;rw [zag (.inl (by rw [y];rfl)) hfin,y,l,B,Int.toNat_natCast];exact c.on (g:=k.cells) (zb8 _) hfin (ziC c.regs (zrd v (by omega) (c.cells j u))) c.cells rfl rfl
 | store r s =>
  simp only [zam] at h;cases p:zbm (k.regs r) with
  | none=>rw [p] at h;cases h
  | some q =>
   obtain⟨a,b⟩:=q;rw [p] at h;simp only [Option.some.injEq] at h;subst h;obtain⟨j,B,u,v,D,_⟩:=zkc p (c.regs r hi.1);have d:¬(m.regs r<0∨15<m.regs r):=by omega
   have y:exec (.store r s) (m.at'+1) m={ m with cells:=upd m.cells (m.regs r).toNat (m.regs s) }.goes (m.at'+1):=if_neg d;rw [zag (.inl (by rw [y];rfl)) hfin,y,l,B,Int.toNat_natCast];exact c.on (f:=k.regs) (zb8 _) hfin c.regs (zwG c.cells v D (c.regs s hi.2)) rfl rfl
 | read r =>
  simp only [zam,Option.some.injEq] at h;subst h;rw [zag (.inl rfl) hfin,show exec (.read r) (m.at'+1) m=Mc.goes { m with regs:=upd m.regs r (m.inp.headD 0),inp:=m.inp.tail } (m.at'+1) from rfl,l];refine c.on (g:=k.cells) (zb8 _) hfin (ziC c.regs (ztD ?_)) c.cells rfl rfl;cases hin:m.inp with
  | nil=>unfold i64;simp
  | cons x t=>exact M.inp x (by rw [hin];exact List.mem_cons_self)
 | write r =>
  simp only [zam,Option.some.injEq] at h;subst h;rw [zag (.inl rfl) hfin,show exec (.write r) (m.at'+1) m=Mc.goes { m with out:=m.out++[m.regs r] } (m.at'+1) from rfl,l];exact c.on (f:=k.regs) (g:=k.cells) (zb8 _) hfin c.regs c.cells rfl rfl
 | jump to =>
  simp only [zam,Option.some.injEq] at h;subst h;rw [zag (.inl rfl) hfin,show exec (.jump to) (m.at'+1) m=Mc.goes m to from rfl];exact c.on (f:=k.regs) (g:=k.cells) (zb8 _) hfin c.regs c.cells rfl rfl
 | less r s to =>
  rw [zag (.inl rfl) hfin,show exec (.less r s to) (m.at'+1) m=m.goes (if m.regs r<m.regs s then to else m.at'+1) from rfl];simp only [zam] at h;split at h
  ·rename_i e;subst e;simp only [Option.some.injEq] at h;subst h;rw [if_neg (by omega),l];exact c.on (f:=k.regs) (g:=k.cells) (zb8 _) hfin c.regs c.cells rfl rfl
  ·rename_i e;simp only [Option.some.injEq] at h;subst h;exact zhg c hfin hi.1 hi.2 e (fun hp=>zyK (c.regs r hi.1) (c.regs s hi.2) hp) (fun hp=>zqZ (c.regs r hi.1) (c.regs s hi.2) hp)
 | same r s to =>
  rw [zag (.inl rfl) hfin,show exec (.same r s to) (m.at'+1) m=m.goes (if m.regs r=m.regs s then to else m.at'+1) from rfl];simp only [zam] at h;split at h
  ·rename_i e;subst e;simp only [Option.some.injEq] at h;subst h;rw [if_pos rfl];exact c.on (f:=k.regs) (g:=k.cells) (zb8 _) hfin c.regs c.cells rfl rfl
  ·rename_i e;simp only [Option.some.injEq] at h;subst h;exact zhg c hfin hi.1 hi.2 e (fun hp=>zyL (c.regs r hi.1) (c.regs s hi.2) hp) (fun hp=>zra (c.regs r hi.1) (c.regs s hi.2) hp)
 | call to =>
  simp only [zam] at h;split at h
  ·cases h
  ·rename_i e;simp only [Option.some.injEq] at h;subst h;have hbl:=congrArg List.length c.behind;have A:¬m.frames=16:=by omega
   have y:exec (.call to) (m.at'+1) m={ m with backs:=m.backs++[m.at'+1],frames:=m.frames+1,peak:=max m.peak (m.frames+1) }.goes to:=if_neg A;rw [zag (.inl (by rw [y];rfl)) hfin,y];refine .inl ⟨hfin,_,zb8 _,⟨c.regs,c.cells,rfl,?_,?_⟩⟩
   ·show m.backs++[m.at'+1]=k.behind++[k.next+1]
    rw [c.behind,l]
   ·show m.steps+1=k.steps+1;rw [c.steps]
 | back =>
  simp only [zam] at h;have z:=c.behind;cases hbe:k.behind with
  | nil =>
   rw [hbe] at z;have v:m.frames=1:=by rw [hf,z];rfl
   refine .inr (.inr ?_);have C:exec .back (m.at'+1) m={ m with frames:=0,fin:=2 }.goes (-1):=if_pos v;unfold za2;rw [C,if_pos (.inr rfl)];rfl
  | cons b r =>
   rw [hbe] at h z;simp only [Option.some.injEq] at h;subst h;have v:¬m.frames=1:=by rw [hf,z];simp;omega
   have C:exec .back (m.at'+1) m={ m with frames:=m.frames-1,backs:=m.backs.dropLast }.goes (m.backs.getLastD 0):=if_neg v;rw [zag (.inl (by rw [C];rfl)) hfin,C];refine .inl ⟨hfin,_,zb8 _,⟨c.regs,c.cells,?_,?_,?_⟩⟩
   ·show m.backs.getLastD 0=(b :: r).getLastD 0;rw [z]
   ·show m.backs.dropLast=(b :: r).dropLast;rw [z]
   ·show m.steps+1=k.steps+1;rw [c.steps]
 | stop =>
  refine .inr (.inl ?_);unfold za2;rw [show exec .stop (m.at'+1) m={ m with fin:=1 }.goes (-1) from rfl,if_pos (.inl rfl)];rfl
end
section
open Go.RowKit Sp
structure KnM(w:World)(b:Nat)(bv:Value)(k:Kn):Prop where
 cR:∀ r,r<8→w.cell? ⟨b,r*2,none⟩=some (.int .i64 (k.regs r).lo)∧w.cell? ⟨b,r*2+1,none⟩=some (.int .i64 (k.regs r).hi)
 cC:∀ c,c<16→w.cell? ⟨b,16+c*2,none⟩=some (.int .i64 (k.cells c).lo)∧w.cell? ⟨b,16+c*2+1,none⟩=some (.int .i64 (k.cells c).hi)
 cN:w.cell? ⟨b,48,none⟩=some (.int .i64 k.next)
 cB:w.cell? ⟨b,49,none⟩=some bv
 cS:w.cell? ⟨b,50,none⟩=some (.int .i64 k.steps)
 fz:∀ j,w.frozen? ⟨b,j,none⟩=false
theorem KnM.lt{w:World}{b:Nat}{bv:Value}{k:Kn}(h:KnM w b bv k):b<w.heap.size:=World.block_lt_of_cell? w _ h.cN
theorem KnM.block{w w':World}{b:Nat}{bv:Value}{k:Kn}(h:KnM w b bv k)(e:w'.heap[b]?=w.heap[b]?):KnM w' b bv k:=by
 have c:∀ j,w'.cell? ⟨b,j,none⟩=w.cell? ⟨b,j,none⟩:=fun j=>World.cell?_of_block (w:=w) (a:=⟨b,j,none⟩) e;exact⟨fun r hr=>⟨(c _).trans (h.cR r hr).1,(c _).trans (h.cR r hr).2⟩,fun r hr=>⟨(c _).trans (h.cC r hr).1,(c _).trans (h.cC r hr).2⟩,(c _).trans h.cN,(c _).trans h.cB,(c _).trans h.cS,fun j=>(World.frozen?_of_block (w:=w) (a:=⟨b,j,none⟩) e).trans (h.fz j)⟩
theorem KnM.below{w w':World}{B b:Nat}{bv:Value}{k:Kn}(h:KnM w b bv k)(hb:Below B w w')(hB:b<B):KnM w' b bv k:=h.block (hb.block b hB)
theorem KnM.alloc{w:World}{b:Nat}{bv:Value}{k:Kn}(h:KnM w b bv k)(x:Obj):KnM (w.alloc x) b bv k:=h.below (box1 (a:=x)) h.lt
theorem KnM.set{w:World}{b:Nat}{bv bv2:Value}{k k2:Kn}(h:KnM w b bv k)(n:Nat)(v u:Value)(hu:w.cell? ⟨b,n,none⟩=some u)
  (hR:∀ r,r<8→(if r*2=n then v else .int .i64 (k.regs r).lo)=.int .i64 (k2.regs r).lo∧(if r*2+1=n then v else .int .i64 (k.regs r).hi)=.int .i64 (k2.regs r).hi)
  (hC:∀ c,c<16→(if 16+c*2=n then v else .int .i64 (k.cells c).lo)=.int .i64 (k2.cells c).lo∧(if 16+c*2+1=n then v else .int .i64 (k.cells c).hi)=.int .i64 (k2.cells c).hi)
  (hN:(if 48=n then v else .int .i64 k.next)=.int .i64 k2.next) (hB:(if 49=n then v else bv)=bv2) (hS:(if 50=n then v else .int .i64 k.steps)=.int .i64 k2.steps) :
  KnM (w.setCell ⟨b,n,none⟩ v) b bv2 k2:=by
 have e:∀ j x,w.cell? ⟨b,j,none⟩=some x→(w.setCell ⟨b,n,none⟩ v).cell? ⟨b,j,none⟩=some (if j=n then v else x):=fun j x hx=>by
  rw [zat w b n j v u hu];split
  ·rfl
  ·exact hx
 refine⟨fun r hr=>⟨?_,?_⟩,fun c hc=>⟨?_,?_⟩,?_,?_,?_,fun j=>zcB w _ _ j _ (h.fz j)⟩
 ·rw [e _ _ (h.cR r hr).1,(hR r hr).1]
 ·rw [e _ _ (h.cR r hr).2,(hR r hr).2]
 ·rw [e _ _ (h.cC c hc).1,(hC c hc).1]
 ·rw [e _ _ (h.cC c hc).2,(hC c hc).2]
 ·rw [e _ _ h.cN,hN]
 ·rw [e _ _ h.cB,hB]
 ·rw [e _ _ h.cS,hS]
theorem ztJ{w:World}{b:Nat}{bv:Value}{k:Kn}(h:KnM w b bv k):Calls Tryz.prog 137 #[.pointer (some ⟨b,0,none⟩)] w fun e w'=>e=.returned (.int .i64 k.next)∧w'=w:=by
 have c:=h.cN;go_enter Tryz.func137,Tryz.ntmps137;go_wp2;go_ret;exact⟨rfl,rfl⟩
theorem zbI{w:World}{b:Nat}{bv:Value}{k:Kn}(h:KnM w b bv k):Calls Tryz.prog 134 #[.pointer (some ⟨b,0,none⟩)] w fun e w'=>e=.returned (.int .i64 k.steps)∧w'=w:=by
 have c:=h.cS;go_enter Tryz.func134,Tryz.ntmps134;go_wp2;go_ret;exact⟨rfl,rfl⟩
theorem zf1{w:World}{b cap:Nat}{ao:Option Addr}{k:Kn}(h:KnM w b (.slice ao k.behind.length cap) k)(hl:k.behind.length≤15):Calls Tryz.prog 136 #[.pointer (some ⟨b,0,none⟩)] w fun e w'=>e=.returned (.int .i64 ((k.behind.length:Int)+1))∧w'=w:=by
 have c:=h.cB;go_enter Tryz.func136,Tryz.ntmps136;go_wp2;go_ret;exact⟨rfl,rfl⟩
def zaO(w:World)(b:Nat)(bv:Value)(k:Kn):Ending→World→Prop:=fun e w'=>∃ g,e=.returned (.slice (some ⟨g,0,none⟩) 1 1)∧w.heap.size≤g∧w'.cell? ⟨g,0,none⟩=some (.pointer (some ⟨b,0,none⟩))∧KnM w' b bv k∧w.grownBy w' (some b)
theorem zfZ{w:World}{b:Nat}{bv:Value}{k:Kn}(h:KnM w b bv k)(z:Int)(h0:0≤k.steps)(h1:k.steps≤100000):Calls Tryz.prog 229 #[.pointer (some ⟨b,0,none⟩),.int .i64 z] w (zaO w b bv (k.goTo z)):=by
 have c:=h.cS;have n:=h.cN;have f1:=h.fz 50;have f2:=h.fz 48;have a:KnM (w.setCell ⟨b,50,none⟩ (.int .i64 (k.steps+1))) b bv { k with steps:=k.steps+1 }:=h.set 50 _ _ c (fun r hr=>⟨by rw [if_neg (by omega)],by rw [if_neg (by omega)]⟩) (fun r hr=>⟨by rw [if_neg (by omega)],by rw [if_neg (by omega)]⟩) (by rw [if_neg (by omega)]) (by rw [if_neg (by omega)]) (by rw [if_pos rfl]);have d:KnM ((w.setCell ⟨b,50,none⟩ (.int .i64 (k.steps+1))).setCell ⟨b,48,none⟩ (.int .i64 z)) b bv (k.goTo z):=a.set 48 _ _ a.cN (fun r hr=>⟨by rw [if_neg (by omega)];rfl,by rw [if_neg (by omega)];rfl⟩) (fun r hr=>⟨by rw [if_neg (by omega)];rfl,by rw [if_neg (by omega)];rfl⟩) (by rw [if_pos rfl];rfl) (by rw [if_neg (by omega)]) (by rw [if_neg (by omega)];rfl);have hlt:=h.lt;go_enter Tryz.func229,Tryz.ntmps229;go_wp2;go_ret;refine⟨w.heap.size,rfl,Nat.le_refl _,?_,d.alloc _,?_⟩
 ·have e:((w.setCell ⟨b,50,none⟩ (.int .i64 (k.steps+1))).setCell ⟨b,48,none⟩ (.int .i64 z)).heap.size=w.heap.size:=by rw [World.size_setCell,World.size_setCell]
  rw [←e];exact World.cell?_alloc_new _ _ _ 0
 ·exact zae (zae (zah (Below.refl _ _)) (zah (Below.refl _ _))) (World.grownBy_alloc _ _ _)
end
end Go.Proofs.YtfpgjkbjbbgciaaGreatDoor
