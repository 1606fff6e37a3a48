import Derived.Test.YtfpgjkbjbbgciaaGreatDoorMi27
import Derived.Test.YtfpgjkbjbbgciaaGreatDoorMi36
set_option maxRecDepth 100000
set_option maxHeartbeats 8000000
namespace Go.Proofs.YtfpgjkbjbbgciaaGreatDoor
open Go.RowKit Sp
theorem zhv{W1:World}{n:Nat}(hs1:W1.heap.size=n)(cs:List Value)(hlen:cs.length=30):(W1.alloc Z34).there n 0 cs.toArray.size:=by
 rw [show cs.toArray.size=30 by simp [hlen],←hs1]
 exact zfS W1
def zfj:Mc:=⟨0,[],[],0,fun _=>0,fun _=>0,[],0,0,0⟩
structure Told where
 m:Mc
 at_:Int
 err:Int
 line:Int
def ze2(w:World)(T:Told):Ending→World→Prop:=fun e w'=>∃ ao no co,e=.returned (.tuple #[.agg (zaV T.m (.slice ao no co) T.at_).toArray,.int .i64 T.err,.int .i64 T.line])∧w'.ownsRow w.heap.size 2 1 (.slice ao no co) T.m.out.length (i64s T.m.out)∧Below w.heap.size w w'
theorem zzY:zaV zfj (.slice none 0 0) 0=[.int .i64 0,.int .i64 0,.int .i64 0,.int .i64 0,.int .i64 0,.int .i64 0,.int .i64 0,.int .i64 0,.int .i64 0,.int .i64 0,.int .i64 0,.int .i64 0,.int .i64 0,.int .i64 0,.int .i64 0,.int .i64 0,.int .i64 0,.int .i64 0,.int .i64 0,.int .i64 0,.int .i64 0,.int .i64 0,.int .i64 0,.int .i64 0,.int .i64 0,.slice none 0 0,.int .i64 0,.int .i64 0,.int .i64 0,.int .i64 0]:=by simp [zaV,List.range_succ,zfj]
theorem SlB.mono{w w':World}{v:Value}{l:List Int}(h:SlB w w.heap.size v l)(hb:Below w.heap.size w w'):SlB w' w'.heap.size v l:=by
 obtain⟨ao,cap,h1,h2,h3⟩:=h
 refine⟨ao,cap,h1,h2,fun hp=>?_⟩
 obtain⟨g,o,e,hg,hg2,hc⟩:=h3 hp
 have:=hb.size
 exact⟨g,o,e,by omega,by omega,fun j hj=>(hb.cell (p:=⟨g,o+j,none⟩) hg).trans (hc j hj)⟩
def zbs(c:Nat→Rg)(a j:Nat)(v:Rg):Nat→Rg:=fun i=>if a≤i∧i<a+j then(c i).or v else c i
theorem zmk(c:Nat→Rg)(a:Nat)(v:Rg):zbs c a 0 v=c:=by
 funext i;unfold zbs;rw [if_neg (by omega)]
theorem zjY(c:Nat→Rg)(a j:Nat)(v:Rg):zbs c a j v (a+j)=c (a+j):=by unfold zbs;rw [if_neg (by omega)]
theorem zml(c:Nat→Rg)(a j:Nat)(v:Rg):updR (zbs c a j v) (a+j) ((c (a+j)).or v)=zbs c a (j+1) v:=by
 funext i
 unfold updR zbs
 by_cases e:i=a+j
 ·subst e;rw [if_pos rfl,if_pos (by omega)]
 ·rw [if_neg e]
  by_cases e2:a≤i∧i<a+j
  ·rw [if_pos e2,if_pos (by omega)]
  ·rw [if_neg e2,if_neg (by omega)]
theorem znQ(c:Nat→Rg)(a n:Nat)(v:Rg)(hn:1≤n):zbs c a (n+1) v=zaB c a (a+n) v:=by
 funext i
 have e0:zaB c a (a+n) v=fun j=>if a≤j∧j≤a+n then(c j).or v else c j:=by unfold zaB;rw [if_neg (by omega)]
 rw [e0]
 unfold zbs
 show _=if a≤i∧i≤a+n then(c i).or v else c i
 by_cases e:a≤i∧i<a+(n+1)
 ·rw [if_pos e,if_pos (by omega)]
 ·rw [if_neg e,if_neg (by omega)]
structure StM(w wr:World)(b:Nat)(bv:Value)(k:Kn)(v:Rg):Prop where
 kn:KnM wr b bv k
 lo:wr.cell? ⟨w.heap.size+1,0,none⟩=some (.int .i64 v.lo)
 hi:wr.cell? ⟨w.heap.size+1,1,none⟩=some (.int .i64 v.hi)
 low:w.grownBy wr (some b)
theorem StM.below{w wr wy:World}{b:Nat}{bv:Value}{k:Kn}{v:Rg}(L:StM w wr b bv k v)(hb:Below wr.heap.size wr wy):StM w wy b bv k v:=by
 have h1:w.heap.size+1<wr.heap.size:=World.block_lt_of_cell? wr _ L.lo
 have c:∀ q j,q<wr.heap.size→wy.cell? ⟨q,j,none⟩=wr.cell? ⟨q,j,none⟩:=fun q j hq=>World.cell?_of_block (w:=wr) (a:=⟨q,j,none⟩) (hb.block q hq)
 exact⟨L.kn.below hb L.kn.lt,(c _ _ h1).trans L.lo,(c _ _ h1).trans L.hi,zae L.low ⟨hb.os,hb.tape,hb.output,hb.size,fun q hq _=>hb.block q hq⟩⟩
theorem StM.put{w wr:World}{b:Nat}{bv:Value}{k:Kn}{v:Rg}(L:StM w wr b bv k v)(hb:b<w.heap.size)(a:Nat)(ha:a<16)(u:Rg):StM w ((wr.setCell ⟨b,16+a*2,none⟩ (.int .i64 u.lo)).setCell ⟨b,16+a*2+1,none⟩ (.int .i64 u.hi)) b bv { k with cells:=updR k.cells a u } v:=by
 have ne:∀ x j,(⟨w.heap.size+1,x,none⟩:Addr)≠⟨b,j,none⟩:=fun x j e=>by
  have:=congrArg Addr.block e
  have:w.heap.size+1=b:=this
  omega
 refine⟨L.kn.putC a ha u,?_,?_,zae L.low (zae (zah (Below.refl _ _)) (zah (Below.refl _ _)))⟩
 ·rw [World.cell?_setCell_other (h:=(ne _ _).symm),World.cell?_setCell_other (h:=(ne _ _).symm)];exact L.lo
 ·rw [World.cell?_setCell_other (h:=(ne _ _).symm),World.cell?_setCell_other (h:=(ne _ _).symm)];exact L.hi
theorem znR{w:World}{b:Nat}{bv:Value}{k:Kn}(h:KnM w b bv k)(a n:Nat)(hn:1≤n)(ha:a+n≤15)(v:Rg):Calls Tryz.prog 258 #[.pointer (some ⟨b,0,none⟩),rv ⟨(a:Int),(a:Int)+(n:Int)⟩,rv v] w (zlQ w b bv { k with cells:=zaB k.cells a (a+n) v }):=by
 have hlt:=h.lt
 have hT:∀(W:World),KnM W b bv k→Calls Tryz.prog 255 #[.pointer (some ⟨b,0,none⟩),rv ⟨(a:Int),(a:Int)+(n:Int)⟩] W fun e w'=>e=.returned (.slice (some ⟨b,16+a*2,none⟩) (n+1) (16-a))∧Below W.heap.size W w':=fun W hW=>by
  have t:=zee hW ⟨(a:Int),(a:Int)+(n:Int)⟩ ⟨⟨by show _≤(a:Int);omega,by show(a:Int)≤_;omega⟩,⟨by show _≤(a:Int)+(n:Int);omega,by show(a:Int)+(n:Int)≤_;omega⟩,by show(a:Int)≤(a:Int)+(n:Int);omega⟩ (by show(0:Int)≤(a:Int);omega) (by show(a:Int)+(n:Int)≤15;omega)
  have e1:((a:Int)+(n:Int)+1).toNat=a+n+1:=by omega
  have e2:((a:Nat):Int).toNat=a:=by omega
  have e3:a+n+1-a=n+1:=by omega
  simp only [e1,e2,e3] at t
  exact t
 have t1:((n:Int)+1 == 1)=false:=by simpa using (by omega:¬((n:Int)+1=1))
 have t2:¬n=0:=by omega
 go_enter Tryz.func258,Tryz.ntmps258
 go_wp2_with(go_at_call 255;(with_reducible refine(hT _ ((h.alloc _).alloc _)).mono ?_);rintro e wx ⟨rfl,hbx⟩)
 have L0:StM w wx b bv { k with cells:=zbs k.cells a 0 v } v:=by
  rw [zmk]
  have hl:Below w.heap.size w wx:=box2.trans (hbx.mono (by simp;omega))
  exact⟨((h.alloc _).alloc _).below hbx (by simp;omega),zd1 hbx 0,zd1 hbx 1,⟨hl.os,hl.tape,hl.output,hl.size,fun q hq _=>hl.block q hq⟩⟩
 clear hbx hT
 go_loopw [19] (fun ti wr=>∃ j:Nat,j≤n+1∧ti=.int .i64 (j:Int)∧StM w wr b bv { k with cells:=zbs k.cells a j v } v) (fun ti _=>n+1-(intOf ti).toNat)
 case atStart=>exact⟨0,by omega,rfl,L0⟩
 case round =>
  obtain⟨j,hj,rfl,L⟩:=hrel
  clear L0
  by_cases hjn:j<n+1
  ·obtain⟨d0,d1⟩:=L.kn.cC (a+j) (by omega)
   have z0:=L.kn.fz (16+(a+j)*2)
   have z1:=L.kn.fz (16+(a+j)*2+1)
   have HS:∀ wy,StM w wy b bv { k with cells:=zbs k.cells a j v } v→StM w ((wy.setCell ⟨b,16+a*2+j*2,none⟩ (.int .i64 ((k.cells (a+j)).or v).lo)).setCell ⟨b,16+a*2+j*2+1,none⟩ (.int .i64 ((k.cells (a+j)).or v).hi)) b bv { k with cells:=zbs k.cells a (j+1) v } v:=fun wy Ly=>by
    have t:=Ly.put hlt (a+j) (by omega) ((k.cells (a+j)).or v)
    have e:updR (zbs k.cells a j v) (a+j) ((k.cells (a+j)).or v)=zbs k.cells a (j+1) v:=zml _ _ _ _
    rw [show 16+(a+j)*2=16+a*2+j*2 by omega] at t
    show StM w _ b bv { k with cells:=zbs k.cells a (j+1) v } v
    rw [←e]
    exact t
   rw [show 16+(a+j)*2=16+a*2+j*2 by omega] at d0 d1 z0 z1
   have d0':wr.cell? ⟨b,16+a*2+j*2,none⟩=some (.int .i64 (k.cells (a+j)).lo):=by rw [d0];show some (Value.int .i64 (zbs k.cells a j v (a+j)).lo)=_;rw [zjY]
   have d1':wr.cell? ⟨b,16+a*2+j*2+1,none⟩=some (.int .i64 (k.cells (a+j)).hi):=by rw [d1];show some (Value.int .i64 (zbs k.cells a j v (a+j)).hi)=_;rw [zjY]
   clear d0 d1
   have hj0:(0:Int)≤(j:Int):=by omega
   have hj1:(j:Int)<(n:Int)+1:=by omega
   have hlL:=L.kn.lt
   have f0:=L.lo
   have f1:=L.hi
   have HH:Hid (∀ wy,StM w wy b bv { k with cells:=zbs k.cells a j v } v→StM w ((wy.setCell ⟨b,16+a*2+j*2,none⟩ (.int .i64 ((k.cells (a+j)).or v).lo)).setCell ⟨b,16+a*2+j*2+1,none⟩ (.int .i64 ((k.cells (a+j)).or v).hi)) b bv { k with cells:=zbs k.cells a (j+1) v } v):=HS
   clear HS
   generalize k.cells (a+j)=c at d0' d1' HH
   have HB:∀ W,Below wr.heap.size wr W→StM w W b bv { k with cells:=zbs k.cells a j v } v∧W.cell? ⟨b,16+a*2+j*2,none⟩=some (.int .i64 c.lo)∧W.cell? ⟨b,16+a*2+j*2+1,none⟩=some (.int .i64 c.hi)∧W.frozen? ⟨b,16+a*2+j*2,none⟩=false∧W.frozen? ⟨b,16+a*2+j*2+1,none⟩=false∧W.cell? ⟨w.heap.size+1,0,none⟩=some (.int .i64 v.lo)∧W.cell? ⟨w.heap.size+1,1,none⟩=some (.int .i64 v.hi):=fun W hW=>by
    have LW:=L.below hW
    have e:∀ i,W.cell? ⟨b,i,none⟩=wr.cell? ⟨b,i,none⟩:=fun i=>World.cell?_of_block (w:=wr) (a:=⟨b,i,none⟩) (hW.block b hlL)
    exact⟨LW,(e _).trans d0',(e _).trans d1',LW.kn.fz _,LW.kn.fz _,LW.lo,LW.hi⟩
   clear L
   go_wp2
   go_region_with(first|(go_at_call 156;(with_reducible refine(zpl c v _).mono ?_);rintro e wy ⟨rfl,hby⟩;have hX:Below wr.heap.size wr wy:=(Below.refl _ wr).drew.trans hby;have LY:=(HB _ hX).1;have y0:=(HB _ hX).2.1;have y1:=(HB _ hX).2.2.1;have y2:=(HB _ hX).2.2.2.1;have y3:=(HB _ hX).2.2.2.2.1))
   all_goals go_wp2
   all_goals exact⟨⟨j+1,by omega,by go_num,HH.out _ LY⟩,by simp [intOf];omega⟩
  ·obtain rfl:j=n+1:=by omega
   go_wp2
   refine bodyPost_end (results_none rfl _ _ _) rfl ⟨rfl,?_,L.low⟩
   rw [←znQ k.cells a n v hn]
   exact L.kn
theorem zqZ{w:World}{b:Nat}{bv:Value}{k:Kn}(h:KnM w b bv k)(r v:Rg)(hr:r.lo≤r.hi)(h0:0≤r.lo)(h1:r.hi≤15):Calls Tryz.prog 258 #[.pointer (some ⟨b,0,none⟩),rv r,rv v] w (zlQ w b bv { k with cells:=zaB k.cells r.lo.toNat r.hi.toNat v }):=by
 obtain⟨lo,hi⟩:=r
 obtain⟨a,rfl⟩:∃ a:Nat,lo=(a:Int):=⟨lo.toNat,by have:0≤lo:=h0;omega⟩
 obtain⟨n,rfl⟩:∃ n:Nat,hi=(a:Int)+(n:Int):=⟨(hi-a).toNat,by have:(a:Int)≤hi:=hr;omega⟩
 have h1':(a:Int)+(n:Int)≤15:=h1
 have e1:((a:Int)+(n:Int)).toNat=a+n:=by omega
 have e2:((a:Nat):Int).toNat=a:=by omega
 show Calls Tryz.prog 258 #[.pointer (some ⟨b,0,none⟩),rv ⟨(a:Int),(a:Int)+(n:Int)⟩,rv v] w (zlQ w b bv { k with cells:=zaB k.cells ((a:Nat):Int).toNat ((a:Int)+(n:Int)).toNat v })
 rw [e1,e2]
 by_cases hn:n=0
 ·subst hn
  have e3:zaB k.cells a (a+0) v=updR k.cells a v:=by unfold zaB;rw [if_pos (by omega)]
  rw [e3]
  have e4:(a:Int)+((0:Nat):Int)=(a:Int):=by omega
  rw [e4]
  exact zqF h a (by omega) v
 ·exact znR h a n (by omega) (by omega) v
theorem ztI{w:World}{b:Nat}{bv:Value}{k:Kn}(h:KnM w b bv k)(r:Nat)(hr:r<8)(s:Nat)(hs:s<8)(t:Nat)(ht:t<8)(h0:0≤k.steps)(h1:k.steps≤100000)(n0:0≤k.next)(n1:k.next≤100000):
  Calls Tryz.prog 233 #[.agg #[.int .i64 (r:Int),.int .i64 (s:Int),.int .i64 (t:Int)],.pointer (some ⟨b,0,none⟩)] w (zaQ w b bv ({ k with regs:=updR k.regs r ((k.regs s).plus (k.regs t)) }.goTo (k.next+1))):=by
 have hlt:=h.lt
 have r0:(0:Int)≤(r:Int):=by omega
 have r1:(r:Int)<8:=by omega
 have s0:(0:Int)≤(s:Int):=by omega
 have s1:(s:Int)<8:=by omega
 have t0:(0:Int)≤(t:Int):=by omega
 have t1:(t:Int)<8:=by omega
 obtain⟨A,hA⟩:∃ A,w.alloc (.cells #[.int .i64 (r:Int),.int .i64 (s:Int),.int .i64 (t:Int)] 171)=A:=⟨_,rfl⟩
 have HB:∀ W,Below A.heap.size A W→KnM W b bv k:=fun W hW=>by subst hA;exact(h.alloc _).below hW (by simp;omega)
 have HF:∀ W,Below A.heap.size A W→(W.cell? ⟨w.heap.size,0,none⟩=some (.int .i64 (r:Int))∧W.cell? ⟨w.heap.size,1,none⟩=some (.int .i64 (s:Int))∧W.cell? ⟨w.heap.size,2,none⟩=some (.int .i64 (t:Int)))∧(W.cell? ⟨b,s*2,none⟩=some (.int .i64 (k.regs s).lo)∧W.cell? ⟨b,s*2+1,none⟩=some (.int .i64 (k.regs s).hi))∧(W.cell? ⟨b,t*2,none⟩=some (.int .i64 (k.regs t).lo)∧W.cell? ⟨b,t*2+1,none⟩=some (.int .i64 (k.regs t).hi)):=fun W hW=>⟨by subst hA;exact⟨za1 hW 0,za1 hW 1,za1 hW 2⟩,(HB W hW).cR s hs,(HB W hW).cR t ht⟩
 go_enter Tryz.func233,Tryz.ntmps233
 go_wp2
 refine zad 20 (fun W=>Below A.heap.size A W) (Below.refl _ _).drew (by kernel_rfl) (by kernel_rfl) ?_
 simp only [List.take_succ_cons,List.take_zero,List.drop_succ_cons,List.drop_zero]
 repeat(refine zab rfl ?_ (fun W hW=>?_) ?_;rotate_left 1;· (obtain⟨⟨f0,f1,f2⟩,⟨gs,es⟩,⟨gt,et⟩⟩:=HF W hW;go_simp;with_reducible rfl))
 refine zaI rfl 234 #[rv (k.regs s),rv (k.regs t)] (rv ((k.regs s).plus (k.regs t))) (fun W hW=>?_) (fun W hW=>(zpu _ _ W).mono (fun e w' hh=>⟨hh.1,hW.trans (hh.2.mono hW.size)⟩)) ?_
 ·go_simp
 repeat(refine zab rfl ?_ (fun W hW=>?_) ?_;rotate_left 1;· (obtain⟨⟨f0,f1,f2⟩,⟨gs,es⟩,⟨gt,et⟩⟩:=HF W hW;go_simp;with_reducible rfl))
 refine wpQuiet_nil ?_
 intro W hW
 have hK:=HB W hW
 have c0:=(hK.cR r hr).1
 have c1:=(hK.cR r hr).2
 have z0:=hK.fz (r*2)
 have z1:=hK.fz (r*2+1)
 have hKK:=hK.putR r hr ((k.regs s).plus (k.regs t))
 go_wp2_with(go_at_call 227;(with_reducible refine(zcb hKK h0 h1 n0 n1).mono ?_);intro e w6 hw6;have hw7:=zeA (hA▸hW) hw6;clear hw6;obtain⟨g,rfl,hg,hc,hk,hgr⟩:=hw7)
 go_ret
 exact⟨g,rfl,hg,hc,hk,hgr⟩
theorem ztJ{w:World}{b:Nat}{bv:Value}{k:Kn}(h:KnM w b bv k)(K:KnOk k)(r:Nat)(hr:r<8)(s:Nat)(hs:s<8)(t:Nat)(ht:t<8)(h0:0≤k.steps)(h1:k.steps≤100000)(n0:0≤k.next)(n1:k.next≤100000):
  Calls Tryz.prog 244 #[.agg #[.int .i64 (r:Int),.int .i64 (s:Int),.int .i64 (t:Int)],.pointer (some ⟨b,0,none⟩)] w (zaQ w b bv ({ k with regs:=updR k.regs r ((k.regs s).times (k.regs t)) }.goTo (k.next+1))):=by
 have hlt:=h.lt
 have r0:(0:Int)≤(r:Int):=by omega
 have r1:(r:Int)<8:=by omega
 have s0:(0:Int)≤(s:Int):=by omega
 have s1:(s:Int)<8:=by omega
 have t0:(0:Int)≤(t:Int):=by omega
 have t1:(t:Int)<8:=by omega
 obtain⟨A,hA⟩:∃ A,w.alloc (.cells #[.int .i64 (r:Int),.int .i64 (s:Int),.int .i64 (t:Int)] 173)=A:=⟨_,rfl⟩
 have HB:∀ W,Below A.heap.size A W→KnM W b bv k:=fun W hW=>by subst hA;exact(h.alloc _).below hW (by simp;omega)
 have HF:∀ W,Below A.heap.size A W→(W.cell? ⟨w.heap.size,0,none⟩=some (.int .i64 (r:Int))∧W.cell? ⟨w.heap.size,1,none⟩=some (.int .i64 (s:Int))∧W.cell? ⟨w.heap.size,2,none⟩=some (.int .i64 (t:Int)))∧(W.cell? ⟨b,s*2,none⟩=some (.int .i64 (k.regs s).lo)∧W.cell? ⟨b,s*2+1,none⟩=some (.int .i64 (k.regs s).hi))∧(W.cell? ⟨b,t*2,none⟩=some (.int .i64 (k.regs t).lo)∧W.cell? ⟨b,t*2+1,none⟩=some (.int .i64 (k.regs t).hi)):=fun W hW=>⟨by subst hA;exact⟨za1 hW 0,za1 hW 1,za1 hW 2⟩,(HB W hW).cR s hs,(HB W hW).cR t ht⟩
 go_enter Tryz.func244,Tryz.ntmps244
 go_wp2
 refine zad 20 (fun W=>Below A.heap.size A W) (Below.refl _ _).drew (by kernel_rfl) (by kernel_rfl) ?_
 simp only [List.take_succ_cons,List.take_zero,List.drop_succ_cons,List.drop_zero]
 repeat(refine zab rfl ?_ (fun W hW=>?_) ?_;rotate_left 1;· (obtain⟨⟨f0,f1,f2⟩,⟨gs,es⟩,⟨gt,et⟩⟩:=HF W hW;go_simp;with_reducible rfl))
 refine zaI rfl 245 #[rv (k.regs s),rv (k.regs t)] (rv ((k.regs s).times (k.regs t))) (fun W hW=>?_) (fun W hW=>(ztH _ _ W (K.regs s hs) (K.regs t ht)).mono (fun e w' hh=>⟨hh.1,hW.trans (hh.2.mono hW.size)⟩)) ?_
 ·go_simp
 repeat(refine zab rfl ?_ (fun W hW=>?_) ?_;rotate_left 1;· (obtain⟨⟨f0,f1,f2⟩,⟨gs,es⟩,⟨gt,et⟩⟩:=HF W hW;go_simp;with_reducible rfl))
 refine wpQuiet_nil ?_
 intro W hW
 have hK:=HB W hW
 have c0:=(hK.cR r hr).1
 have c1:=(hK.cR r hr).2
 have z0:=hK.fz (r*2)
 have z1:=hK.fz (r*2+1)
 have hKK:=hK.putR r hr ((k.regs s).times (k.regs t))
 go_wp2_with(go_at_call 227;(with_reducible refine(zcb hKK h0 h1 n0 n1).mono ?_);intro e w6 hw6;have hw7:=zeA (hA▸hW) hw6;clear hw6;obtain⟨g,rfl,hg,hc,hk,hgr⟩:=hw7)
 go_ret
 exact⟨g,rfl,hg,hc,hk,hgr⟩
theorem ztK{w:World}{b:Nat}{bv:Value}{k:Kn}(h:KnM w b bv k)(r:Nat)(hr:r<8)(n:Int)(h0:0≤k.steps)(h1:k.steps≤100000)(n0:0≤k.next)(n1:k.next≤100000):
  Calls Tryz.prog 250 #[.agg #[.int .i64 (r:Int),.int .i64 n],.pointer (some ⟨b,0,none⟩)] w (zaQ w b bv ({ k with regs:=updR k.regs r ((k.regs r).plus (only n)) }.goTo (k.next+1))):=by
 have hlt:=h.lt
 have r0:(0:Int)≤(r:Int):=by omega
 have r1:(r:Int)<8:=by omega
 obtain⟨A,hA⟩:∃ A,w.alloc (.cells #[.int .i64 (r:Int),.int .i64 n] 174)=A:=⟨_,rfl⟩
 have HB:∀ W,Below A.heap.size A W→KnM W b bv k:=fun W hW=>by subst hA;exact(h.alloc _).below hW (by simp;omega)
 have HF:∀ W,Below A.heap.size A W→(W.cell? ⟨w.heap.size,0,none⟩=some (.int .i64 (r:Int))∧W.cell? ⟨w.heap.size,1,none⟩=some (.int .i64 n))∧(W.cell? ⟨b,r*2,none⟩=some (.int .i64 (k.regs r).lo)∧W.cell? ⟨b,r*2+1,none⟩=some (.int .i64 (k.regs r).hi)):=fun W hW=>⟨by subst hA;exact⟨za1 hW 0,za1 hW 1⟩,(HB W hW).cR r hr⟩
 go_enter Tryz.func250,Tryz.ntmps250
 go_wp2
 refine zad 16 (fun W=>Below A.heap.size A W) (Below.refl _ _).drew (by kernel_rfl) (by kernel_rfl) ?_
 simp only [List.take_succ_cons,List.take_zero,List.drop_succ_cons,List.drop_zero]
 repeat(refine zab rfl ?_ (fun W hW=>?_) ?_;rotate_left 1;· (obtain⟨⟨f0,f1⟩,⟨gr,er⟩⟩:=HF W hW;go_simp;with_reducible rfl))
 refine zaI rfl 226 #[.int .i64 n] (rv (only n)) (fun W hW=>?_) (fun W hW=>(zh2 n W).mono (fun e w' hh=>⟨hh.1,hW.trans (hh.2.mono hW.size)⟩)) ?_
 ·go_simp
 repeat(refine zab rfl ?_ (fun W hW=>?_) ?_;rotate_left 1;· (obtain⟨⟨f0,f1⟩,⟨gr,er⟩⟩:=HF W hW;go_simp;with_reducible rfl))
 refine zaI rfl 234 #[rv (k.regs r),rv (only n)] (rv ((k.regs r).plus (only n))) (fun W hW=>?_) (fun W hW=>(zpu _ _ W).mono (fun e w' hh=>⟨hh.1,hW.trans (hh.2.mono hW.size)⟩)) ?_
 ·go_simp
 repeat(refine zab rfl ?_ (fun W hW=>?_) ?_;rotate_left 1;· (obtain⟨⟨f0,f1⟩,⟨gr,er⟩⟩:=HF W hW;go_simp;with_reducible rfl))
 refine wpQuiet_nil ?_
 intro W hW
 have hK:=HB W hW
 have c0:=(hK.cR r hr).1
 have c1:=(hK.cR r hr).2
 have z0:=hK.fz (r*2)
 have z1:=hK.fz (r*2+1)
 have hKK:=hK.putR r hr ((k.regs r).plus (only n))
 go_wp2_with(go_at_call 227;(with_reducible refine(zcb hKK h0 h1 n0 n1).mono ?_);intro e w6 hw6;have hw7:=zeA (hA▸hW) hw6;clear hw6;obtain⟨g,rfl,hg,hc,hk,hgr⟩:=hw7)
 go_ret
 exact⟨g,rfl,hg,hc,hk,hgr⟩
theorem zqW{w:World}{b:Nat}{bv:Value}{k:Kn}(h:KnM w b bv k)(r:Nat)(hr:r<8)(h0:0≤k.steps)(h1:k.steps≤100000)(n0:0≤k.next)(n1:k.next≤100000):
  Calls Tryz.prog 260 #[.agg #[.int .i64 (r:Int)],.pointer (some ⟨b,0,none⟩)] w (zaQ w b bv ({ k with regs:=updR k.regs r (anyR) }.goTo (k.next+1))):=by
 have hlt:=h.lt
 have r0:(0:Int)≤(r:Int):=by omega
 have r1:(r:Int)<8:=by omega
 obtain⟨A,hA⟩:∃ A,w.alloc (.cells #[.int .i64 (r:Int)] 180)=A:=⟨_,rfl⟩
 have HB:∀ W,Below A.heap.size A W→KnM W b bv k:=fun W hW=>by subst hA;exact(h.alloc _).below hW (by simp;omega)
 have HF:∀ W,Below A.heap.size A W→(W.cell? ⟨w.heap.size,0,none⟩=some (.int .i64 (r:Int))):=fun W hW=>(by subst hA;exact za1 hW 0)
 go_enter Tryz.func260,Tryz.ntmps260
 go_wp2
 refine zad 6 (fun W=>Below A.heap.size A W) (Below.refl _ _).drew (by kernel_rfl) (by kernel_rfl) ?_
 simp only [List.take_succ_cons,List.take_zero,List.drop_succ_cons,List.drop_zero]
 repeat(refine zab rfl ?_ (fun W hW=>?_) ?_;rotate_left 1;· (obtain f0:=HF W hW;go_simp;with_reducible rfl))
 refine zaI rfl 238 #[] (rv anyR) (fun W hW=>?_) (fun W hW=>(ziz W).mono (fun e w' hh=>⟨hh.1,hW.trans (hh.2.mono hW.size)⟩)) ?_
 ·go_simp
 repeat(refine zab rfl ?_ (fun W hW=>?_) ?_;rotate_left 1;· (obtain f0:=HF W hW;go_simp;with_reducible rfl))
 refine wpQuiet_nil ?_
 intro W hW
 have hK:=HB W hW
 have c0:=(hK.cR r hr).1
 have c1:=(hK.cR r hr).2
 have z0:=hK.fz (r*2)
 have z1:=hK.fz (r*2+1)
 have hKK:=hK.putR r hr (anyR)
 go_wp2_with(go_at_call 227;(with_reducible refine(zcb hKK h0 h1 n0 n1).mono ?_);intro e w6 hw6;have hw7:=zeA (hA▸hW) hw6;clear hw6;obtain⟨g,rfl,hg,hc,hk,hgr⟩:=hw7)
 go_ret
 exact⟨g,rfl,hg,hc,hk,hgr⟩
theorem ztL{w:World}{b:Nat}{bv:Value}{k:Kn}(h:KnM w b bv k)(r:Nat)(hr:r<8)(s:Nat)(hs:s<8)(h0:0≤k.steps)(h1:k.steps≤100000)(n0:0≤k.next)(n1:k.next≤100000):
  Calls Tryz.prog 231 #[.agg #[.int .i64 (r:Int),.int .i64 (s:Int)],.pointer (some ⟨b,0,none⟩)] w (zaQ w b bv ({ k with regs:=updR k.regs r (k.regs s) }.goTo (k.next+1))):=by
 have hlt:=h.lt
 have r0:(0:Int)≤(r:Int):=by omega
 have r1:(r:Int)<8:=by omega
 have s0:(0:Int)≤(s:Int):=by omega
 have s1:(s:Int)<8:=by omega
 obtain⟨A,hA⟩:∃ A,w.alloc (.cells #[.int .i64 (r:Int),.int .i64 (s:Int)] 169)=A:=⟨_,rfl⟩
 have HB:∀ W,Below A.heap.size A W→KnM W b bv k:=fun W hW=>by subst hA;exact(h.alloc _).below hW (by simp;omega)
 have HF:∀ W,Below A.heap.size A W→(W.cell? ⟨w.heap.size,0,none⟩=some (.int .i64 (r:Int))∧W.cell? ⟨w.heap.size,1,none⟩=some (.int .i64 (s:Int)))∧(W.cell? ⟨b,s*2,none⟩=some (.int .i64 (k.regs s).lo)∧W.cell? ⟨b,s*2+1,none⟩=some (.int .i64 (k.regs s).hi)):=fun W hW=>⟨by subst hA;exact⟨za1 hW 0,za1 hW 1⟩,(HB W hW).cR s hs⟩
 go_enter Tryz.func231,Tryz.ntmps231
 go_wp2
 refine zad 12 (fun W=>Below A.heap.size A W) (Below.refl _ _).drew (by kernel_rfl) (by kernel_rfl) ?_
 simp only [List.take_succ_cons,List.take_zero,List.drop_succ_cons,List.drop_zero]
 repeat(refine zab rfl ?_ (fun W hW=>?_) ?_;rotate_left 1;· (obtain⟨⟨f0,f1⟩,⟨gs,es⟩⟩:=HF W hW;go_simp;with_reducible rfl))
 refine wpQuiet_nil ?_
 intro W hW
 have hK:=HB W hW
 have c0:=(hK.cR r hr).1
 have c1:=(hK.cR r hr).2
 have z0:=hK.fz (r*2)
 have z1:=hK.fz (r*2+1)
 have hKK:=hK.putR r hr (k.regs s)
 go_wp2_with(go_at_call 227;(with_reducible refine(zcb hKK h0 h1 n0 n1).mono ?_);intro e w6 hw6;have hw7:=zeA (hA▸hW) hw6;clear hw6;obtain⟨g,rfl,hg,hc,hk,hgr⟩:=hw7)
 go_ret
 exact⟨g,rfl,hg,hc,hk,hgr⟩
theorem ztO{w:World}{b:Nat}{bv:Value}{k:Kn}(h:KnM w b bv k)(r:Nat)(hr:r<8)(s:Nat)(hs:s<8)(t:Nat)(ht:t<8)(h0:0≤k.steps)(h1:k.steps≤100000)(n0:0≤k.next)(n1:k.next≤100000):
  Calls Tryz.prog 240 #[.agg #[.int .i64 (r:Int),.int .i64 (s:Int),.int .i64 (t:Int)],.pointer (some ⟨b,0,none⟩)] w (zaQ w b bv ({ k with regs:=updR k.regs r (subR k s t) }.goTo (k.next+1))):=by
 have hlt:=h.lt
 have r0:(0:Int)≤(r:Int):=by omega
 have r1:(r:Int)<8:=by omega
 have s0:(0:Int)≤(s:Int):=by omega
 have s1:(s:Int)<8:=by omega
 have t0:(0:Int)≤(t:Int):=by omega
 have t1:(t:Int)<8:=by omega
 obtain⟨A,hA⟩:∃ A,w.alloc (.cells #[.int .i64 (r:Int),.int .i64 (s:Int),.int .i64 (t:Int)] 172)=A:=⟨_,rfl⟩
 have HB:∀ W,Below A.heap.size A W→KnM W b bv k:=fun W hW=>by subst hA;exact(h.alloc _).below hW (by simp;omega)
 have HF:∀ W,Below A.heap.size A W→(W.cell? ⟨w.heap.size,0,none⟩=some (.int .i64 (r:Int))∧W.cell? ⟨w.heap.size,1,none⟩=some (.int .i64 (s:Int))∧W.cell? ⟨w.heap.size,2,none⟩=some (.int .i64 (t:Int)))∧(W.cell? ⟨b,s*2,none⟩=some (.int .i64 (k.regs s).lo)∧W.cell? ⟨b,s*2+1,none⟩=some (.int .i64 (k.regs s).hi))∧(W.cell? ⟨b,t*2,none⟩=some (.int .i64 (k.regs t).lo)∧W.cell? ⟨b,t*2+1,none⟩=some (.int .i64 (k.regs t).hi)):=fun W hW=>⟨by subst hA;exact⟨za1 hW 0,za1 hW 1,za1 hW 2⟩,(HB W hW).cR s hs,(HB W hW).cR t ht⟩
 go_enter Tryz.func240,Tryz.ntmps240
 go_wp2
 refine zad 8 (fun W=>Below A.heap.size A W) (Below.refl _ _).drew (by kernel_rfl) (by kernel_rfl) ?_
 simp only [List.take_succ_cons,List.take_zero,List.drop_succ_cons,List.drop_zero]
 repeat(refine zab rfl ?_ (fun W hW=>?_) ?_;rotate_left 1;· (obtain⟨⟨f0,f1,f2⟩,⟨gs,es⟩,⟨gt,et⟩⟩:=HF W hW;go_simp;with_reducible rfl))
 refine zaI rfl 241 #[.agg #[.int .i64 (r:Int),.int .i64 (s:Int),.int .i64 (t:Int)],.pointer (some ⟨b,0,none⟩)] (rv (subR k s t)) (fun W hW=>?_) (fun W hW=>(zw1 (HB W hW) r s hs t ht).mono (fun e w' hh=>⟨hh.1,hW.trans (hh.2.mono hW.size)⟩)) ?_
 ·go_simp
 repeat(refine zab rfl ?_ (fun W hW=>?_) ?_;rotate_left 1;· (obtain⟨⟨f0,f1,f2⟩,⟨gs,es⟩,⟨gt,et⟩⟩:=HF W hW;go_simp;with_reducible rfl))
 refine wpQuiet_nil ?_
 intro W hW
 have hK:=HB W hW
 have c0:=(hK.cR r hr).1
 have c1:=(hK.cR r hr).2
 have z0:=hK.fz (r*2)
 have z1:=hK.fz (r*2+1)
 have hKK:=hK.putR r hr (subR k s t)
 go_wp2_with(go_at_call 227;(with_reducible refine(zcb hKK h0 h1 n0 n1).mono ?_);intro e w6 hw6;have hw7:=zeA (hA▸hW) hw6;clear hw6;obtain⟨g,rfl,hg,hc,hk,hgr⟩:=hw7)
 go_ret
 exact⟨g,rfl,hg,hc,hk,hgr⟩
theorem zrb{w:World}{b:Nat}{bv:Value}{k:Kn}(h:KnM w b bv k)(r:Nat)(hr:r<8)(s:Nat)(hs:s<8)(hle:(k.regs s).lo≤(k.regs s).hi)(q0:0≤(k.regs s).lo)(q1:(k.regs s).hi≤15)(h0:0≤k.steps)(h1:k.steps≤100000)(n0:0≤k.next)(n1:k.next≤100000):
  Calls Tryz.prog 252 #[.agg #[.int .i64 (r:Int),.int .i64 (s:Int)],.pointer (some ⟨b,0,none⟩)] w (zaQ w b bv ({ k with regs:=updR k.regs r (zch k.cells (k.regs s).lo.toNat ((k.regs s).hi.toNat-(k.regs s).lo.toNat)) }.goTo (k.next+1))):=by
 have hlt:=h.lt
 have r0:(0:Int)≤(r:Int):=by omega
 have r1:(r:Int)<8:=by omega
 have s0:(0:Int)≤(s:Int):=by omega
 have s1:(s:Int)<8:=by omega
 obtain⟨A,hA⟩:∃ A,w.alloc (.cells #[.int .i64 (r:Int),.int .i64 (s:Int)] 176)=A:=⟨_,rfl⟩
 have HB:∀ W,Below A.heap.size A W→KnM W b bv k:=fun W hW=>by subst hA;exact(h.alloc _).below hW (by simp;omega)
 have HF:∀ W,Below A.heap.size A W→(W.cell? ⟨w.heap.size,0,none⟩=some (.int .i64 (r:Int))∧W.cell? ⟨w.heap.size,1,none⟩=some (.int .i64 (s:Int)))∧(W.cell? ⟨b,s*2,none⟩=some (.int .i64 (k.regs s).lo)∧W.cell? ⟨b,s*2+1,none⟩=some (.int .i64 (k.regs s).hi)):=fun W hW=>⟨by subst hA;exact⟨za1 hW 0,za1 hW 1⟩,(HB W hW).cR s hs⟩
 go_enter Tryz.func252,Tryz.ntmps252
 go_wp2
 refine zad 14 (fun W=>Below A.heap.size A W) (Below.refl _ _).drew (by kernel_rfl) (by kernel_rfl) ?_
 simp only [List.take_succ_cons,List.take_zero,List.drop_succ_cons,List.drop_zero]
 repeat(refine zab rfl ?_ (fun W hW=>?_) ?_;rotate_left 1;· (obtain⟨⟨f0,f1⟩,⟨gs,es⟩⟩:=HF W hW;go_simp;with_reducible rfl))
 refine zaI rfl 254 #[.pointer (some ⟨b,0,none⟩),rv (k.regs s)] (rv (zch k.cells (k.regs s).lo.toNat ((k.regs s).hi.toNat-(k.regs s).lo.toNat))) (fun W hW=>?_) (fun W hW=>(ztM (HB W hW) (k.regs s) hle q0 q1).mono (fun e w' hh=>⟨hh.1,hW.trans (hh.2.mono hW.size)⟩)) ?_
 ·go_simp
 repeat(refine zab rfl ?_ (fun W hW=>?_) ?_;rotate_left 1;· (obtain⟨⟨f0,f1⟩,⟨gs,es⟩⟩:=HF W hW;go_simp;with_reducible rfl))
 refine wpQuiet_nil ?_
 intro W hW
 have hK:=HB W hW
 have c0:=(hK.cR r hr).1
 have c1:=(hK.cR r hr).2
 have z0:=hK.fz (r*2)
 have z1:=hK.fz (r*2+1)
 have hKK:=hK.putR r hr (zch k.cells (k.regs s).lo.toNat ((k.regs s).hi.toNat-(k.regs s).lo.toNat))
 go_wp2_with(go_at_call 227;(with_reducible refine(zcb hKK h0 h1 n0 n1).mono ?_);intro e w6 hw6;have hw7:=zeA (hA▸hW) hw6;clear hw6;obtain⟨g,rfl,hg,hc,hk,hgr⟩:=hw7)
 go_ret
 exact⟨g,rfl,hg,hc,hk,hgr⟩
theorem znS{w:World}{b:Nat}{bv:Value}{k:Kn}(h:KnM w b bv k)(r:Nat)(hr:r<8)(s:Nat)(hs:s<8)(hle:(k.regs r).lo≤(k.regs r).hi)(q0:0≤(k.regs r).lo)(q1:(k.regs r).hi≤15)(h0:0≤k.steps)(h1:k.steps≤100000)(n0:0≤k.next)(n1:k.next≤100000):
  Calls Tryz.prog 257 #[.agg #[.int .i64 (r:Int),.int .i64 (s:Int)],.pointer (some ⟨b,0,none⟩)] w (zaQ w b bv ({ k with cells:=zaB k.cells (k.regs r).lo.toNat (k.regs r).hi.toNat (k.regs s) }.goTo (k.next+1))):=by
 have hlt:=h.lt
 have r0:(0:Int)≤(r:Int):=by omega
 have r1:(r:Int)<8:=by omega
 have s0:(0:Int)≤(s:Int):=by omega
 have s1:(s:Int)<8:=by omega
 obtain⟨A,hA⟩:∃ A,w.alloc (.cells #[.int .i64 (r:Int),.int .i64 (s:Int)] 178)=A:=⟨_,rfl⟩
 have HB:∀ W,Below A.heap.size A W→KnM W b bv k:=fun W hW=>by subst hA;exact(h.alloc _).below hW (by simp;omega)
 have hL:∀ W,Below A.heap.size A W→Below w.heap.size w W:=fun W hW=>by subst hA;exact box1.trans (hW.mono (by simp))
 have HF:∀ W,Below A.heap.size A W→(W.cell? ⟨w.heap.size,0,none⟩=some (.int .i64 (r:Int))∧W.cell? ⟨w.heap.size,1,none⟩=some (.int .i64 (s:Int)))∧(W.cell? ⟨b,r*2,none⟩=some (.int .i64 (k.regs r).lo)∧W.cell? ⟨b,r*2+1,none⟩=some (.int .i64 (k.regs r).hi))∧(W.cell? ⟨b,s*2,none⟩=some (.int .i64 (k.regs s).lo)∧W.cell? ⟨b,s*2+1,none⟩=some (.int .i64 (k.regs s).hi)):=fun W hW =>
  ⟨by subst hA;exact⟨za1 hW 0,za1 hW 1⟩,(HB W hW).cR r hr,(HB W hW).cR s hs⟩
 go_enter Tryz.func257,Tryz.ntmps257
 go_wp2
 refine zad 15 (fun W=>Below A.heap.size A W) (Below.refl _ _).drew (by kernel_rfl) (by kernel_rfl) ?_
 simp only [List.take_succ_cons,List.take_zero,List.drop_succ_cons,List.drop_zero]
 repeat(refine zab rfl ?_ (fun W hW=>?_) ?_;rotate_left 1;· (obtain⟨⟨f0,f1⟩,⟨f2,f3⟩,f4,f5⟩:=HF W hW;go_simp;with_reducible rfl))
 refine wpQuiet_nil ?_
 intro W hW
 have hK:=HB W hW
 have hW2:=hL W hW
 go_wp2_with(first|(go_at_call 258;(with_reducible refine(zqZ hK (k.regs r) (k.regs s) hle q0 q1).mono ?_);rintro e w5 ⟨rfl,hK5,hg5⟩)|(go_at_call 227;(with_reducible refine(zcb hK5 h0 h1 n0 n1).mono ?_);intro e w6 hw6;have hw7:=zcX (zae (zaJ hW2) hg5) hw6;clear hw6;obtain⟨g,rfl,hg,hc,hk,hgr⟩:=hw7))
 go_ret
 exact⟨g,rfl,hg,hc,hk,hgr⟩
theorem ztC{w:World}{S o cap n b:Nat}{ao:Option Addr}{R:Rs}{bv:Value}{k:Kn}(h:RsC w S o (.slice ao n cap) R)(X:KnM w b bv k)(e:k.steps=R.steps)(P:World→Prop)(hs:∀ W,Below w.heap.size w W→Calls Tryz.prog 152 #[.pointer (some ⟨S,o,none⟩),.pointer (some ⟨b,0,none⟩)] W fun e w'=>e=.returned (.tuple #[])∧P w'):
  Calls Tryz.prog 135 #[.pointer (some ⟨S,o,none⟩),.pointer (some ⟨b,0,none⟩)] w fun e w'=>e=.returned (.bool false)∧P w':=by
 have HF:∀ W,Below w.heap.size w W→W.cell? ⟨S,o,none⟩=some (.slice ao n cap)∧W.cell? ⟨S,o+1,none⟩=some (.int .i64 R.steps)∧W.cell? ⟨S,o+2,none⟩=some (.int .i64 (R.seen:Int))∧W.cell? ⟨S,o+3,none⟩=some (.bool R.covers):=fun W hW=>by
  have q:=h.below hW
  exact⟨q.cM,q.cS,q.cN,q.cC⟩
 have te:(k.steps != R.steps)=false:=by simpa using e
 clear e
 go_enter Tryz.func135,Tryz.ntmps135
 go_wp2
 refine zad 6 (fun W=>Below w.heap.size w W) (Below.refl _ _).drew (by kernel_rfl) (by kernel_rfl) ?_
 simp only [List.take_succ_cons,List.take_zero,List.drop_succ_cons,List.drop_zero]
 iterate 1 (refine zab rfl ?_ (fun W hW=>?_) ?_;rotate_left 1;· (obtain⟨q0,q1,q2,q3⟩:=HF W hW;go_simp;with_reducible rfl))
 refine zaI rfl 134 #[.pointer (some ⟨b,0,none⟩)] (.int .i64 k.steps) (fun W hW=>?_) (fun W hW=>(zbI (X.below hW X.lt)).mono (fun e w' hh=>⟨hh.1,by rw [hh.2];exact hW⟩)) ?_
 ·go_simp
 iterate 4 (refine zab rfl ?_ (fun W hW=>?_) ?_;rotate_left 1;· (obtain⟨q0,q1,q2,q3⟩:=HF W hW;go_simp;with_reducible rfl))
 refine wpQuiet_nil ?_
 intro W1 hW1
 have hs1:=hs W1 hW1
 go_wp2_with(go_at_call 152;(with_reducible refine hs1.mono ?_);rintro e wx ⟨rfl,hp⟩)
 go_ret
 exact⟨rfl,hp⟩
theorem zwz{w:World}{S o cap n b:Nat}{ao:Option Addr}{R:Rs}{bv:Value}{k:Kn}(h:RsC w S o (.slice ao n cap) R)(X:KnM w b bv k)(e:¬k.steps=R.steps)(hc:R.covers=true)(hn:R.seen=n)(hl:n≤500000):
  Calls Tryz.prog 135 #[.pointer (some ⟨S,o,none⟩),.pointer (some ⟨b,0,none⟩)] w fun e w'=>e=.returned (.bool true)∧Below w.heap.size w w':=by
 have HF:∀ W,Below w.heap.size w W→W.cell? ⟨S,o,none⟩=some (.slice ao n cap)∧W.cell? ⟨S,o+1,none⟩=some (.int .i64 R.steps)∧W.cell? ⟨S,o+2,none⟩=some (.int .i64 (n:Int))∧W.cell? ⟨S,o+3,none⟩=some (.bool true):=fun W hW=>by
  have q:=h.below hW
  exact⟨q.cM,q.cS,by rw [←hn];exact q.cN,by rw [←hc];exact q.cC⟩
 have te:(k.steps != R.steps)=true:=by simpa using e
 have hn2:(n:Int)≤500000:=by omega
 clear e hn hc hl
 go_enter Tryz.func135,Tryz.ntmps135
 go_wp2
 refine zad 6 (fun W=>Below w.heap.size w W) (Below.refl _ _).drew (by kernel_rfl) (by kernel_rfl) ?_
 simp only [List.take_succ_cons,List.take_zero,List.drop_succ_cons,List.drop_zero]
 iterate 1 (refine zab rfl ?_ (fun W hW=>?_) ?_;rotate_left 1;· (obtain⟨q0,q1,q2,q3⟩:=HF W hW;go_simp;with_reducible rfl))
 refine zaI rfl 134 #[.pointer (some ⟨b,0,none⟩)] (.int .i64 k.steps) (fun W hW=>?_) (fun W hW=>(zbI (X.below hW X.lt)).mono (fun e w' hh=>⟨hh.1,by rw [hh.2];exact hW⟩)) ?_
 ·go_simp
 iterate 4 (refine zab rfl ?_ (fun W hW=>?_) ?_;rotate_left 1;· (obtain⟨q0,q1,q2,q3⟩:=HF W hW;go_simp;with_reducible rfl))
 refine wpQuiet_nil ?_
 intro W1 hW1
 go_wp2
 refine zad 15 (fun W=>Below w.heap.size w W) hW1.drew (by kernel_rfl) (by kernel_rfl) ?_
 simp only [List.take_succ_cons,List.take_zero,List.drop_succ_cons,List.drop_zero]
 iterate 5 (refine zab rfl ?_ (fun W hW=>?_) ?_;rotate_left 1;· (obtain⟨q0,q1,q2,q3⟩:=HF W hW;go_simp;with_reducible rfl))
 simp only [Act.put,List.setIfInBounds_toArray,List.set_cons_zero,List.set_cons_succ]
 iterate 10 (go_big_quiet_want;rename_i K hK;refine⟨?_,fun W hW=>?_,hK _ ?_⟩;rotate_left 1;(· (obtain⟨q0,q1,q2,q3⟩:=HF W hW;unfold Oper.quietAt;go_simp;with_reducible rfl));clear hK K;simp only [Act.put,List.setIfInBounds_toArray,List.set_cons_zero,List.set_cons_succ])
 refine wpQuiet_nil ?_
 intro W2 hW2
 go_wp2
 go_ret
 exact⟨rfl,hW2⟩
theorem ztD{w:World}{S o cap n b:Nat}{ao:Option Addr}{R:Rs}{bv:Value}{k:Kn}(h:RsC w S o (.slice ao n cap) R)(X:KnM w b bv k)(e:¬k.steps=R.steps)(hc:R.covers=true)(hn:¬R.seen=n)(hl:n≤500000)(_hl2:R.seen≤500000)(Q P:World→Prop)(hg:∀ W,Below w.heap.size w W→Calls Tryz.prog 151 #[.pointer (some ⟨S,o,none⟩),.int .i64 k.steps] W fun e w'=>e=.returned (.tuple #[])∧Q w')
  (hs:∀ W,Q W→Calls Tryz.prog 152 #[.pointer (some ⟨S,o,none⟩),.pointer (some ⟨b,0,none⟩)] W fun e w'=>e=.returned (.tuple #[])∧P w') :
  Calls Tryz.prog 135 #[.pointer (some ⟨S,o,none⟩),.pointer (some ⟨b,0,none⟩)] w fun e w'=>e=.returned (.bool false)∧P w':=by
 have HF:∀ W,Below w.heap.size w W→W.cell? ⟨S,o,none⟩=some (.slice ao n cap)∧W.cell? ⟨S,o+1,none⟩=some (.int .i64 R.steps)∧W.cell? ⟨S,o+2,none⟩=some (.int .i64 (R.seen:Int))∧W.cell? ⟨S,o+3,none⟩=some (.bool true):=fun W hW=>by
  have q:=h.below hW
  exact⟨q.cM,q.cS,q.cN,by rw [←hc];exact q.cC⟩
 have te:(k.steps != R.steps)=true:=by simpa using e
 have tn:((R.seen:Int) == (n:Int))=false:=by simpa using (by omega:¬(R.seen:Int)=(n:Int))
 have hn2:(n:Int)≤500000:=by omega
 have hst:=fun W (hW:Below w.heap.size w W)=>zbI (X.below hW X.lt)
 clear e hn hc hl
 go_enter Tryz.func135,Tryz.ntmps135
 go_wp2
 refine zad 6 (fun W=>Below w.heap.size w W) (Below.refl _ _).drew (by kernel_rfl) (by kernel_rfl) ?_
 simp only [List.take_succ_cons,List.take_zero,List.drop_succ_cons,List.drop_zero]
 iterate 1 (refine zab rfl ?_ (fun W hW=>?_) ?_;rotate_left 1;· (obtain⟨q0,q1,q2,q3⟩:=HF W hW;go_simp;with_reducible rfl))
 refine zaI rfl 134 #[.pointer (some ⟨b,0,none⟩)] (.int .i64 k.steps) (fun W hW=>?_) (fun W hW=>(zbI (X.below hW X.lt)).mono (fun e w' hh=>⟨hh.1,by rw [hh.2];exact hW⟩)) ?_
 ·go_simp
 iterate 4 (refine zab rfl ?_ (fun W hW=>?_) ?_;rotate_left 1;· (obtain⟨q0,q1,q2,q3⟩:=HF W hW;go_simp;with_reducible rfl))
 refine wpQuiet_nil ?_
 intro W1 hW1
 go_wp2
 refine zad 15 (fun W=>Below w.heap.size w W) hW1.drew (by kernel_rfl) (by kernel_rfl) ?_
 simp only [List.take_succ_cons,List.take_zero,List.drop_succ_cons,List.drop_zero]
 iterate 5 (refine zab rfl ?_ (fun W hW=>?_) ?_;rotate_left 1;· (obtain⟨q0,q1,q2,q3⟩:=HF W hW;go_simp;with_reducible rfl))
 simp only [Act.put,List.setIfInBounds_toArray,List.set_cons_zero,List.set_cons_succ]
 iterate 10 (go_big_quiet_want;rename_i K hK;refine⟨?_,fun W hW=>?_,hK _ ?_⟩;rotate_left 1;(· (obtain⟨q0,q1,q2,q3⟩:=HF W hW;unfold Oper.quietAt;go_simp;with_reducible rfl));clear hK K;simp only [Act.put,List.setIfInBounds_toArray,List.set_cons_zero,List.set_cons_succ])
 refine wpQuiet_nil ?_
 intro W2 hW2
 have hst2:=hst W2 hW2
 have hg2:=hg W2 hW2
 go_wp2_with(first
  | (go_at_call 134;(with_reducible refine hst2.mono ?_);rintro e wx ⟨rfl,hww⟩;have hw2:=hww.symm;subst hw2)
  | (go_at_call 151;(with_reducible refine hg2.mono ?_);rintro e wy ⟨rfl,hq⟩;have hs2:=hs wy hq)
  | (go_at_call 152;(with_reducible refine hs2.mono ?_);rintro e wz ⟨rfl,hp⟩))
 go_ret
 exact⟨rfl,hp⟩
theorem ztE{w:World}{S o cap n b:Nat}{ao:Option Addr}{R:Rs}{bv:Value}{k:Kn}(h:RsC w S o (.slice ao n cap) R)(X:KnM w b bv k)(e:¬k.steps=R.steps)(hc:R.covers=false)(Q P:World→Prop)(hg:∀ W,Below w.heap.size w W→Calls Tryz.prog 151 #[.pointer (some ⟨S,o,none⟩),.int .i64 k.steps] W fun e w'=>e=.returned (.tuple #[])∧Q w')
  (hs:∀ W,Q W→Calls Tryz.prog 152 #[.pointer (some ⟨S,o,none⟩),.pointer (some ⟨b,0,none⟩)] W fun e w'=>e=.returned (.tuple #[])∧P w') :
  Calls Tryz.prog 135 #[.pointer (some ⟨S,o,none⟩),.pointer (some ⟨b,0,none⟩)] w fun e w'=>e=.returned (.bool false)∧P w':=by
 have HF:∀ W,Below w.heap.size w W→W.cell? ⟨S,o,none⟩=some (.slice ao n cap)∧W.cell? ⟨S,o+1,none⟩=some (.int .i64 R.steps)∧W.cell? ⟨S,o+2,none⟩=some (.int .i64 (R.seen:Int))∧W.cell? ⟨S,o+3,none⟩=some (.bool false):=fun W hW=>by
  have q:=h.below hW
  exact⟨q.cM,q.cS,q.cN,by rw [←hc];exact q.cC⟩
 have te:(k.steps != R.steps)=true:=by simpa using e
 have hst:=fun W (hW:Below w.heap.size w W)=>zbI (X.below hW X.lt)
 clear e hc
 go_enter Tryz.func135,Tryz.ntmps135
 go_wp2
 refine zad 6 (fun W=>Below w.heap.size w W) (Below.refl _ _).drew (by kernel_rfl) (by kernel_rfl) ?_
 simp only [List.take_succ_cons,List.take_zero,List.drop_succ_cons,List.drop_zero]
 iterate 1 (refine zab rfl ?_ (fun W hW=>?_) ?_;rotate_left 1;· (obtain⟨q0,q1,q2,q3⟩:=HF W hW;go_simp;with_reducible rfl))
 refine zaI rfl 134 #[.pointer (some ⟨b,0,none⟩)] (.int .i64 k.steps) (fun W hW=>?_) (fun W hW=>(zbI (X.below hW X.lt)).mono (fun e w' hh=>⟨hh.1,by rw [hh.2];exact hW⟩)) ?_
 ·go_simp
 iterate 4 (refine zab rfl ?_ (fun W hW=>?_) ?_;rotate_left 1;· (obtain⟨q0,q1,q2,q3⟩:=HF W hW;go_simp;with_reducible rfl))
 refine wpQuiet_nil ?_
 intro W1 hW1
 go_wp2
 refine zad 15 (fun W=>Below w.heap.size w W) hW1.drew (by kernel_rfl) (by kernel_rfl) ?_
 simp only [List.take_succ_cons,List.take_zero,List.drop_succ_cons,List.drop_zero]
 iterate 5 (refine zab rfl ?_ (fun W hW=>?_) ?_;rotate_left 1;· (obtain⟨q0,q1,q2,q3⟩:=HF W hW;go_simp;with_reducible rfl))
 simp only [Act.put,List.setIfInBounds_toArray,List.set_cons_zero,List.set_cons_succ]
 iterate 10 go_big_quiet_skip
 refine wpQuiet_nil ?_
 intro W2 hW2
 have hst2:=hst W2 hW2
 have hg2:=hg W2 hW2
 go_wp2_with(first
  | (go_at_call 134;(with_reducible refine hst2.mono ?_);rintro e wx ⟨rfl,hww⟩;have hw2:=hww.symm;subst hw2)
  | (go_at_call 151;(with_reducible refine hg2.mono ?_);rintro e wy ⟨rfl,hq⟩;have hs2:=hs wy hq)
  | (go_at_call 152;(with_reducible refine hs2.mono ?_);rintro e wz ⟨rfl,hp⟩))
 go_ret
 exact⟨rfl,hp⟩
end Go.Proofs.YtfpgjkbjbbgciaaGreatDoor
