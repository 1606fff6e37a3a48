import Derived.Test.YtfpgjkbjbbgciaaGreatDoorMj28
import Derived.Test.YtfpgjkbjbbgciaaGreatDoorMj40
set_option maxRecDepth 100000
set_option maxHeartbeats 8000000
namespace Go.Proofs.YtfpgjkbjbbgciaaGreatDoor
open Go.RowKit Sp
def zbn(f g:Nat→Rg)(j:Nat):Nat→Rg:=fun i=>if i<j then(f i).or (g i) else f i
theorem ziE(f g:Nat→Rg):zbn f g 0=f:=by funext i;simp [zbn]
theorem zmw(f g:Nat→Rg)(j:Nat):zbn f g j j=f j:=by simp [zbn]
theorem ziF(f g:Nat→Rg)(j:Nat):updR (zbn f g j) j ((f j).or (g j))=zbn f g (j+1):=by
 funext i
 unfold updR zbn;by_cases e:i=j
 ·subst e;rw [if_pos rfl,if_pos (by omega)]
 ·rw [if_neg e];by_cases a:i<j
  ·rw [if_pos a,if_pos (by omega)]
  ·rw [if_neg a,if_neg (by omega)]
theorem KnM.like{w:World}{b:Nat}{bv:Value}{k k2:Kn}(h:KnM w b bv k)(h1:∀ r,r<8→k2.regs r=k.regs r)(h2:∀ c,c<16→k2.cells c=k.cells c)(h3:k2.next=k.next)(h4:k2.steps=k.steps):KnM w b bv k2 :=
 ⟨fun r hr=>by rw [h1 r hr];exact h.cR r hr,fun c hc=>by rw [h2 c hc];exact h.cC c hc,by rw [h3];exact h.cN,h.cB,by rw [h4];exact h.cS,h.fz⟩
theorem zz2{w:World}{b:Nat}{bv:Value}{k o:Kn}(h:KnM w b bv { k with regs:=zbn k.regs o.regs 8,cells:=zbn k.cells o.cells 16 }):KnM w b bv (zfJ k o) :=
 h.like (fun r hr=>by show _=zbn k.regs o.regs 8 r;unfold zbn;rw [if_pos hr];rfl) (fun r hr=>by show _=zbn k.cells o.cells 16 r;unfold zbn;rw [if_pos hr];rfl) rfl rfl
structure JnM(w wr:World)(b c:Nat)(bv cv:Value)(k o:Kn):Prop where
 kn:KnM wr b bv k
 ot:KnM wr c cv o
 low:w.grownBy wr (some b)
theorem JnM.below{w wr wy:World}{b c:Nat}{bv cv:Value}{k o:Kn}(L:JnM w wr b c bv cv k o)(hb:qB wr wy):JnM w wy b c bv cv k o :=
 ⟨L.kn.below hb L.kn.lt,L.ot.below hb L.ot.lt,zag L.low ⟨hb.os,hb.tape,hb.output,hb.size,fun q hq _=>hb.block q hq⟩⟩
theorem KnM.other{w:World}{b c n:Nat}{v cv:Value}{o:Kn}(h:KnM w c cv o)(hne:¬c=b):KnM (w.setCell ⟨b,n,none⟩ v) c cv o:=h.block (Below.heap_setCell w _ _ c hne)
theorem JnM.putR{w wr:World}{b c:Nat}{bv cv:Value}{k o:Kn}(L:JnM w wr b c bv cv k o)(hne:¬c=b)(a:Nat)(ha:a<8)(u:Rg):JnM w ((wr.setCell ⟨b,a*2,none⟩ (.int .i64 u.lo)).setCell ⟨b,a*2+1,none⟩ (.int .i64 u.hi)) b c bv cv { k with regs:=updR k.regs a u } o :=
 ⟨L.kn.putR a ha u,(L.ot.other hne).other hne,zag L.low (zag (zac (Below.refl _ _)) (zac (Below.refl _ _)))⟩
theorem JnM.putC{w wr:World}{b c:Nat}{bv cv:Value}{k o:Kn}(L:JnM w wr b c bv cv k o)(hne:¬c=b)(a:Nat)(ha:a<16)(u:Rg):JnM w ((wr.setCell ⟨b,16+a*2,none⟩ (.int .i64 u.lo)).setCell ⟨b,16+a*2+1,none⟩ (.int .i64 u.hi)) b c bv cv { k with cells:=updR k.cells a u } o :=
 ⟨L.kn.putC a ha u,(L.ot.other hne).other hne,zag L.low (zag (zac (Below.refl _ _)) (zac (Below.refl _ _)))⟩
theorem zfp{w wx:World}{cs:Array Value}{t:TypeId}(hbx:Below (w.alloc (.cells cs t)).heap.size (w.alloc (.cells cs t)) wx)(j:Nat):wx.cell? ⟨w.heap.size,j,none⟩=cs[j]? :=
 (World.cell?_of_block (a:=⟨w.heap.size,j,none⟩) (hbx.block w.heap.size (by simp))).trans (World.cell?_alloc_new _ _ _ j)
theorem Tryz.size214:(Tryz.prog.info? 214).map (·.size)=some 16:=by kernel_rfl
theorem Tryz.size215:(Tryz.prog.info? 215).map (·.size)=some 32:=by kernel_rfl
theorem Tryz.row214:Tryz.prog.underlying 214=some (.array 8 213):=by kernel_rfl
theorem Tryz.row215:Tryz.prog.underlying 215=some (.array 16 213):=by kernel_rfl
theorem zuj{w:World}{b c:Nat}{bv cv:Value}{k o:Kn}(h:KnM w b bv k)(h2:KnM w c cv o)(hne:¬c=b):qC 142 #[.pointer (some ⟨b,0,none⟩),.pointer (some ⟨c,0,none⟩)] w (zms w b bv (zfJ k o)):=by
 have i:=h2.rowR;have H:JnM w w b c bv cv { k with regs:=zbn k.regs o.regs 0 } o:=by rw [ziE];exact⟨h,h2,⟨rfl,rfl,rfl,Nat.le_refl _,fun _ _ _=>rfl⟩⟩
 have n:(Tryz.prog.info? 214).map (·.size)=some (rgs o.regs 8).length:=by rw [zdT];exact Tryz.size214
 have I:=fun r i W=>zpx Tryz.row214 o.regs r i W;generalize rgs o.regs 8=cs at i n I;go_enter Tryz.func142,Tryz.ntmps142;go_wp2_with(first|(refine wpList_load_mid rfl 214 _ rfl c 0 rfl cs _ i Tryz.row214 rfl n ?_))
 go_loopw [12] (fun ti wr=>∃ j:Nat,j≤8∧ti=.int .i64 (j:Int)∧JnM w wr b c bv cv { k with regs:=zbn k.regs o.regs j } o) (fun ti _=>8-(intOf ti).toNat)
 case atStart=>exact⟨0,by omega,rfl,H⟩
 case round =>
  obtain⟨j,K,rfl,L⟩:=hrel;by_cases d:j<8
  ·have E:=I j d;have F:(0:Int)≤(j:Int):=by omega
   have D:(j:Int)<8:=by omega
   have Q:=L.kn.cR j d;have x:zbn k.regs o.regs j j=k.regs j:=zmw _ _ _;obtain⟨A,l⟩:∃ A,wr.alloc (.cells #[.int .i64 (o.regs j).lo,.int .i64 (o.regs j).hi] 213)=A:=⟨_,rfl⟩
   have G:∀ W,qB A W→qB wr W:=fun W a=>by subst l;exact box1.trans (a.mono (by simp))
   have u:∀ W,qB A W→JnM w W b c bv cv { k with regs:=zbn k.regs o.regs j } o:=fun W a=>L.below (G W a);have g:∀ W,qB A W→(W.cell? ⟨wr.heap.size,0,none⟩=some (.int .i64 (o.regs j).lo)∧W.cell? ⟨wr.heap.size,1,none⟩=some (.int .i64 (o.regs j).hi))∧(W.cell? ⟨b,j*2,none⟩=some (.int .i64 (k.regs j).lo)∧W.cell? ⟨b,j*2+1,none⟩=some (.int .i64 (k.regs j).hi)):=fun W a=>by
    have t:=(u W a).kn.cR j d;rw [show({ k with regs:=zbn k.regs o.regs j }:Kn).regs j=k.regs j from x] at t;exact⟨by subst l;exact⟨zfp a 0,zfp a 1⟩,t⟩
   go_wp2;refine zaf 12 (fun W=>qB A W) (Below.refl _ _).drew (by kernel_rfl) (by kernel_rfl) ?_;simp only [q2];repeat(refine zab rfl ?_ (fun W a=>?_) ?_;rotate_left 1;· (obtain⟨⟨z,y⟩,B,C⟩:=g W a;go_simp;with_reducible rfl))
   refine zaU rfl 156 #[rv (k.regs j),rv (o.regs j)] (rv ((k.regs j).or (o.regs j))) (fun W a=>?_) (fun W a=>(zpu _ _ W).mono (fun e w' hh=>⟨hh.1,a.trans (hh.2.mono a.size)⟩)) ?_
   ·go_simp
   repeat(refine zab rfl ?_ (fun W a=>?_) ?_;rotate_left 1;· (obtain⟨⟨z,y⟩,B,C⟩:=g W a;go_simp;with_reducible rfl))
   refine wpQuiet_nil ?_;intro W a;have f:=u W a;obtain⟨_,O,J⟩:=g W a;have N:=f.kn.fz (j*2);have P:=f.kn.fz (j*2+1);have q:=f.putR hne j d ((k.regs j).or (o.regs j));have v:JnM w ((W.setCell ⟨b,j*2,none⟩ (.int .i64 ((k.regs j).or (o.regs j)).lo)).setCell ⟨b,j*2+1,none⟩ (.int .i64 ((k.regs j).or (o.regs j)).hi)) b c bv cv { k with regs:=zbn k.regs o.regs (j+1) } o:=by
    have e:updR (zbn k.regs o.regs j) j ((k.regs j).or (o.regs j))=zbn k.regs o.regs (j+1):=ziF _ _ _;rw [←e];exact q
   clear q f;go_wp2;exact⟨⟨j+1,by omega,by go_num,v⟩,by simp [intOf];omega⟩
  ·obtain rfl:j=8:=by omega
   have s:=L.ot.rowC;have M:JnM w wr b c bv cv { k with regs:=zbn k.regs o.regs 8,cells:=zbn k.cells o.cells 0 } o:=by rw [ziE];exact L
   have p:(Tryz.prog.info? 215).map (·.size)=some (rgs o.cells 16).length:=by rw [zdT];exact Tryz.size215
   have m:=fun r i W=>zpx Tryz.row215 o.cells r i W;generalize rgs o.cells 16=ds at s p m;clear L H;go_wp2_with(first|(refine wpList_load_mid rfl 215 _ rfl c 16 rfl ds _ s Tryz.row215 rfl p ?_))
   go_loopw [34] (fun ti wr=>∃ j:Nat,j≤16∧ti=.int .i64 (j:Int)∧JnM w wr b c bv cv { k with regs:=zbn k.regs o.regs 8,cells:=zbn k.cells o.cells j } o) (fun ti _=>16-(intOf ti).toNat)
   case atStart=>exact⟨0,by omega,rfl,M⟩
   case round =>
    obtain⟨j,K,rfl,L⟩:=hrel;by_cases d:j<16
    ·have E:=m j d;have F:(0:Int)≤(j:Int):=by omega
     have D:(j:Int)<16:=by omega
     have Q:=L.kn.cC j d;have x:zbn k.cells o.cells j j=k.cells j:=zmw _ _ _;obtain⟨A,l⟩:∃ A,wr.alloc (.cells #[.int .i64 (o.cells j).lo,.int .i64 (o.cells j).hi] 213)=A:=⟨_,rfl⟩
     have G:∀ W,qB A W→qB wr W:=fun W a=>by subst l;exact box1.trans (a.mono (by simp))
     have u:∀ W,qB A W→JnM w W b c bv cv { k with regs:=zbn k.regs o.regs 8,cells:=zbn k.cells o.cells j } o:=fun W a=>L.below (G W a);have g:∀ W,qB A W→(W.cell? ⟨wr.heap.size,0,none⟩=some (.int .i64 (o.cells j).lo)∧W.cell? ⟨wr.heap.size,1,none⟩=some (.int .i64 (o.cells j).hi))∧(W.cell? ⟨b,16+j*2,none⟩=some (.int .i64 (k.cells j).lo)∧W.cell? ⟨b,16+j*2+1,none⟩=some (.int .i64 (k.cells j).hi)):=fun W a=>by
      have t:=(u W a).kn.cC j d;rw [show({ k with regs:=zbn k.regs o.regs 8,cells:=zbn k.cells o.cells j }:Kn).cells j=k.cells j from x] at t;exact⟨by subst l;exact⟨zfp a 0,zfp a 1⟩,t⟩
     go_wp2;refine zaf 12 (fun W=>qB A W) (Below.refl _ _).drew (by kernel_rfl) (by kernel_rfl) ?_;simp only [q2];repeat(refine zab rfl ?_ (fun W a=>?_) ?_;rotate_left 1;· (obtain⟨⟨z,y⟩,B,C⟩:=g W a;go_simp;with_reducible rfl))
     refine zaU rfl 156 #[rv (k.cells j),rv (o.cells j)] (rv ((k.cells j).or (o.cells j))) (fun W a=>?_) (fun W a=>(zpu _ _ W).mono (fun e w' hh=>⟨hh.1,a.trans (hh.2.mono a.size)⟩)) ?_
     ·go_simp
     repeat(refine zab rfl ?_ (fun W a=>?_) ?_;rotate_left 1;· (obtain⟨⟨z,y⟩,B,C⟩:=g W a;go_simp;with_reducible rfl))
     refine wpQuiet_nil ?_;intro W a;have f:=u W a;obtain⟨_,O,J⟩:=g W a;have N:=f.kn.fz (16+j*2);have P:=f.kn.fz (16+j*2+1);have q:=f.putC hne j d ((k.cells j).or (o.cells j));have v:JnM w ((W.setCell ⟨b,16+j*2,none⟩ (.int .i64 ((k.cells j).or (o.cells j)).lo)).setCell ⟨b,16+j*2+1,none⟩ (.int .i64 ((k.cells j).or (o.cells j)).hi)) b c bv cv { k with regs:=zbn k.regs o.regs 8,cells:=zbn k.cells o.cells (j+1) } o:=by
      have e:updR (zbn k.cells o.cells j) j ((k.cells j).or (o.cells j))=zbn k.cells o.cells (j+1):=ziF _ _ _;rw [←e];exact q
     clear q f;go_wp2;exact⟨⟨j+1,by omega,by go_num,v⟩,by simp [intOf];omega⟩
    ·obtain rfl:j=16:=by omega
     go_wp2;refine bodyPost_end (results_none rfl _ _ _) rfl ⟨rfl,zz2 L.kn,L.low⟩
theorem zuy{w:World}{S o cap n b:Nat}{ao:Option Addr}{R:Rs}{bv:Value}{k:Kn}(h:RsC w S o (.slice ao n cap) R)(X:KnM w b bv k)(e:k.steps=R.steps)(P:World→Prop)(hs:∀ W,qB w W→qC 152 #[.pointer (some ⟨S,o,none⟩),.pointer (some ⟨b,0,none⟩)] W fun e w'=>e=.returned (.tuple #[])∧P w'):
  qC 135 #[.pointer (some ⟨S,o,none⟩),.pointer (some ⟨b,0,none⟩)] w fun e w'=>e=.returned (.bool false)∧P w':=by
 have d:∀ W,qB w W→W.cell? ⟨S,o,none⟩=some (.slice ao n cap)∧W.cell? ⟨S,o+1,none⟩=some (.int .i64 R.steps)∧W.cell? ⟨S,o+2,none⟩=some (.int .i64 (R.seen:Int))∧W.cell? ⟨S,o+3,none⟩=some (.bool R.covers):=fun W hW=>by
  have q:=h.below hW;exact⟨q.cM,q.cS,q.cN,q.cC⟩
 have te:(k.steps != R.steps)=false:=by simpa using e
 clear e;go_enter Tryz.func135,Tryz.ntmps135;go_wp2;refine zaf 6 (fun W=>qB w W) (Below.refl _ _).drew (by kernel_rfl) (by kernel_rfl) ?_;simp only [q2];iterate 1 (refine zab rfl ?_ (fun W hW=>?_) ?_;rotate_left 1;· (obtain⟨m,f,i,l⟩:=d W hW;go_simp;with_reducible rfl))
 refine zaU rfl 134 #[.pointer (some ⟨b,0,none⟩)] (.int .i64 k.steps) (fun W hW=>?_) (fun W hW=>(zcf (X.below hW X.lt)).mono (fun e w' hh=>⟨hh.1,by rw [hh.2];exact hW⟩)) ?_
 ·go_simp
 iterate 4 (refine zab rfl ?_ (fun W hW=>?_) ?_;rotate_left 1;· (obtain⟨m,f,i,l⟩:=d W hW;go_simp;with_reducible rfl))
 refine wpQuiet_nil ?_;intro j a;have c:=hs j a;go_wp2_with(go_at_call 152;(with_reducible refine c.mono ?_);rintro e wx ⟨rfl,g⟩)
 go_ret;exact⟨rfl,g⟩
theorem zwS{w:World}{S o cap n b:Nat}{ao:Option Addr}{R:Rs}{bv:Value}{k:Kn}(h:RsC w S o (.slice ao n cap) R)(X:KnM w b bv k)(e:¬k.steps=R.steps)(hc:R.covers=true)(hn:R.seen=n)(hl:n≤500000):
  qC 135 #[.pointer (some ⟨S,o,none⟩),.pointer (some ⟨b,0,none⟩)] w (qR w (.bool true)):=by
 have c:∀ W,qB w W→W.cell? ⟨S,o,none⟩=some (.slice ao n cap)∧W.cell? ⟨S,o+1,none⟩=some (.int .i64 R.steps)∧W.cell? ⟨S,o+2,none⟩=some (.int .i64 (n:Int))∧W.cell? ⟨S,o+3,none⟩=some (.bool true):=fun W hW=>by
  have q:=h.below hW;exact⟨q.cM,q.cS,by rw [←hn];exact q.cN,by rw [←hc];exact q.cC⟩
 have te:(k.steps != R.steps)=true:=by simpa using e
 have hn2:(n:Int)≤500000:=by omega
 clear e hn hc hl;go_enter Tryz.func135,Tryz.ntmps135;go_wp2;refine zaf 6 (fun W=>qB w W) (Below.refl _ _).drew (by kernel_rfl) (by kernel_rfl) ?_;simp only [q2];iterate 1 (refine zab rfl ?_ (fun W hW=>?_) ?_;rotate_left 1;· (obtain⟨g,a,f,i⟩:=c W hW;go_simp;with_reducible rfl))
 refine zaU rfl 134 #[.pointer (some ⟨b,0,none⟩)] (.int .i64 k.steps) (fun W hW=>?_) (fun W hW=>(zcf (X.below hW X.lt)).mono (fun e w' hh=>⟨hh.1,by rw [hh.2];exact hW⟩)) ?_
 ·go_simp
 iterate 4 (refine zab rfl ?_ (fun W hW=>?_) ?_;rotate_left 1;· (obtain⟨g,a,f,i⟩:=c W hW;go_simp;with_reducible rfl))
 refine wpQuiet_nil ?_;intro W1 d;go_wp2;refine zaf 15 (fun W=>qB w W) d.drew (by kernel_rfl) (by kernel_rfl) ?_;simp only [q2];iterate 5 (refine zab rfl ?_ (fun W hW=>?_) ?_;rotate_left 1;· (obtain⟨g,a,f,i⟩:=c W hW;go_simp;with_reducible rfl))
 simp only [Act.put,q1];iterate 10 (go_big_quiet_want;rename_i K hK;refine⟨?_,fun W hW=>?_,hK _ ?_⟩;rotate_left 1;(· (obtain⟨g,a,f,i⟩:=c W hW;unfold Oper.quietAt;go_simp;with_reducible rfl));clear hK K;simp only [Act.put,q1])
 refine wpQuiet_nil ?_;intro W2 j;go_wp2;go_ret;exact⟨rfl,j⟩
theorem zuz{w:World}{S o cap n b:Nat}{ao:Option Addr}{R:Rs}{bv:Value}{k:Kn}(h:RsC w S o (.slice ao n cap) R)(X:KnM w b bv k)(e:¬k.steps=R.steps)(hc:R.covers=true)(hn:¬R.seen=n)(hl:n≤500000)(_hl2:R.seen≤500000)(Q P:World→Prop)(hg:∀ W,qB w W→qC 151 #[.pointer (some ⟨S,o,none⟩),.int .i64 k.steps] W fun e w'=>e=.returned (.tuple #[])∧Q w')
  (hs:∀ W,Q W→qC 152 #[.pointer (some ⟨S,o,none⟩),.pointer (some ⟨b,0,none⟩)] W fun e w'=>e=.returned (.tuple #[])∧P w') :
  qC 135 #[.pointer (some ⟨S,o,none⟩),.pointer (some ⟨b,0,none⟩)] w fun e w'=>e=.returned (.bool false)∧P w':=by
 have f:∀ W,qB w W→W.cell? ⟨S,o,none⟩=some (.slice ao n cap)∧W.cell? ⟨S,o+1,none⟩=some (.int .i64 R.steps)∧W.cell? ⟨S,o+2,none⟩=some (.int .i64 (R.seen:Int))∧W.cell? ⟨S,o+3,none⟩=some (.bool true):=fun W hW=>by
  have q:=h.below hW;exact⟨q.cM,q.cS,q.cN,by rw [←hc];exact q.cC⟩
 have te:(k.steps != R.steps)=true:=by simpa using e
 have tn:((R.seen:Int) == (n:Int))=false:=by simpa using (by omega:¬(R.seen:Int)=(n:Int))
 have hn2:(n:Int)≤500000:=by omega
 have i:=fun W (hW:qB w W)=>zcf (X.below hW X.lt);clear e hn hc hl;go_enter Tryz.func135,Tryz.ntmps135;go_wp2;refine zaf 6 (fun W=>qB w W) (Below.refl _ _).drew (by kernel_rfl) (by kernel_rfl) ?_;simp only [q2];iterate 1 (refine zab rfl ?_ (fun W hW=>?_) ?_;rotate_left 1;· (obtain⟨r,a,p,s⟩:=f W hW;go_simp;with_reducible rfl))
 refine zaU rfl 134 #[.pointer (some ⟨b,0,none⟩)] (.int .i64 k.steps) (fun W hW=>?_) (fun W hW=>(zcf (X.below hW X.lt)).mono (fun e w' hh=>⟨hh.1,by rw [hh.2];exact hW⟩)) ?_
 ·go_simp
 iterate 4 (refine zab rfl ?_ (fun W hW=>?_) ?_;rotate_left 1;· (obtain⟨r,a,p,s⟩:=f W hW;go_simp;with_reducible rfl))
 refine wpQuiet_nil ?_;intro W1 l;go_wp2;refine zaf 15 (fun W=>qB w W) l.drew (by kernel_rfl) (by kernel_rfl) ?_;simp only [q2];iterate 5 (refine zab rfl ?_ (fun W hW=>?_) ?_;rotate_left 1;· (obtain⟨r,a,p,s⟩:=f W hW;go_simp;with_reducible rfl))
 simp only [Act.put,q1];iterate 10 (go_big_quiet_want;rename_i K hK;refine⟨?_,fun W hW=>?_,hK _ ?_⟩;rotate_left 1;(· (obtain⟨r,a,p,s⟩:=f W hW;unfold Oper.quietAt;go_simp;with_reducible rfl));clear hK K;simp only [Act.put,q1])
 refine wpQuiet_nil ?_;intro u d;have c:=i u d;have g:=hg u d;go_wp2_with(first
  | (go_at_call 134;(with_reducible refine c.mono ?_);rintro e wx ⟨rfl,m⟩;have t:=m.symm;subst t)
  | (go_at_call 151;(with_reducible refine g.mono ?_);rintro e y ⟨rfl,v⟩;have j:=hs y v)
  | (go_at_call 152;(with_reducible refine j.mono ?_);rintro e wz ⟨rfl,x⟩))
 go_ret;exact⟨rfl,x⟩
theorem zu0{w:World}{S o cap n b:Nat}{ao:Option Addr}{R:Rs}{bv:Value}{k:Kn}(h:RsC w S o (.slice ao n cap) R)(X:KnM w b bv k)(e:¬k.steps=R.steps)(hc:R.covers=false)(Q P:World→Prop)(hg:∀ W,qB w W→qC 151 #[.pointer (some ⟨S,o,none⟩),.int .i64 k.steps] W fun e w'=>e=.returned (.tuple #[])∧Q w')
  (hs:∀ W,Q W→qC 152 #[.pointer (some ⟨S,o,none⟩),.pointer (some ⟨b,0,none⟩)] W fun e w'=>e=.returned (.tuple #[])∧P w') :
  qC 135 #[.pointer (some ⟨S,o,none⟩),.pointer (some ⟨b,0,none⟩)] w fun e w'=>e=.returned (.bool false)∧P w':=by
 have p:∀ W,qB w W→W.cell? ⟨S,o,none⟩=some (.slice ao n cap)∧W.cell? ⟨S,o+1,none⟩=some (.int .i64 R.steps)∧W.cell? ⟨S,o+2,none⟩=some (.int .i64 (R.seen:Int))∧W.cell? ⟨S,o+3,none⟩=some (.bool false):=fun W hW=>by
  have q:=h.below hW;exact⟨q.cM,q.cS,q.cN,by rw [←hc];exact q.cC⟩
 have te:(k.steps != R.steps)=true:=by simpa using e
 have g:=fun W (hW:qB w W)=>zcf (X.below hW X.lt);clear e hc;go_enter Tryz.func135,Tryz.ntmps135;go_wp2;refine zaf 6 (fun W=>qB w W) (Below.refl _ _).drew (by kernel_rfl) (by kernel_rfl) ?_;simp only [q2];iterate 1 (refine zab rfl ?_ (fun W hW=>?_) ?_;rotate_left 1;· (obtain⟨t,d,s,u⟩:=p W hW;go_simp;with_reducible rfl))
 refine zaU rfl 134 #[.pointer (some ⟨b,0,none⟩)] (.int .i64 k.steps) (fun W hW=>?_) (fun W hW=>(zcf (X.below hW X.lt)).mono (fun e w' hh=>⟨hh.1,by rw [hh.2];exact hW⟩)) ?_
 ·go_simp
 iterate 4 (refine zab rfl ?_ (fun W hW=>?_) ?_;rotate_left 1;· (obtain⟨t,d,s,u⟩:=p W hW;go_simp;with_reducible rfl))
 refine wpQuiet_nil ?_;intro W1 j;go_wp2;refine zaf 15 (fun W=>qB w W) j.drew (by kernel_rfl) (by kernel_rfl) ?_;simp only [q2];iterate 5 (refine zab rfl ?_ (fun W hW=>?_) ?_;rotate_left 1;· (obtain⟨t,d,s,u⟩:=p W hW;go_simp;with_reducible rfl))
 simp only [Act.put,q1];iterate 10 go_big_quiet_skip
 refine wpQuiet_nil ?_;intro r c;have a:=g r c;have f:=hg r c;go_wp2_with(first
  | (go_at_call 134;(with_reducible refine a.mono ?_);rintro e wx ⟨rfl,l⟩;have m:=l.symm;subst m)
  | (go_at_call 151;(with_reducible refine f.mono ?_);rintro e y ⟨rfl,v⟩;have i:=hs y v)
  | (go_at_call 152;(with_reducible refine i.mono ?_);rintro e wz ⟨rfl,x⟩))
 go_ret;exact⟨rfl,x⟩
section
structure SC(w:World)(S:Nat)(cv v mv:Value)(R:Rs)(looks:Nat)(bs bf:Int):Prop where
 c0:w.cell? ⟨S,0,none⟩=some cv
 c1:w.cell? ⟨S,1,none⟩=some v
 rs:RsC w S 2 mv R
 c6:w.cell? ⟨S,6,none⟩=some (.int .i64 (looks:Int))
 c7:w.cell? ⟨S,7,none⟩=some (.int .i64 bs)
 c8:w.cell? ⟨S,8,none⟩=some (.int .i64 bf)
 fz:∀ j,w.frozen? ⟨S,j,none⟩=false
theorem SC.lt{w:World}{S:Nat}{cv v mv:Value}{R:Rs}{looks:Nat}{bs bf:Int}(h:SC w S cv v mv R looks bs bf):S<w.heap.size:=World.block_lt_of_cell? w _ h.c0
theorem SC.block{w w':World}{S:Nat}{cv v mv:Value}{R:Rs}{looks:Nat}{bs bf:Int}(h:SC w S cv v mv R looks bs bf)(e:w'.heap[S]?=w.heap[S]?):SC w' S cv v mv R looks bs bf:=by
 have c:∀ j,w'.cell? ⟨S,j,none⟩=w.cell? ⟨S,j,none⟩:=fun j=>World.cell?_of_block (w:=w) (a:=⟨S,j,none⟩) e;exact⟨(c _).trans h.c0,(c _).trans h.c1,⟨(c _).trans h.rs.cM,(c _).trans h.rs.cS,(c _).trans h.rs.cN,(c _).trans h.rs.cC⟩,(c _).trans h.c6,(c _).trans h.c7,(c _).trans h.c8,fun j=>(World.frozen?_of_block (w:=w) (a:=⟨S,j,none⟩) e).trans (h.fz j)⟩
theorem SC.one{w w':World}{S o:Nat}{cv v mv:Value}{R:Rs}{looks:Nat}{bs bf:Int}(h:SC w S cv v mv R looks bs bf)(c:∀ j,¬j=o→w'.cell? ⟨S,j,none⟩=w.cell? ⟨S,j,none⟩)(fz:∀ j,w'.frozen? ⟨S,j,none⟩=w.frozen? ⟨S,j,none⟩){x:Value}(hx:w'.cell? ⟨S,o,none⟩=some x):
  (o=1→SC w' S cv x mv R looks bs bf)∧(∀ n:Nat,o=6→x=.int .i64 (n:Int)→SC w' S cv v mv R n bs bf)∧(∀ n:Int,o=7→x=.int .i64 n→SC w' S cv v mv R looks n bf)∧(∀ n:Int,o=8→x=.int .i64 n→SC w' S cv v mv R looks bs n):=by
 have f:∀ j,w'.frozen? ⟨S,j,none⟩=false:=fun j=>(fz j).trans (h.fz j);refine⟨fun e=>?_,fun n e ex=>?_,fun n e ex=>?_,fun n e ex=>?_⟩
 ·subst e;exact⟨(c _ (by omega)).trans h.c0,hx,⟨(c _ (by omega)).trans h.rs.cM,(c _ (by omega)).trans h.rs.cS,(c _ (by omega)).trans h.rs.cN,(c _ (by omega)).trans h.rs.cC⟩,(c _ (by omega)).trans h.c6,(c _ (by omega)).trans h.c7,(c _ (by omega)).trans h.c8,f⟩
 ·subst e;subst ex;exact⟨(c _ (by omega)).trans h.c0,(c _ (by omega)).trans h.c1,⟨(c _ (by omega)).trans h.rs.cM,(c _ (by omega)).trans h.rs.cS,(c _ (by omega)).trans h.rs.cN,(c _ (by omega)).trans h.rs.cC⟩,hx,(c _ (by omega)).trans h.c7,(c _ (by omega)).trans h.c8,f⟩
 ·subst e;subst ex;exact⟨(c _ (by omega)).trans h.c0,(c _ (by omega)).trans h.c1,⟨(c _ (by omega)).trans h.rs.cM,(c _ (by omega)).trans h.rs.cS,(c _ (by omega)).trans h.rs.cN,(c _ (by omega)).trans h.rs.cC⟩,(c _ (by omega)).trans h.c6,hx,(c _ (by omega)).trans h.c8,f⟩
 ·subst e;subst ex;exact⟨(c _ (by omega)).trans h.c0,(c _ (by omega)).trans h.c1,⟨(c _ (by omega)).trans h.rs.cM,(c _ (by omega)).trans h.rs.cS,(c _ (by omega)).trans h.rs.cN,(c _ (by omega)).trans h.rs.cC⟩,(c _ (by omega)).trans h.c6,(c _ (by omega)).trans h.c7,hx,f⟩
def Free(S:Nat)(v mv:Value)(q:Nat):Prop:=¬q=S∧v.ownBlock≠some q∧mv.ownBlock≠some q
structure SO(w:World)(B S g:Nat)(C:List (Ins × Int))(v mv:Value)(xs hs:List Wy)(ms:List Mk):Prop where
 code:CodeIn w g C
 gB:g<B
 SB:B≤S
 SL:S<w.heap.size
 hp:HeapM w B v xs
 ord:HpAll (stp xs) xs.length
 hand:∀ h∈hs,WyM w h
 mkr:w.ownsRow B 217 51 mv ms.length (zb1 ms)
 mbh:∀ m∈ms,BhM w m.ao m.cap m.k.behind
 vS:v.ownBlock≠some S
 mS:mv.ownBlock≠some S
 vm:∀ q,v.ownBlock=some q→mv.ownBlock≠some q
 nod:((hs++xs).map Wy.b).Nodup
 far:∀ x∈hs++xs,B≤x.b∧Free S v mv x.b∧∀ a,x.ao=some a→Free S v mv a.block∧∀ y∈hs++xs,¬a.block=y.b
 mfar:∀ m∈ms,∀ a,m.ao=some a→Free S v mv a.block∧∀ y∈hs++xs,¬a.block=y.b
theorem WyM.keep{w w':World}{x:Wy}(h:WyM w x)(hs:w.heap.size≤w'.heap.size)(h1:w'.heap[x.b]?=w.heap[x.b]?)(h2:∀ a,x.ao=some a→w'.heap[a.block]?=w.heap[a.block]?):WyM w' x :=
 ⟨h.key,h.kn.block h1,h.bh.kept hs fun _g e=>h2 _ e⟩
theorem zei{w w':World}{g:Nat}{C:List (Ins × Int)}(h:CodeIn w g C)(e:w'.heap[g]?=w.heap[g]?):CodeIn w' g C :=
 fun j hj=>⟨(World.cell?_of_block (w:=w) (a:=⟨g,j*2,none⟩) e).trans (h j hj).1,(World.cell?_of_block (w:=w) (a:=⟨g,j*2+1,none⟩) e).trans (h j hj).2⟩
theorem WyM.aolt{w:World}{x:Wy}(h:WyM w x){a:Addr}(ha:x.ao=some a):a.block<w.heap.size:=by
 obtain⟨g,rfl⟩:=h.bh.at0 a ha;exact(h.bh.cell g ha).1
theorem zyC{w:World}{ao:Option Addr}{cap:Nat}{l:List Int}(h:BhM w ao cap l){a:Addr}(ha:ao=some a):a.block<w.heap.size:=by
 obtain⟨g,rfl⟩:=h.at0 a ha;exact(h.cell g ha).1
section
variable {w w':World} {B S g:Nat} {C:List (Ins × Int)} {v mv:Value} {xs hs:List Wy} {ms:List Mk}
theorem SO.wy(h:SO w B S g C v mv xs hs ms):∀ x∈hs++xs,WyM w x:=fun x hx=>by
 rcases List.mem_append.1 hx with e|e
 ·exact h.hand x e
 ·exact h.hp.wy x e
theorem SO.stay(h:SO w B S g C v mv xs hs ms)(hsz:w.heap.size≤w'.heap.size)(hb:∀ q,q<w.heap.size→¬q=S→w'.heap[q]?=w.heap[q]?):SO w' B S g C v mv xs hs ms:=by
 have b:∀ x∈hs++xs,WyM w' x:=fun x hx=>by
  have k:=h.wy x hx;obtain⟨_,d,f⟩:=h.far x hx;exact k.keep hsz (hb _ k.kn.lt d.1) (fun a ha=>hb _ (k.aolt ha) (f a ha).1.1)
 have i:∀ q,v.ownBlock=some q→w'.heap[q]?=w.heap[q]?:=fun q hq=>hb q (h.hp.row.lt q hq).2 (fun e=>h.vS (by rw [hq,e]));have j:∀ q,mv.ownBlock=some q→w'.heap[q]?=w.heap[q]?:=fun q hq=>hb q (h.mkr.lt q hq).2 (fun e=>h.mS (by rw [hq,e]));have c:¬g=S:=by have:=h.gB;have:=h.SB;omega
 exact⟨zei h.code (hb g (by have:=h.gB;have:=h.SB;have:=h.SL;omega) c),h.gB,h.SB,Nat.lt_of_lt_of_le h.SL hsz,⟨zc1 h.hp.row i,fun x hx=>b x (List.mem_append_right _ hx),h.hp.far⟩,h.ord,fun x hx=>b x (List.mem_append_left _ hx),zc1 h.mkr j,fun m hm2=>(h.mbh m hm2).kept hsz (fun q e=>hb q ((h.mbh m hm2).cell q e).1 (h.mfar m hm2 _ e).1.1),h.vS,h.mS,h.vm,h.nod,h.far,h.mfar⟩
theorem SO.below(h:SO w B S g C v mv xs hs ms)(hb:qB w w'):SO w' B S g C v mv xs hs ms:=h.stay hb.size fun q hq _=>hb.block q hq
theorem SO.drop{y:Wy}(h:SO w B S g C v mv xs (y :: hs) ms):SO w B S g C v mv xs hs ms :=
 ⟨h.code,h.gB,h.SB,h.SL,h.hp,h.ord,fun x hx=>h.hand x (List.mem_cons_of_mem _ hx),h.mkr,h.mbh,h.vS,h.mS,h.vm,(List.nodup_cons.1 h.nod).2,fun x hx=>by
  obtain⟨a1,a2,a3⟩:=h.far x (List.mem_cons_of_mem _ hx);exact⟨a1,a2,fun a ha=>⟨(a3 a ha).1,fun z hz=>(a3 a ha).2 z (List.mem_cons_of_mem _ hz)⟩⟩,fun m hm a ha=>⟨(h.mfar m hm a ha).1,fun z hz=>(h.mfar m hm a ha).2 z (List.mem_cons_of_mem _ hz)⟩⟩
theorem SO.turn{x:Wy}{rs:List Wy}(h:SO w B S g C v mv xs (x :: hs) ms)(hg:w.grownBy w' (some x.b))(hr:∀ y∈rs,WyM w' y)(hb:∀ y∈rs,y.b=x.b∨w.heap.size≤y.b)(hn:(rs.map Wy.b).Nodup)
  (ha:∀ y∈rs,∀ a,y.ao=some a→(x.ao=some a∨w.heap.size≤a.block)∧∀ z∈rs,¬a.block=z.b):SO w' B S g C v mv xs (rs++hs) ms:=by
 have hlt:=(h.hand x List.mem_cons_self).kn.lt;obtain⟨N,I,K⟩:=h.far x List.mem_cons_self;have o:=List.nodup_cons.1 h.nod;have L:∀ y∈hs++xs,¬y.b=x.b:=fun y i e=>o.1 (by rw [←e];exact List.mem_map_of_mem i);have f:∀ y∈hs++xs,y∈x :: hs++xs:=fun y i=>List.mem_cons_of_mem _ i;have d:∀ q,q<w.heap.size→¬q=x.b→w'.heap[q]?=w.heap[q]?:=fun q hq hne=>hg.block q hq (fun e=>hne (by cases e;rfl));have s:∀ y∈hs++xs,WyM w' y:=fun y i=>by
  have k:=h.wy y (f y i);obtain⟨_,f1,O⟩:=h.far y (f y i);exact k.keep hg.size (d _ k.kn.lt (L y i)) (fun a ha=>d _ (k.aolt ha) ((O a ha).2 x List.mem_cons_self))
 have R:∀ q,v.ownBlock=some q→w'.heap[q]?=w.heap[q]?:=fun q hq=>d q (h.hp.row.lt q hq).2 (fun e=>I.2.1 (by rw [hq,e]));have U:∀ q,mv.ownBlock=some q→w'.heap[q]?=w.heap[q]?:=fun q hq=>d q (h.mkr.lt q hq).2 (fun e=>I.2.2 (by rw [hq,e]));have r:∀ q,w.heap.size≤q→Free S v mv q:=fun q hq=>⟨by have:=h.SL;omega,fun e=>by have:=(h.hp.row.lt q e).2;omega,fun e=>by have:=(h.mkr.lt q e).2;omega⟩
 have E:∀ y∈rs,B≤y.b∧Free S v mv y.b:=fun y i=>by
  rcases hb y i with e|e
  ·rw [e];exact⟨N,I⟩
  ·exact⟨by have:=h.SB;have:=h.SL;omega,r _ e⟩
 have l:∀ z,z∈rs++hs++xs→z∈rs∨z∈hs++xs:=fun z j=>by
  rw [List.append_assoc] at j;exact List.mem_append.1 j
 have H:¬g=x.b:=by have:=h.gB;omega
 refine⟨zei h.code (d g (by have:=h.gB;have:=h.SB;have:=h.SL;omega) H),h.gB,h.SB,Nat.lt_of_lt_of_le h.SL hg.size,⟨zc1 h.hp.row R,fun y i=>s y (List.mem_append_right _ i),h.hp.far⟩,h.ord,fun y i=>?_,zc1 h.mkr U,fun m hm2=>(h.mbh m hm2).kept hg.size (fun q e=>d q ((h.mbh m hm2).cell q e).1 ((h.mfar m hm2 _ e).2 x List.mem_cons_self)),h.vS,h.mS,h.vm,?_,fun y i=>?_,fun m hm2 a ha2=>⟨(h.mfar m hm2 a ha2).1,fun z j=>?_⟩⟩
 ·rcases List.mem_append.1 i with e|e
  ·exact hr y e
  ·exact s y (List.mem_append_left _ e)
 ·rw [List.append_assoc,List.map_append];refine List.nodup_append.2 ⟨hn,o.2,fun p hp q hq e=>?_⟩;subst e;obtain⟨y,i,rfl⟩:=List.mem_map.1 hp;obtain⟨z,j,e⟩:=List.mem_map.1 hq;rcases hb y i with P|P
  ·exact L z j (e.trans P)
  ·have:=(h.wy z (f z j)).kn.lt;omega
 ·rcases l y i with e|e
  ·obtain⟨F,G⟩:=E y e;refine⟨F,G,fun a ha2=>?_⟩;obtain⟨M,T⟩:=ha y e a ha2;have t:Free S v mv a.block∧∀ z∈hs++xs,¬a.block=z.b:=by
    rcases M with c|c
    ·exact⟨(K a c).1,fun z j=>(K a c).2 z (f z j)⟩
    ·exact⟨r _ c,fun z j n=>by have:=(h.wy z (f z j)).kn.lt;omega⟩
   refine⟨t.1,fun z j=>?_⟩;rcases l z j with n|n
   ·exact T z n
   ·exact t.2 z n
  ·obtain⟨F,G,D⟩:=h.far y (f y e);refine⟨F,G,fun a ha2=>⟨(D a ha2).1,fun z j=>?_⟩⟩;rcases l z j with n|n
   ·rcases hb z n with Q|Q
    ·rw [Q];exact(D a ha2).2 x List.mem_cons_self
    ·have:=(h.wy y (f y e)).aolt ha2;omega
   ·exact(D a ha2).2 z (f z n)
 ·rcases l z j with n|n
  ·rcases hb z n with Q|Q
   ·rw [Q];exact(h.mfar m hm2 a ha2).2 x List.mem_cons_self
   ·have:=zyC (h.mbh m hm2) ha2;omega
  ·exact(h.mfar m hm2 a ha2).2 z (f z n)
end
end
section
section
variable {w w':World} {B S g:Nat} {C:List (Ins × Int)} {v mv:Value} {xs hs:List Wy} {ms:List Mk}
theorem SO.took{H cap:Nat}{ys:List Wy}{x:Wy}(h:SO w B S g C (.slice (some ⟨H,0,none⟩) xs.length cap) mv xs hs ms)(hk:Kept2 w w' S 1 (some H))(hp:(x :: ys).Perm xs)(hM:HeapM w' B (.slice (some ⟨H,0,none⟩) ys.length cap) ys)(hA:HpAll (stp ys) ys.length)(hx:WyM w' x):
  SO w' B S g C (.slice (some ⟨H,0,none⟩) ys.length cap) mv ys (x :: hs) ms:=by
 have f:(x :: hs++ys).Perm (hs++xs):=(List.perm_middle (l₁:=hs) (a:=x) (l₂:=ys)).symm.trans (List.Perm.append_left hs hp);have d:∀ z,z∈x :: hs++ys→z∈hs++xs:=fun z hz=>f.mem_iff.1 hz;have c:∀ q,q<w.heap.size→¬q=S→¬q=H→w'.heap[q]?=w.heap[q]?:=fun q hq h1 h2=>hk.block q hq h1 (fun e=>h2 (by cases e;rfl));have i:∀ z∈hs,WyM w' z:=fun z hz=>by
  have k:=h.hand z hz;obtain⟨_,j,n⟩:=h.far z (List.mem_append_left _ hz);exact k.keep hk.size (c _ k.kn.lt j.1 (fun e=>j.2.1 (by rw [e];rfl))) (fun a ha=>c _ (k.aolt ha) (n a ha).1.1 (fun e=>(n a ha).1.2.1 (by rw [e];rfl)))
 have s:∀ q,mv.ownBlock=some q→w'.heap[q]?=w.heap[q]?:=fun q hq=>c q (h.mkr.lt q hq).2 (fun e=>h.mS (by rw [hq,e])) (fun e=>h.vm H rfl (by rw [hq,e]));have p:¬g=S:=by have:=h.gB;have:=h.SB;omega
 have o:¬g=H:=by have:=h.gB;have:=(h.hp.row.lt H rfl).1;omega
 refine⟨zei h.code (c g (by have:=h.gB;have:=h.SB;have:=h.SL;omega) p o),h.gB,h.SB,Nat.lt_of_lt_of_le h.SL hk.size,hM,hA,fun z hz=>?_,zc1 h.mkr s,fun m hm2=>(h.mbh m hm2).kept hk.size (fun q e=>c q ((h.mbh m hm2).cell q e).1 (h.mfar m hm2 _ e).1.1 (fun e2=>(h.mfar m hm2 _ e).1.2.1 (by rw [←e2];rfl))),h.vS,h.mS,h.vm,(f.map Wy.b).nodup_iff.2 h.nod,fun z hz=>?_,fun m hm2 a ha=>⟨(h.mfar m hm2 a ha).1,fun z hz=>(h.mfar m hm2 a ha).2 z (d z hz)⟩⟩
 ·rcases List.mem_cons.1 hz with e|e
  ·rw [e];exact hx
  ·exact i z e
 ·obtain⟨t,r,l⟩:=h.far z (d z hz);exact⟨t,r,fun a ha=>⟨(l a ha).1,fun y hy=>(l a ha).2 y (d y hy)⟩⟩
theorem SO.added{H cap:Nat}{ys:List Wy}{x:Wy}(h:SO w B S g C v mv xs (x :: hs) ms)(hk:Kept2 w w' S 1 v.ownBlock)(hp:ys.Perm (xs++[x]))(hM:HeapM w' B (.slice (some ⟨H,0,none⟩) ys.length cap) ys)(hA:HpAll (stp ys) ys.length)(hH:v.ownBlock=some H∨w.heap.size≤H):
  SO w' B S g C (.slice (some ⟨H,0,none⟩) ys.length cap) mv ys hs ms:=by
 have l:(hs++ys).Perm (x :: hs++xs):=(List.Perm.append_left hs (hp.trans List.perm_append_comm)).trans (List.perm_middle (l₁:=hs) (a:=x) (l₂:=xs));have i:∀ z,z∈hs++ys→z∈x :: hs++xs:=fun z hz=>l.mem_iff.1 hz;have c:∀ q,q<w.heap.size→¬q=S→v.ownBlock≠some q→w'.heap[q]?=w.heap[q]?:=fun q hq h1 h2=>hk.block q hq h1 (fun e=>h2 e.symm);have o:∀ z∈hs,WyM w' z:=fun z hz=>by
  have k:=h.hand z (List.mem_cons_of_mem _ hz);obtain⟨_,t,A⟩:=h.far z (List.mem_append_left _ (List.mem_cons_of_mem _ hz));exact k.keep hk.size (c _ k.kn.lt t.1 t.2.1) (fun a ha=>c _ (k.aolt ha) (A a ha).1.1 (A a ha).1.2.1)
 have J:∀ q,mv.ownBlock=some q→w'.heap[q]?=w.heap[q]?:=fun q hq=>c q (h.mkr.lt q hq).2 (fun e=>h.mS (by rw [hq,e])) (fun e=>h.vm q e hq);have D:¬g=S:=by have:=h.gB;have:=h.SB;omega
 have I:v.ownBlock≠some g:=fun e=>by have:=h.gB;have:=(h.hp.row.lt g e).1;omega
 have d:∀ q,q<w.heap.size→Free S v mv q→Free S (.slice (some ⟨H,0,none⟩) ys.length cap) mv q:=fun q hq f=>by
  refine⟨f.1,fun e=>?_,f.2.2⟩;have n:H=q:=by have:some H=some q:=e;simpa using this
  rcases hH with r|r
  ·exact f.2.1 (by rw [r,n])
  ·omega
 refine⟨zei h.code (c g (by have:=h.gB;have:=h.SB;have:=h.SL;omega) D I),h.gB,h.SB,Nat.lt_of_lt_of_le h.SL hk.size,hM,hA,o,zc1 h.mkr J,fun m hm2=>(h.mbh m hm2).kept hk.size (fun q e=>c q ((h.mbh m hm2).cell q e).1 (h.mfar m hm2 _ e).1.1 (h.mfar m hm2 _ e).1.2.1),fun e=>?_,h.mS,fun q e n=>?_,(l.map Wy.b).nodup_iff.2 h.nod,fun z hz=>?_,fun m hm2 a ha=>⟨d _ (zyC (h.mbh m hm2) ha) (h.mfar m hm2 a ha).1,fun z hz=>(h.mfar m hm2 a ha).2 z (i z hz)⟩⟩
 ·have n:H=S:=by have:some H=some S:=e;simpa using this
  rcases hH with r|r
  ·exact h.vS (by rw [r,n])
  ·have:=h.SL;omega
 ·have r:H=q:=by have:some H=some q:=e;simpa using this
  rcases hH with G|G
  ·exact h.vm H G (by rw [n,r])
  ·have:=(h.mkr.lt q n).2;omega
 ·have j:=i z hz;obtain⟨F,E,s⟩:=h.far z j;have u:=h.wy z j;exact⟨F,d _ u.kn.lt E,fun a ha=>⟨d _ (u.aolt ha) (s a ha).1,fun y hy=>(s a ha).2 y (i y hy)⟩⟩
theorem SO.remark{mv':Value}{ms':List Mk}(h:SO w B S g C v mv xs hs ms)(hk:Kept4 w w' S 2 mv.ownBlock)(hM:w'.ownsRow B 217 51 mv' ms'.length (zb1 ms'))(hM':∀ q,mv'.ownBlock=some q→mv.ownBlock=some q∨w.heap.size≤q)
  (hms:∀ m∈ms',m∈ms∨∃ x∈hs++xs,m.ao=x.ao∧m.cap=x.cap∧m.k=x.k):SO w' B S g C v mv' xs hs ms':=by
 have b:∀ q,q<w.heap.size→¬q=S→mv.ownBlock≠some q→w'.heap[q]?=w.heap[q]?:=fun q hq h1 h2=>hk.block q hq h1 (fun e=>h2 e.symm);have j:∀ z∈hs++xs,WyM w' z:=fun z hz=>by
  have k:=h.wy z hz;obtain⟨_,p,n⟩:=h.far z hz;exact k.keep hk.size (b _ k.kn.lt p.1 p.2.2) (fun a ha=>b _ (k.aolt ha) (n a ha).1.1 (n a ha).1.2.2)
 have D:∀ q,v.ownBlock=some q→w'.heap[q]?=w.heap[q]?:=fun q hq=>b q (h.hp.row.lt q hq).2 (fun e=>h.vS (by rw [hq,e])) (h.vm q hq);have y:¬g=S:=by have:=h.gB;have:=h.SB;omega
 have u:mv.ownBlock≠some g:=fun e=>by have:=h.gB;have:=(h.mkr.lt g e).1;omega
 have c:∀ q,q<w.heap.size→Free S v mv q→Free S v mv' q:=fun q hq f=>by
  refine⟨f.1,f.2.1,fun e=>?_⟩;rcases hM' q e with d|d
  ·exact f.2.2 d
  ·omega
 refine⟨zei h.code (b g (by have:=h.gB;have:=h.SB;have:=h.SL;omega) y u),h.gB,h.SB,Nat.lt_of_lt_of_le h.SL hk.size,⟨zc1 h.hp.row D,fun x l=>j x (List.mem_append_right _ l),h.hp.far⟩,h.ord,fun z hz=>j z (List.mem_append_left _ hz),hM,fun m hm2=>?_,h.vS,fun e=>?_,fun q e i=>?_,h.nod,fun z hz=>?_,fun m hm2 a ha=>?_⟩
 ·rcases hms m hm2 with e|⟨x,l,t,i,d⟩
  ·exact(h.mbh m e).kept hk.size (fun q i=>b q ((h.mbh m e).cell q i).1 (h.mfar m e _ i).1.1 (h.mfar m e _ i).1.2.2)
  ·rw [t,i,d];exact(j x l).bh
 ·rcases hM' S e with d|d
  ·exact h.mS d
  ·have:=h.SL;omega
 ·rcases hM' q i with d|d
  ·exact h.vm q e d
  ·have:=(h.hp.row.lt q e).2;omega
 ·obtain⟨E,A,r⟩:=h.far z hz;have s:=h.wy z hz;exact⟨E,c _ s.kn.lt A,fun a ha=>⟨c _ (s.aolt ha) (r a ha).1,(r a ha).2⟩⟩
 ·rcases hms m hm2 with e|⟨x,l,t,i,d⟩
  ·exact⟨c _ (zyC (h.mbh m e) ha) (h.mfar m e a ha).1,(h.mfar m e a ha).2⟩
  ·rw [t] at ha;obtain⟨_,_,n⟩:=h.far x l;exact⟨c _ ((h.wy x l).aolt ha) (n a ha).1,(n a ha).2⟩
theorem ziM{o:Nat}{hb:Option Nat}(hk:Kept2 w w' S o hb)(hS:B≤S)(hBw:B≤w.heap.size)(hh:∀ q,hb=some q→B≤q):Below B w w' :=
 ⟨hk.os,hk.tape,hk.output,hk.size,fun q hq=>hk.block q (by omega) (by omega) (fun e=>by have:=hh q e.symm;omega)⟩
theorem zod{o:Nat}{hb:Option Nat}(hk:Kept4 w w' S o hb)(hS:B≤S)(hBw:B≤w.heap.size)(hh:∀ q,hb=some q→B≤q):Below B w w' :=
 ⟨hk.os,hk.tape,hk.output,hk.size,fun q hq=>hk.block q (by omega) (by omega) (fun e=>by have:=hh q e.symm;omega)⟩
end
end
def zha(ao:Option Addr)(cap:Nat)(ps:List Nat)(ks:List Kn):List Wy:=List.zipWith (fun p k=>(⟨p,ao,cap,k⟩:Wy)) ps ks
theorem zmJ{ao:Option Addr}{cap:Nat}{ps:List Nat}{ks:List Kn}(h:ps.length=ks.length):(zha ao cap ps ks).length=ks.length:=by simp [zha,h]
theorem zp6{ao:Option Addr}{cap:Nat}{ps:List Nat}{ks:List Kn}(i:Nat)(y:Wy)(h:(zha ao cap ps ks)[i]?=some y):∃ p k,ps[i]?=some p∧ks[i]?=some k∧y=⟨p,ao,cap,k⟩:=by
 unfold zha at h;rw [List.getElem?_zipWith] at h;cases hp:ps[i]? with
 | none=>rw [hp] at h;cases h
 | some p =>
  cases hk:ks[i]? with
  | none=>rw [hp,hk] at h;cases h
  | some k=>rw [hp,hk] at h;exact⟨p,k,rfl,rfl,by simpa using h.symm⟩
theorem zyM{ao:Option Addr}{cap:Nat}{ps:List Nat}{ks:List Kn}(h:ps.length=ks.length):(zha ao cap ps ks).map Wy.b=ps:=by
 unfold zha;rw [List.map_zipWith];show List.zipWith (fun p _=>p) ps ks=ps;clear ao cap
 induction ps generalizing ks with
 | nil=>rfl
 | cons p r ih =>
  cases ks with
  | nil=>simp at h
  | cons k t=>rw [List.zipWith_cons_cons,ih (by simpa using h)]
theorem zgy{ao:Option Addr}{cap:Nat}{ps:List Nat}{ks:List Kn}{y:Wy}(h:y∈zha ao cap ps ks):∃(i p:Nat) (k:Kn),ps[i]?=some p∧ks[i]?=some k∧y=⟨p,ao,cap,k⟩:=by
 obtain⟨i,d⟩:=List.mem_iff_getElem?.1 h;obtain⟨p,k,a,b,c⟩:=zp6 i y d;exact⟨i,p,k,a,b,c⟩
theorem zrJ{w w':World}{B S g:Nat}{C:List (Ins × Int)}{v mv:Value}{xs:List Wy}{ms:List Mk}{x:Wy}{ks:List Kn}{so:Option Addr}{ps:List Nat}{ao':Option Addr}{cap' n':Nat}(O:SO w B S g C v mv xs [x] ms)(A:WaysAt w w' x.b (.slice ao' n' cap') ks so ps)(hb:∀ k'∈ks,n'=k'.behind.length∧BhM w' ao' cap' k'.behind)(ha:ao'=x.ao∨∀ a,ao'=some a→w.heap.size≤a.block)(hf:∀ p∈ps,∀ a,ao'=some a→¬a.block=p)(hkey:∀ k'∈ks,KeyOk k'):
  SO w' B S g C v mv xs (zha ao' cap' ps ks) ms:=by
 have:=O.turn (rs:=zha ao' cap' ps ks) A.grown (fun y hy=>?_) (fun y hy=>?_) (by rw [zyM A.len];exact A.nodup) (fun y hy a hya=>?_)
 ·rw [List.append_nil] at this;exact this
 ·obtain⟨i,p,k,f,d,rfl⟩:=zgy hy;have c:=List.mem_of_getElem? d;obtain⟨h1,l⟩:=hb k c;have j:=A.kn i p k f d;rw [h1] at j;exact⟨hkey k c,j,l⟩
 ·obtain⟨i,p,k,f,d,rfl⟩:=zgy hy;exact A.from' p (List.mem_of_getElem? f)
 ·obtain⟨i,p,k,f,d,rfl⟩:=zgy hy;refine⟨?_,fun z hz=>?_⟩
  ·rcases ha with e|e
   ·exact .inl (by rw [←e];exact hya)
   ·exact .inr (e a hya)
  ·obtain⟨i2,m,k2,h,_,rfl⟩:=zgy hz;exact hf m (List.mem_of_getElem? h) a hya
theorem zzA{w w0:World}{B S g:Nat}{C:List (Ins × Int)}{cv v mv:Value}{R:Rs}{looks:Nat}{bs bf:Int}{xs hs:List Wy}{x:Wy}(O:SO w B S g C v mv xs (x :: hs) R.marked)(c:SC w S cv v mv R looks bs bf)(hb:Below B w0 w)(hlen:xs.length<100000):
  qC 138 #[.pointer (some ⟨S,1,none⟩),.pointer (some ⟨x.b,0,none⟩)] w fun e w'=>e=.returned (.tuple #[])∧∃(v':Value) (ys:List Wy),ys.Perm (xs++[x])∧SO w' B S g C v' mv ys hs R.marked∧SC w' S cv v' mv R looks bs bf∧Below B w0 w'∧Kept2 w w' S 1 v.ownBlock∧(∀ q,v'.ownBlock=some q→v.ownBlock=some q∨w.heap.size≤q):=by
 have f:B≤w.heap.size:=by have:=O.SB;have:=O.SL;omega
 obtain⟨_,k,m⟩:=O.far x List.mem_cons_self;have h:∀ y,y∈xs++[x]→y∈x :: hs++xs:=fun y hy=>by
  rcases List.mem_append.1 hy with e|e
  ·exact List.mem_append_right _ e
  ·rw [List.mem_singleton.1 e];exact List.mem_cons_self
 refine(zwH (B:=B) c.c1 (c.fz 1) O.hp O.ord (O.hand x List.mem_cons_self) hlen f O.vS (fun q hq=>⟨fun e=>k.2.1 (by rw [hq,e]),fun a ha e=>(m a ha).1.2.1 (by rw [hq,e])⟩) (fun y hy=>?_)).mono ?_
 ·obtain⟨_,n,p⟩:=O.far y (h y hy);exact⟨n.1,fun a ha=>(p a ha).1.1⟩
 ·rintro e w' ⟨rfl,H,i,ys,l,hp,s,r,j,d⟩;refine⟨rfl,.slice (some ⟨H,0,none⟩) ys.length i,ys,hp,O.added d hp s r j,(c.one (o:=1) d.cell d.fz l).1 rfl,hb.trans (ziM d O.SB f (fun q hq=>(O.hp.row.lt q hq).1)),d,fun q hq=>?_⟩;have e:H=q:=by have:some H=some q:=hq;simpa using this
  rw [←e];exact j
theorem SC.kept4{w w':World}{S:Nat}{cv v mv mv':Value}{R R':Rs}{looks:Nat}{bs bf:Int}{hb:Option Nat}(h:SC w S cv v mv R looks bs bf)(hk:Kept4 w w' S 2 hb)(hr:RsC w' S 2 mv' R'):SC w' S cv v mv' R' looks bs bf:=by
 have c:∀ j,¬j=2→¬j=3→¬j=4→¬j=5→w'.cell? ⟨S,j,none⟩=w.cell? ⟨S,j,none⟩:=fun j a b c d=>hk.cell j a b c d;exact⟨(c _ (by omega) (by omega) (by omega) (by omega)).trans h.c0,(c _ (by omega) (by omega) (by omega) (by omega)).trans h.c1,hr,(c _ (by omega) (by omega) (by omega) (by omega)).trans h.c6,(c _ (by omega) (by omega) (by omega) (by omega)).trans h.c7,(c _ (by omega) (by omega) (by omega) (by omega)).trans h.c8,fun j=>(hk.fz j).trans (h.fz j)⟩
theorem zuH{w:World}{B S g o:Nat}{C:List (Ins × Int)}{v mv u:Value}{xs hs:List Wy}{ms:List Mk}(O:SO w B S g C v mv xs hs ms):SO (w.setCell ⟨S,o,none⟩ u) B S g C v mv xs hs ms :=
 O.stay (by rw [World.size_setCell];exact Nat.le_refl _) (fun q _ hq=>Below.heap_setCell w _ _ q hq)
theorem SC.set7{w:World}{S:Nat}{cv v mv:Value}{R:Rs}{looks:Nat}{bs bf:Int}(h:SC w S cv v mv R looks bs bf)(n:Int):SC (w.setCell ⟨S,7,none⟩ (.int .i64 n)) S cv v mv R looks n bf :=
 (h.one (o:=7) (fun j hj=>by rw [zat w S 7 j _ _ h.c7,if_neg hj]) (fun j=>zdj) (World.cell?_setCell_same _ _ _ h.c7)).2.2.1 n rfl rfl
theorem SC.set8{w:World}{S:Nat}{cv v mv:Value}{R:Rs}{looks:Nat}{bs bf:Int}(h:SC w S cv v mv R looks bs bf)(n:Int):SC (w.setCell ⟨S,8,none⟩ (.int .i64 n)) S cv v mv R looks bs n :=
 (h.one (o:=8) (fun j hj=>by rw [zat w S 8 j _ _ h.c8,if_neg hj]) (fun j=>zdj) (World.cell?_setCell_same _ _ _ h.c8)).2.2.2 n rfl rfl
theorem SC.set6{w:World}{S:Nat}{cv v mv:Value}{R:Rs}{looks:Nat}{bs bf:Int}(h:SC w S cv v mv R looks bs bf)(n:Nat):SC (w.setCell ⟨S,6,none⟩ (.int .i64 (n:Int))) S cv v mv R n bs bf :=
 (h.one (o:=6) (fun j hj=>by rw [zat w S 6 j _ _ h.c6,if_neg hj]) (fun j=>zdj) (World.cell?_setCell_same _ _ _ h.c6)).2.1 n rfl rfl
end Go.Proofs.YtfpgjkbjbbgciaaGreatDoor
