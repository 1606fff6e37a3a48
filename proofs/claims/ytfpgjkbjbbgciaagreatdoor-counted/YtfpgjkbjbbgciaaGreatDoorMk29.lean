import Derived.Test.YtfpgjkbjbbgciaaGreatDoorMk21
import Derived.Test.YtfpgjkbjbbgciaaGreatDoorMk23
import Derived.Test.YtfpgjkbjbbgciaaGreatDoorMk24
set_option maxRecDepth 100000
set_option maxHeartbeats 8000000
namespace Go.Proofs.YtfpgjkbjbbgciaaGreatDoor
open Go.RowKit Sp
def newL(iv:Value):List Value:=List.replicate 24 (.int .i64 0)++[iv,.slice none 0 0,.int .i64 0,.slice none 0 0,.int .i64 0,.int .i64 1,.int .i64 0]
theorem zwm(ao:Option Addr)(n c:Nat):Tryz.prog.built 195 [(2,.slice ao n c),(7,.int .i64 1)]=some (newL (.slice ao n c)).toArray:=by kernel_rfl
theorem zqJ(iv:Value):(newL iv)[24]?=some iv∧(newL iv)[25]?=some (.slice none 0 0)∧(newL iv)[26]?=some (.int .i64 0)∧(newL iv)[27]?=some (.slice none 0 0)∧(newL iv)[28]?=some (.int .i64 0)∧(newL iv)[29]?=some (.int .i64 1)∧(newL iv)[30]?=some (.int .i64 0):=⟨rfl,rfl,rfl,rfl,rfl,rfl,rfl⟩
theorem zlY(iv:Value)(i:Nat)(h:i<24):(newL iv)[i]?=some (.int .i64 0):=by
 unfold newL;rw [List.getElem?_append_left (by simpa using h),List.getElem?_replicate,if_pos h]
theorem zyD(w:World)(iv:Value)(inp:List Int):MchM (w.alloc (.cells (newL iv).toArray 195)) w.heap.size (.slice none 0 0) iv (.slice none 0 0) (zaY inp):=by
 have k:=zix w (newL iv) 195;have a:∀ j v,(newL iv)[j]?=some v→(w.alloc (.cells (newL iv).toArray 195)).cell? ⟨w.heap.size,j,none⟩=some v:=fun j v hv=>by have:=k j v hv;rwa [Nat.zero_add] at this
 obtain⟨b,c,d,e,f,g,h⟩:=zqJ iv;exact⟨fun i hi=>a i _ (zlY iv i (by omega)),fun i hi=>a (8+i) _ (zlY iv _ (by omega)),a _ _ b,a _ _ c,a _ _ d,a _ _ e,a _ _ f,a _ _ g,a _ _ h,fun o=>by simp⟩
theorem zwn(w:World)(ao:Option Addr)(icap:Nat)(inp:List Int)(hiv:SlB w w.heap.size (.slice ao inp.length icap) inp):
  Calls Tryz.prog 82 #[.slice ao inp.length icap] w fun e w'=>e=.returned (.pointer (some ⟨w.heap.size,0,none⟩))∧(∃ bv iv ov,MchAt w' w.heap.size (zaY inp) bv iv ov)∧Below w.heap.size w w':=by
 have b:=zwm ao inp.length icap;have c:=zyD w (.slice ao inp.length icap) inp;generalize hds:newL (.slice ao inp.length icap)=ds at b c;go_enter Tryz.func82,Tryz.ntmps82;go_wp2_with(first
  | (refine wpList_build rfl 195 _ rfl ?_ ?_
     ·simp [Act.eval,b]
     simp only [List.map_toArray,List.map_cons,List.map_nil,Act.eval];refine Hid.out ?_))
 unfold Hid
 erw [b]
 simp only [Option.getD_some,Act.put,List.setIfInBounds_toArray,List.set_cons_succ,List.set_cons_zero];go_wp2_with(first|(refine Go.Great.wpList_boxTo rfl 195 _ rfl _ rfl w.heap.size rfl ds.toArray rfl ?_))
 go_ret;have a:Below w.heap.size w (w.alloc (.cells ds.toArray 195)):=(Below.refl _ _).alloc (Nat.le_refl _) _;exact⟨rfl,⟨_,_,_,c,World.ownsRow_nil _ _ _ _,World.ownsRow_nil _ _ _ _,hiv.below a⟩,a⟩
theorem zfN{W1:World}{n:Nat}(hs1:W1.heap.size=n)(cs:List Value)(hlen:cs.length=30):(W1.alloc Z34).there n 0 cs.toArray.size:=by
 rw [show cs.toArray.size=30 by simp [hlen],←hs1];exact zfM W1
def zeZ:Mc:=⟨0,[],[],0,fun _=>0,fun _=>0,[],0,0,0⟩
structure Told where
 m:Mc
 at_:Int
 err:Int
 line:Int
def zdk(w:World)(T:Told):Ending→World→Prop:=fun e w'=>∃ ao no co,e=.returned (.tuple #[.agg (zaH T.m (.slice ao no co) T.at_).toArray,.int .i64 T.err,.int .i64 T.line])∧w'.ownsRow w.heap.size 2 1 (.slice ao no co) T.m.out.length (i64s T.m.out)∧Below w.heap.size w w'
theorem zA8:zaH zeZ (.slice none 0 0) 0=[.int .i64 0,.int .i64 0,.int .i64 0,.int .i64 0,.int .i64 0,.int .i64 0,.int .i64 0,.int .i64 0,.int .i64 0,.int .i64 0,.int .i64 0,.int .i64 0,.int .i64 0,.int .i64 0,.int .i64 0,.int .i64 0,.int .i64 0,.int .i64 0,.int .i64 0,.int .i64 0,.int .i64 0,.int .i64 0,.int .i64 0,.int .i64 0,.int .i64 0,.slice none 0 0,.int .i64 0,.int .i64 0,.int .i64 0,.int .i64 0]:=by simp [zaH,List.range_succ,zeZ]
theorem SlB.mono{w w':World}{v:Value}{l:List Int}(h:SlB w w.heap.size v l)(hb:Below w.heap.size w w'):SlB w' w'.heap.size v l:=by
 obtain⟨b,a,c,d,f⟩:=h;refine⟨b,a,c,d,fun hp=>?_⟩;obtain⟨g,o,e,k,hg2,i⟩:=f hp;have:=hb.size;exact⟨g,o,e,by omega,by omega,fun j hj=>(hb.cell (p:=⟨g,o+j,none⟩) k).trans (i j hj)⟩
def zom(w:World)(k o:Kn):Ending→World→Prop:=fun e w'=>∃ x:Bool,e=.returned (.bool x)∧Below w.heap.size w w'∧(x=true→keyK k≤keyK o)∧(x=false→keyK o≤keyK k)
def zwK(w:World)(k o:Kn):Ending→World→Prop:=fun e w'=>∃ x:Bool,e=.returned (.bool x)∧Below w.heap.size w w'∧(x=true→k.next=o.next∧k.behind=o.behind∧k.steps=o.steps)∧(x=false→¬(k.next=o.next∧k.behind=o.behind∧k.steps=o.steps))
theorem ziO{w:World}{b c b1 c1:Nat}{a1 a2:Option Addr}{k o:Kn}(h:KnM w b (.slice a1 k.behind.length b1) k)(h2:KnM w c (.slice a2 o.behind.length c1) o)(B1:BhM w a1 b1 k.behind)(B2:BhM w a2 c1 o.behind)(K1:KeyOk k)(K2:KeyOk o):Calls Tryz.prog 291 #[.pointer (some ⟨b,0,none⟩),.pointer (some ⟨c,0,none⟩)] w (zom w k o):=by
 obtain⟨a,d,f⟩:=zol K1 K2;have i:Hid ((cmpK k o<0→keyK k<keyK o)∧(cmpK k o=0→k.next=o.next∧k.behind=o.behind∧k.steps=o.steps)∧(0<cmpK k o→keyK o<keyK k)):=⟨a,d,f⟩
 have j:Hid (k.next=o.next∧k.behind=o.behind∧k.steps=o.steps→keyK k=keyK o):=fun h=>by unfold keyK;rw [h.1,h.2.1,h.2.2]
 clear a d f;go_enter Tryz.func291,Tryz.ntmps291;go_wp2_with(go_at_call 155;(with_reducible refine(zhh h h2 B1 B2).mono ?_);rintro e wx ⟨rfl,g⟩)
 go_ret;obtain⟨l,m,n⟩:=i.out;refine⟨_,rfl,g,fun e=>?_,fun e=>?_⟩
 ·have h:cmpK k o<0:=by simpa using e
  have:=l h;omega
 ·have h:¬cmpK k o<0:=by simpa using e
  by_cases p:cmpK k o=0
  ·have:=j.out (m p);omega
  ·have:=n (by omega);omega
theorem zrl{w:World}{b c b1 c1:Nat}{a1 a2:Option Addr}{k o:Kn}(h:KnM w b (.slice a1 k.behind.length b1) k)(h2:KnM w c (.slice a2 o.behind.length c1) o)(B1:BhM w a1 b1 k.behind)(B2:BhM w a2 c1 o.behind)(K1:KeyOk k)(K2:KeyOk o):Calls Tryz.prog 141 #[.pointer (some ⟨b,0,none⟩),.pointer (some ⟨c,0,none⟩)] w (zwK w k o):=by
 obtain⟨d,a,f⟩:=zol K1 K2;have i:Hid ((cmpK k o=0→k.next=o.next∧k.behind=o.behind∧k.steps=o.steps)∧(k.next=o.next∧k.behind=o.behind∧k.steps=o.steps→cmpK k o=0)):=⟨a,fun h=>ztV h.1 h.2.1 h.2.2⟩
 clear d a f;go_enter Tryz.func141,Tryz.ntmps141;go_wp2_with(go_at_call 155;(with_reducible refine(zhh h h2 B1 B2).mono ?_);rintro e wx ⟨rfl,g⟩)
 go_ret;obtain⟨j,l⟩:=i.out;exact⟨_,rfl,g,fun e=>j (by simpa using e),fun e h=>by have:=l h;rw [this] at e;simp at e⟩
theorem zrA{w:World}{b cap:Nat}{ao:Option Addr}{k:Kn}(h:KnM w b (.slice ao k.behind.length cap) k)(z:Int)(hlen:k.behind.length=15):
  Calls Tryz.prog 282 #[.pointer (some ⟨b,0,none⟩),.int .i64 z] w fun e w'=>e=zak 8 0∧w'=w:=by
 have a:=zf1 h (by omega);rw [hlen] at a;go_enter Tryz.func282,Tryz.ntmps282;go_wp2_with(first
  | (go_at_call 136;(with_reducible refine a.mono ?_);rintro e wx ⟨rfl,d⟩;have c:=d.symm;subst c))
 all_goals go_wp2
 exact⟨rfl,rfl,rfl,rfl,rfl⟩
theorem zzc{w:World}{b g m cap:Nat}{k:Kn}{z:Int}(h:KnM w b (.slice (some ⟨g,0,none⟩) (m+1) cap) k)(hm:m≤15)(hc:m+1≤cap)(_hc2:cap≤maxLen)(hz:w.cell? ⟨g,m,none⟩=some (.int .i64 z))(l:List Int)(h0:0≤k.steps)(h1:k.steps≤100000):Calls Tryz.prog 287 #[.pointer (some ⟨b,0,none⟩)] w (zaO w b (.slice (some ⟨g,0,none⟩) m cap) ({ k with behind:=l }.goTo z)):=by
 have c:=h.cS;have n:=h.cN;have d:=h.cB;have f1:=h.fz 50;have f2:=h.fz 48;have f3:=h.fz 49;have hlt:=h.lt;unfold maxLen at _hc2;have K:=h.putB (.slice (some ⟨g,0,none⟩) m cap) l;go_enter Tryz.func287,Tryz.ntmps287;go_wp2;go_ret;obtain⟨i,a,e,f,o,j⟩:=zpA K z;rw [World.size_setCell] at a e;exact⟨i,a,e,f,o,zae (zah (Below.refl _ _)) j⟩
theorem zrB{w:World}{b cap:Nat}{ao:Option Addr}{k:Kn}{x:Int}{l:List Int}(h:KnM w b (.slice ao k.behind.length cap) k)(B:BhM w ao cap k.behind)(hk:k.behind=l++[x])(ap:∀ a,ao=some a→¬a.block=b)(h0:0≤k.steps)(h1:k.steps≤100000):
  Calls Tryz.prog 287 #[.pointer (some ⟨b,0,none⟩)] w fun e w'=>zaO w b (.slice ao l.length cap) ({ k with behind:=l }.goTo x) e w'∧BhM w' ao cap l:=by
 have f:k.behind.length=l.length+1:=by rw [hk];simp
 cases ao with
 | none=>obtain⟨e,_⟩:=B.nil rfl;rw [e] at f;simp at f
 | some a =>
  obtain⟨g,rfl⟩:=B.at0 a rfl;have m:=B.len;have d:=B.le;rw [f] at h m d;refine(zzc h (by omega) d B.top ((B.cell g rfl).2 l.length x (by rw [hk];simp)) l h0 h1).mono ?_;rintro e w' j;refine⟨j,?_⟩;obtain⟨g2,e2,l2,c2,k2,n⟩:=j;have c:BhM w' (some ⟨g,0,none⟩) cap k.behind:=B.grown n ap;exact⟨by omega,by omega,c.top,fun e=>(by cases e),c.at0,fun g' e=>⟨(c.cell g' e).1,fun i v hv=>(c.cell g' e).2 i v (by rw [hk,List.getElem?_append_left (List.getElem?_eq_some_iff.1 hv).1];exact hv)⟩⟩
structure Wy where
 b:Nat
 ao:Option Addr
 cap:Nat
 k:Kn
def wy0:Wy:=⟨0,none,0,kn0⟩
structure WyM(w:World)(x:Wy):Prop where
 key:KeyOk x.k
 kn:KnM w x.b (.slice x.ao x.k.behind.length x.cap) x.k
 bh:BhM w x.ao x.cap x.k.behind
theorem WyM.below{w w':World}{x:Wy}(h:WyM w x)(hb:Below w.heap.size w w'):WyM w' x:=⟨h.key,h.kn.below hb h.kn.lt,h.bh.below hb⟩
structure HpM(w:World)(H C:Nat)(xs:List Wy):Prop where
 ptr:∀(i:Nat) (x:Wy),xs[i]?=some x→w.cell? ⟨H,i,none⟩=some (.pointer (some ⟨x.b,0,none⟩))
 wy:∀ x∈xs,WyM w x
 lt:H<w.heap.size
 far:∀ x∈xs,¬x.b=H∧∀ a,x.ao=some a→¬a.block=H
 fz:∀ j,w.frozen? ⟨H,j,none⟩=false
 shape:∃ cur:Array Value,w.heap[H]?=some (.cells cur 197 (0,0))∧cur.size=C
theorem HpM.below{w w':World}{H C:Nat}{xs:List Wy}(h:HpM w H C xs)(hb:Below w.heap.size w w'):HpM w' H C xs :=
 ⟨fun i x hx=>(World.cell?_of_block (a:=⟨H,i,none⟩) (hb.block H h.lt)).trans (h.ptr i x hx),fun x hx=>(h.wy x hx).below hb,Nat.lt_of_lt_of_le h.lt hb.size,h.far,fun j=>(World.frozen?_of_block (a:=⟨H,j,none⟩) (hb.block H h.lt)).trans (h.fz j),by obtain⟨cur,h1,h2⟩:=h.shape;exact⟨cur,(hb.block H h.lt).trans h1,h2⟩⟩
theorem HpM.at'{w:World}{H C:Nat}{xs:List Wy}(h:HpM w H C xs){i:Nat}(hi:i<xs.length):w.cell? ⟨H,i,none⟩=some (.pointer (some ⟨(xs.getD i wy0).b,0,none⟩))∧WyM w (xs.getD i wy0):=by
 have e:xs.getD i wy0=xs[i]:=by simp [List.getD,hi]
 rw [e];exact⟨h.ptr i _ (List.getElem?_eq_getElem hi),h.wy _ (List.getElem_mem hi)⟩
def stp(xs:List Wy)(i:Nat):Int:=keyK (xs.getD i wy0).k
theorem ziP (v:Value) (w:World):(method 422 197 v "Before").run Tryz.prog w=.ok (291,v) w:=by kernel_rfl
theorem zhi(args:Array Value)(w:World):(callFunc 291 args).run Tryz.prog w=.ok (.enter 291 args) w:=by kernel_rfl
def zmx(w:World)(xs:List Wy)(a:Nat):Ending→World→Prop:=fun e w'=>∃ m:Nat,e=.returned (.int .i64 (m:Int))∧Below w.heap.size w w'∧m<xs.length∧(m=a∨m=2*a+1∨m=2*a+2)∧stp xs m≤stp xs a∧(2*a+1<xs.length→stp xs m≤stp xs (2*a+1))∧(2*a+2<xs.length→stp xs m≤stp xs (2*a+2))
theorem ztX{w:World}{H C cap:Nat}{xs:List Wy}(h:HpM w H C xs)(a:Nat)(ha:a<xs.length)(hn:xs.length≤100000):Calls Tryz.prog 169 #[.slice (some ⟨H,0,none⟩) xs.length cap,.int .i64 (a:Int)] w (zmx w xs a):=by
 have hmeth:=ziP;have hcf:=zhi;have a0:(0:Int)≤(a:Int):=by omega
 have a1:(a:Int)≤100000:=by omega
 go_enter Tryz.func169,Tryz.ntmps169;go_wp2
 go_loopw [5,6] (fun tl tb wr=>∃ m q:Nat,tl=.int .i64 (m:Int)∧tb=.int .i64 (q:Int)∧2*a+1≤q∧q≤2*a+3∧m<xs.length∧(m=a∨2*a+1≤m∧m<q)∧stp xs m≤stp xs a∧(∀ c,2*a+1≤c→c<q→c<xs.length→stp xs m≤stp xs c)∧Below w.heap.size w wr) (fun _ tb _=>2*a+3-(intOf tb).toNat)
 case atStart=>exact⟨a,2*a+1,rfl,by go_num,by omega,by omega,ha,.inl rfl,Int.le_refl _,fun c h1 h2=>by omega,Below.refl _ _⟩
 case round =>
  obtain⟨m,q,rfl,rfl,q0,q1,r,hmq,o,d,B⟩:=hrel;have m0:(0:Int)≤(m:Int):=by omega
  have m1:(m:Int)<(xs.length:Int):=by omega
  have p0:(0:Int)≤(q:Int):=by omega
  by_cases y:q≤2*a+2∧q<xs.length
  ·obtain⟨D,j⟩:=y;have i:(q:Int)≤2*(a:Int)+2:=by omega
   have u:(q:Int)<(xs.length:Int):=by omega
   have t:∀ W,Below w.heap.size w W→W.cell? ⟨H,q,none⟩=some (.pointer (some ⟨(xs.getD q wy0).b,0,none⟩))∧W.cell? ⟨H,m,none⟩=some (.pointer (some ⟨(xs.getD m wy0).b,0,none⟩)):=fun W f=>⟨((h.below f).at' j).1,((h.below f).at' r).1⟩
   have s:∀ W,Below w.heap.size w W→Calls Tryz.prog 291 #[.pointer (some ⟨(xs.getD q wy0).b,0,none⟩),.pointer (some ⟨(xs.getD m wy0).b,0,none⟩)] W (zom W (xs.getD q wy0).k (xs.getD m wy0).k):=fun W f=>by
    have z:=((h.below f).at' j).2;have A:=((h.below f).at' r).2;exact ziO z.kn A.kn z.bh A.bh z.key A.key
   generalize p:xs.getD q wy0=xq at t s;generalize hxm:xs.getD m wy0=xm at t s;go_wp2;refine zad 9 (fun W=>Below w.heap.size w W) B.drew (by kernel_rfl) (by kernel_rfl) ?_;simp only [List.take_succ_cons,List.take_zero,List.drop_succ_cons,List.drop_zero];iterate 9 (refine zab rfl ?_ (fun W f=>?_) ?_;rotate_left 1;· (obtain⟨f1,f2⟩:=t W f;go_simp;with_reducible rfl))
   refine wpQuiet_nil ?_;intro W f;have v:=s W f;go_wp2_with(go_at_call 291;(with_reducible refine v.mono ?_);rintro e wx ⟨x,rfl,l,E,F⟩)
   ·rename_i hx;have n:stp xs q≤stp xs m:=by unfold stp;rw [hxm,p];exact E (by simpa using hx)
    refine⟨⟨q,q+1,rfl,by go_num,by omega,by omega,j,by omega,by omega,fun c c1 c2 c3=>?_,f.trans (l.mono f.size)⟩,by simp [intOf];omega⟩;by_cases e:c=q
    ·rw [e];exact Int.le_refl _
    ·have:=d c c1 (by omega) c3;omega
   ·rename_i hx;have n:stp xs m≤stp xs q:=by unfold stp;rw [hxm,p];exact F (by simpa using hx)
    refine⟨⟨m,q+1,rfl,by go_num,by omega,by omega,r,by omega,o,fun c c1 c2 c3=>?_,f.trans (l.mono f.size)⟩,by simp [intOf];omega⟩;by_cases e:c=q
    ·rw [e];exact n
    ·exact d c c1 (by omega) c3
  ·have g:zmx w xs a (.returned (.int .i64 (m:Int))) wr:=⟨m,rfl,B,r,by omega,o,fun c=>d _ (by omega) (by omega) c,fun c=>d _ (by omega) (by omega) c⟩
   by_cases D:q≤2*a+2
   ·have i:(q:Int)≤2*(a:Int)+2:=by omega
    have j:¬q<xs.length:=by omega
    have u:decide ((q:Int)<(xs.length:Int))=false:=by simpa using j
    clear d;go_wp2;go_ret;exact g
   ·have i:decide ((q:Int)≤2*(a:Int)+2)=false:=by simpa using (by omega:¬(q:Int)≤2*(a:Int)+2)
    clear d;go_wp2;go_ret;exact g
theorem WyM.other{w:World}{x:Wy}{H n:Nat}{v:Value}(h:WyM w x)(h1:¬x.b=H)(h2:∀ a,x.ao=some a→¬a.block=H):WyM (w.setCell ⟨H,n,none⟩ v) x :=
 ⟨h.key,h.kn.block (Below.heap_setCell w _ _ x.b h1),h.bh.kept (by rw [World.size_setCell];exact Nat.le_refl _) (fun g e=>Below.heap_setCell w _ _ g (h2 _ e))⟩
theorem HpM.swap{w:World}{H C:Nat}{xs:List Wy}(h:HpM w H C xs){i j:Nat}(hi:i<xs.length)(hj:j<xs.length)(hne:¬i=j):
  HpM ((w.setCell ⟨H,i,none⟩ (.pointer (some ⟨(xs.getD j wy0).b,0,none⟩))).setCell ⟨H,j,none⟩ (.pointer (some ⟨(xs.getD i wy0).b,0,none⟩))) H C (zdZ wy0 xs i j):=by
 have r:=zgC (d:=wy0) hi hj;have g:∀ x,x∈zdZ wy0 xs i j→x∈xs:=fun x hx=>r.mem_iff.1 hx;refine⟨fun q x hx=>?_,fun x hx=>?_,by rw [World.size_setCell,World.size_setCell];exact h.lt,fun x hx=>h.far x (g x hx),fun q=>zcB _ _ _ _ _ (zcB _ _ _ _ _ (h.fz q)),?_⟩
 ·have m:q<(zdZ wy0 xs i j).length:=(List.getElem?_eq_some_iff.1 hx).1;have a:(zdZ wy0 xs i j).getD q wy0=x:=by simp [List.getD,hx]
  rw [zp9 hi hj hne] at a;rw [ztR] at m;have n:(w.setCell ⟨H,i,none⟩ (.pointer (some ⟨(xs.getD j wy0).b,0,none⟩))).cell? ⟨H,j,none⟩=some (.pointer (some ⟨(xs.getD j wy0).b,0,none⟩)):=by
   rw [zat w H i j _ _ (h.at' hi).1,if_neg (fun e=>hne e.symm)];exact(h.at' hj).1
  rw [zat _ H j q _ _ n];by_cases c:q=j
  ·rw [if_pos c];rw [if_neg (fun e=>hne (e.symm.trans c)),if_pos c] at a;rw [a]
  ·rw [if_neg c,zat w H i q _ _ (h.at' hi).1];by_cases f:q=i
   ·rw [if_pos f];rw [if_pos f] at a;rw [a]
   ·rw [if_neg f];rw [if_neg f,if_neg c] at a;rw [←a];exact(h.at' m).1
 ·obtain⟨k,l⟩:=h.far x (g x hx);exact((h.wy x (g x hx)).other k l).other k l
 ·obtain⟨cur,o,p⟩:=h.shape;exact⟨_,heap_setCell_same _ H j _ 197 _ (heap_setCell_same _ H i _ 197 _ o),by simpa using p⟩
theorem HpM.drew{w:World}{H C:Nat}{xs:List Wy}(h:HpM w H C xs):HpM w.drew H C xs:=h.below (Below.refl _ _).drew
def zkO(w:World)(H C:Nat)(xs:List Wy):Ending→World→Prop:=fun e w'=>e=.returned (.tuple #[])∧∃ ys,ys.Perm xs∧HpM w' H C ys∧HpAll (stp ys) ys.length∧w.grownBy w' (some H)
theorem zwL{w:World}{H C cap n:Nat}{xs:List Wy}(h:HpM w H C xs)(hl:xs.length=n)(a:Nat)(ha:a<n)(hn:n≤100000)(hR:RiseI (stp xs) n a):Calls Tryz.prog 153 #[.slice (some ⟨H,0,none⟩) n cap,.int .i64 (a:Int)] w (zkO w H C xs):=by
 have hmeth:=ziP;have hcf:=zhi;have N:∃ c:List Wy,c.Perm xs∧HpM w H C c∧RiseI (stp c) n a∧w.grownBy w (some H):=⟨xs,List.Perm.refl _,h,hR,⟨rfl,rfl,rfl,Nat.le_refl _,fun _ _ _=>rfl⟩⟩
 have P:Hid (xs.length=n):=hl;clear hl h hR;go_enter Tryz.func153,Tryz.ntmps153;go_wp2
 go_loopw [1] (fun ti wr=>∃ a:Nat,ti=.int .i64 (a:Int)∧a<n∧∃ c:List Wy,c.Perm xs∧HpM wr H C c∧RiseI (stp c) n a∧w.grownBy wr (some H)) (fun ti _=>(intOf ti).toNat)
 case atStart=>exact⟨a,rfl,ha,N⟩
 case round =>
  obtain⟨a,rfl,ha,c,B,l,hR,I⟩:=hrel;clear N;have hl:c.length=n:=B.length_eq.trans P.out;by_cases Q:a=0
  ·subst Q;go_wp2;exact bodyPost_end (results_none rfl _ _ _) rfl ⟨rfl,c,B,l,by rw [hl];exact hR.done (.inl rfl),I⟩
  ·have h1:(0:Int)<(a:Int):=by omega
   have R:(((a:Int)-1).tdiv 2)=(((a-1)/2:Nat):Int):=by rw [Int.tdiv_eq_ediv_of_nonneg (by omega)];omega
   have v:(a-1)/2<n:=by omega
   generalize O:(a-1)/2=u at R v;have u0:(0:Int)≤(u:Int):=by omega
   have u1:(u:Int)<(n:Int):=by omega
   have a1:(a:Int)<(n:Int):=by omega
   have a2:(n:Int)≤100000:=by omega
   have g:a<c.length:=by omega
   have i:u<c.length:=by omega
   have t:¬a=u:=by omega
   have s:∀ W,Below wr.heap.size wr W→W.cell? ⟨H,a,none⟩=some (.pointer (some ⟨(c.getD a wy0).b,0,none⟩))∧W.cell? ⟨H,u,none⟩=some (.pointer (some ⟨(c.getD u wy0).b,0,none⟩)):=fun W d=>⟨((l.below d).at' g).1,((l.below d).at' i).1⟩
   have z:∀ W,Below wr.heap.size wr W→Calls Tryz.prog 291 #[.pointer (some ⟨(c.getD a wy0).b,0,none⟩),.pointer (some ⟨(c.getD u wy0).b,0,none⟩)] W (zom W (c.getD a wy0).k (c.getD u wy0).k):=fun W d=>by
    have L:=((l.below d).at' g).2;have M:=((l.below d).at' i).2;exact ziO L.kn M.kn L.bh M.bh L.key M.key
   have A:∀ W,Below wr.heap.size wr W→HpM ((W.setCell ⟨H,a,none⟩ (.pointer (some ⟨(c.getD u wy0).b,0,none⟩))).setCell ⟨H,u,none⟩ (.pointer (some ⟨(c.getD a wy0).b,0,none⟩))) H C (zdZ wy0 c a u):=fun W d=>(l.below d).swap g i t;have J:stp c a=keyK (c.getD a wy0).k:=rfl;have q:stp c u=keyK (c.getD u wy0).k:=rfl;have p:∀ W j,Below wr.heap.size wr W→W.frozen? ⟨H,j,none⟩=false:=fun W j d=>(l.below d).fz j;generalize c.getD a wy0=xa at s z A J;generalize c.getD u wy0=xu at s z A q;go_wp2;refine zad 9 (fun W=>Below wr.heap.size wr W) (Below.refl _ _).drew (by kernel_rfl) (by kernel_rfl) ?_;simp only [List.take_succ_cons,List.take_zero,List.drop_succ_cons,List.drop_zero];iterate 9 (refine zab rfl ?_ (fun W d=>?_) ?_;rotate_left 1;· (obtain⟨f1,f2⟩:=s W d;go_simp;with_reducible rfl))
   refine wpQuiet_nil ?_;intro W d;have F:=z W d;go_wp2_with(go_at_call 291;(with_reducible refine F.mono ?_);rintro e y ⟨x,rfl,G,S,T⟩;have o:Below wr.heap.size wr y:=d.trans (G.mono d.size))
   ·have r:(!x)=true:=by assumption
    have K:x=false:=by simpa using r
    have f:stp c u≤stp c a:=by rw [J,q];exact T K
    rw [←O] at f;refine bodyPost_ret (results_none rfl _ _ _) rfl ⟨rfl,c,B,l.below o,by rw [hl];exact hR.done (.inr f),zae I (zaK o)⟩
   ·have r:(!x)=false:=by assumption
    have K:x=true:=by simpa using r
    obtain⟨c1,c2⟩:=s y o;have z1:=p y a o;have z2:=p y u o;have D:=A y o;have f:stp c a≤stp c u:=by rw [J,q];exact S K
    rw [←O] at f;have m:=hR.step (by omega) ha f;rw [O] at m;have E:RiseI (stp (zdZ wy0 c a u)) n u:=by
     have e:stp (zdZ wy0 c a u)=zoj (stp c) a u:=ztS g i t (fun x=>keyK x.k);rw [e];exact m
    clear s z A p f m
    go_region
    all_goals go_wp2
    all_goals exact⟨⟨u,rfl,v,zdZ wy0 c a u,(zgC g i).trans B,D.drew,E,zd9 (zae I (zae (zah o) (zah (Below.refl _ _))))⟩,by simp [intOf];omega⟩
def zj6(xs:List Wy):List Value:=xs.map fun x=>.pointer (some ⟨x.b,0,none⟩)
structure HeapM(w:World)(B:Nat)(v:Value)(xs:List Wy):Prop where
 row:w.ownsRow B 197 1 v xs.length (zj6 xs)
 wy:∀ x∈xs,WyM w x
 far:∀ g,v.ownBlock=some g→∀ x∈xs,¬x.b=g∧∀ a,x.ao=some a→¬a.block=g
theorem HeapM.hp{w:World}{B H cap:Nat}{xs:List Wy}(h:HeapM w B (.slice (some ⟨H,0,none⟩) xs.length cap) xs):HpM w H cap xs∧xs.length≤cap∧cap≤maxLen∧B≤H:=by
 obtain⟨hl,l⟩:=h.row;rcases l with ⟨d,_⟩|⟨g,cap',c,d,k,b,e,f,h4,h5⟩
 ·cases d
 ·cases d;have a:H<w.heap.size:=by
   rcases Nat.lt_or_ge H w.heap.size with a|hge
   ·exact a
   ·rw [Array.getElem?_eq_none hge] at b;cases b
  refine⟨⟨fun i x hx=>zdy h.row i _ (by unfold zj6;rw [List.getElem?_map,hx];rfl),h.wy,a,h.far H rfl,fun j=>?_,⟨c,b,by omega⟩⟩,e,f,k⟩;simp [World.frozen?,b]
theorem HpM.heap{w:World}{B H cap:Nat}{xs:List Wy}(h:HpM w H cap xs)(h1:xs.length≤cap)(h2:cap≤maxLen)(hB:B≤H):HeapM w B (.slice (some ⟨H,0,none⟩) xs.length cap) xs:=by
 obtain⟨a,b,hs⟩:=h.shape;refine⟨⟨by simp [zj6],.inr ⟨H,cap,a,rfl,hB,b,h1,h2,by omega,?_⟩⟩,h.wy,fun g b=>by cases b;exact h.far⟩;apply List.ext_getElem?;intro i;by_cases c:i<xs.length
 ·rw [List.getElem?_take_of_lt (by omega)];have e:=h.ptr i xs[i] (List.getElem?_eq_getElem c);have e2:w.cell? ⟨H,i,none⟩=a[i]?:=by simp [World.cell?,b]
  rw [e2] at e;unfold zj6;rw [List.getElem?_map,List.getElem?_eq_getElem c];simpa using e
 ·rw [List.getElem?_eq_none (by simp;omega),List.getElem?_eq_none (by simp [zj6];omega)]
theorem Tryz.under151:Tryz.prog.underlying 151=some (.slice 197):=by kernel_rfl
theorem zrn{w:World}{H n cap p:Nat}(hn:0<n)(hc:w.cell? ⟨H,0,none⟩=some (.pointer (some ⟨p,0,none⟩))):Calls Tryz.prog 140 #[.slice (some ⟨H,0,none⟩) n cap] w fun e w'=>e=.returned (.pointer (some ⟨p,0,none⟩))∧w'=w:=by
 have hn1:(0:Int)<(n:Int):=by omega
 go_enter Tryz.func140,Tryz.ntmps140;go_wp2;go_ret;exact⟨rfl,rfl⟩
structure Kept2(w w':World)(S o:Nat)(hb:Option Nat):Prop where
 os:w'.os=w.os
 tape:w'.tape=w.tape
 output:w'.output=w.output
 size:w.heap.size≤w'.heap.size
 block:∀ q,q<w.heap.size→¬q=S→some q≠hb→w'.heap[q]?=w.heap[q]?
 cell:∀ j,¬j=o→w'.cell? ⟨S,j,none⟩=w.cell? ⟨S,j,none⟩
 fz:∀ j,w'.frozen? ⟨S,j,none⟩=w.frozen? ⟨S,j,none⟩
theorem zmy(w:World)(a:Value):∀ j u,[a][j]?=some u→(w.alloc (.cells #[a] 197)).cell? ((⟨w.heap.size,0,none⟩:Addr).add j)=some u:=by
 intro j u b;rw [Addr.add_mid,Nat.zero_add,World.cell?_alloc_new];cases j with
 | zero=>cases b;rfl
 | succ j=>simp at b
theorem WyM.grown{w w':World}{x:Wy}{r:Option Nat}(h:WyM w x)(hg:w.grownBy w' r)(f:∀ g,r=some g→¬x.b=g∧∀ a,x.ao=some a→¬a.block=g):WyM w' x :=
 ⟨h.key,h.kn.block (hg.block x.b h.kn.lt (fun e=>(f _ e.symm).1 rfl)),h.bh.kept hg.size (fun g e=>hg.block g (h.bh.cell g e).1 (fun e2=>(f _ e2.symm).2 _ e rfl))⟩
theorem zcG{w:World}{S o j:Nat}{v:Value}:(w.setCell ⟨S,o,none⟩ v).frozen? ⟨S,j,none⟩=w.frozen? ⟨S,j,none⟩:=by
 simp
def zyT(w:World)(S o B:Nat)(v:Value)(xs:List Wy)(x:Wy):Ending→World→Prop:=fun e w'=>e=.returned (.tuple #[])∧∃(H cap:Nat) (ys:List Wy),w'.cell? ⟨S,o,none⟩=some (.slice (some ⟨H,0,none⟩) ys.length cap)∧ys.Perm (xs++[x])∧HeapM w' B (.slice (some ⟨H,0,none⟩) ys.length cap) ys∧HpAll (stp ys) ys.length∧(v.ownBlock=some H∨w.heap.size≤H)∧Kept2 w w' S o v.ownBlock
theorem zwN{w:World}{S o B:Nat}{v:Value}{xs:List Wy}{x:Wy}(hc:w.cell? ⟨S,o,none⟩=some v)(hz:w.frozen? ⟨S,o,none⟩=false)(M:HeapM w B v xs)(hA:HpAll (stp xs) xs.length)(X:WyM w x)(hlen:xs.length<100000)(hB:B≤w.heap.size)(hvS:v.ownBlock≠some S)
  (hxf:∀ g,v.ownBlock=some g→¬x.b=g∧∀ a,x.ao=some a→¬a.block=g) (hS:∀ y∈xs++[x],¬y.b=S∧∀ a,y.ao=some a→¬a.block=S) :
  Calls Tryz.prog 138 #[.pointer (some ⟨S,o,none⟩),.pointer (some ⟨x.b,0,none⟩)] w (zyT w S o B v xs x):=by
 obtain⟨i0,U,Z,aa,ab⟩:=info_parts Tryz.info197;have D:S<w.heap.size:=World.block_lt_of_cell? w _ hc;have n:some S≠v.ownBlock:=fun e=>hvS e.symm;have hne:¬w.heap.size=S:=by omega
 go_enter Tryz.func138,Tryz.ntmps138;go_wp2_with(first
  | (at_builtin;refine wpList_append_lies _ rfl _ _ 151 rfl B 197 i0 (.pointer none) 1 8 Tryz.under151 U Z aa ab rfl (by decide) _ _ _ rfl (M.row.alloc _) ⟨w.heap.size,0,none⟩ 1 1 [.pointer (some ⟨x.b,0,none⟩)] rfl rfl (zmy _ _) (by simp [Value.oneCell']) (by omega) (by unfold maxLen;omega) (by omega) (by simp;omega) (w.heap.size+1) (by simp) ?_))
 intro g cap c z t f hg4;have l:w.grownBy c v.ownBlock:=(World.grownBy_alloc w _ _).trans t;have C:¬S=g:=by
  rcases f with e|e
  ·intro L;exact hvS (by rw [e,L])
  ·omega
 have m:c.cell? ⟨S,o,none⟩=some v:=(World.cell?_of_block (a:=⟨S,o,none⟩) (l.block S D n)).trans hc;have hz4:c.frozen? ⟨S,o,none⟩=false:=(World.frozen?_of_block (a:=⟨S,o,none⟩) (l.block S D n)).trans hz;have k:∀ y∈xs++[x],∀ q,v.ownBlock=some q→¬y.b=q∧∀ a,y.ao=some a→¬a.block=q:=fun y hy q hq=>by
  rcases List.mem_append.1 hy with h|h
  ·exact M.far q hq y h
  ·rw [List.mem_singleton.1 h];exact hxf q hq
 have r:∀ y∈xs++[x],WyM w y:=fun y hy=>by
  rcases List.mem_append.1 hy with h|h
  ·exact M.wy y h
  ·rw [List.mem_singleton.1 h];exact X
 have s:∀ y∈xs++[x],¬y.b=g∧∀ a,y.ao=some a→¬a.block=g:=fun y hy=>by
  rcases f with e|e
  ·exact k y hy g e
  ·have G:=r y hy;refine⟨fun L=>?_,fun a ha L=>?_⟩
   ·have:=G.kn.lt;omega
   ·obtain⟨q,rfl⟩:=G.bh.at0 a ha;have:=(G.bh.cell q ha).1;have e3:q=g:=L;omega
 have K:zj6 xs++[Value.pointer (some ⟨x.b,0,none⟩)]=zj6 (xs++[x]):=by simp [zj6]
 have u:xs.length+1=(xs++[x]).length:=by simp
 have M4:HeapM c B (.slice (some ⟨g,0,none⟩) (xs++[x]).length cap) (xs++[x]):=by
  refine⟨by rw [←K,←u];exact z,fun y hy=>(r y hy).grown l (k y hy),fun q hq=>by cases hq;exact s⟩
 obtain⟨E,p1,p2,p3⟩:=M4.hp;have P:HpM (c.setCell ⟨S,o,none⟩ (.slice (some ⟨g,0,none⟩) (xs++[x]).length cap)) g cap (xs++[x]) :=
  ⟨fun i y hy=>(World.cell?_of_block (a:=⟨g,i,none⟩) (Below.heap_setCell _ _ _ g (fun e=>C e.symm))).trans (E.ptr i y hy),fun y hy=>(E.wy y hy).other (hS y hy).1 (hS y hy).2,by rw [World.size_setCell];exact E.lt,E.far,fun j=>(World.frozen?_of_block (a:=⟨g,j,none⟩) (Below.heap_setCell _ _ _ g (fun e=>C e.symm))).trans (E.fz j),by obtain⟨Q,q1,q2⟩:=E.shape;exact⟨Q,(Below.heap_setCell _ _ _ g (fun e=>C e.symm)).trans q1,q2⟩⟩
 have hR:RiseI (stp (xs++[x])) (xs.length+1) xs.length:=RiseI.last hA (fun i hi=>by unfold stp;simp [List.getD,List.getElem?_append_left hi]);have I:(c.setCell ⟨S,o,none⟩ (.slice (some ⟨g,0,none⟩) (xs++[x]).length cap)).cell? ⟨S,o,none⟩=some (.slice (some ⟨g,0,none⟩) (xs++[x]).length cap):=World.cell?_setCell_same _ _ _ m;rw [←u] at P I;have HR:Hid (∀ W,Below (c.setCell ⟨S,o,none⟩ (.slice (some ⟨g,0,none⟩) (xs.length+1) cap)).heap.size (c.setCell ⟨S,o,none⟩ (.slice (some ⟨g,0,none⟩) (xs.length+1) cap)) W→Calls Tryz.prog 153 #[.slice (some ⟨g,0,none⟩) (xs.length+1) cap,.int .i64 (xs.length:Int)] W (zkO W g cap (xs++[x]))):=fun W d=>zwL (cap:=cap) (P.below d) u.symm xs.length (by omega) (by omega) hR;have O:Hid (xs.length+1=(xs++[x]).length∧(xs++[x]).length≤cap∧cap≤maxLen∧B≤g):=⟨u,p1,p2,p3⟩
 have HG:Hid (w.grownBy c v.ownBlock):=l;have N:Hid (v.ownBlock=some g∨g=w.heap.size+1):=f;clear u K p1 p2 p3 E P M4 r k s hR z t l f M X hxf hS hA;go_wp2;have G5:Hid (c.grownBy (c.setCell ⟨S,o,none⟩ (.slice (some ⟨g,0,none⟩) (xs.length+1) cap)) (some S)∧(∀ j,¬j=o→(c.setCell ⟨S,o,none⟩ (.slice (some ⟨g,0,none⟩) (xs.length+1) cap)).cell? ⟨S,j,none⟩=c.cell? ⟨S,j,none⟩)∧(∀ j,(c.setCell ⟨S,o,none⟩ (.slice (some ⟨g,0,none⟩) (xs.length+1) cap)).frozen? ⟨S,j,none⟩=c.frozen? ⟨S,j,none⟩)) :=
  ⟨zah (Below.refl _ _),fun j hj=>by rw [zat _ S o j _ _ m,if_neg hj],fun j=>zcG⟩
 have A:S<(c.setCell ⟨S,o,none⟩ (.slice (some ⟨g,0,none⟩) (xs.length+1) cap)).heap.size:=World.block_lt_of_cell? _ _ I;generalize c.setCell ⟨S,o,none⟩ (.slice (some ⟨g,0,none⟩) (xs.length+1) cap)=w5 at I HR G5 A ⊢;have HF:∀ W,Below w5.heap.size w5 W→W.cell? ⟨S,o,none⟩=some (.slice (some ⟨g,0,none⟩) (xs.length+1) cap):=fun W d=>(World.cell?_of_block (a:=⟨S,o,none⟩) (d.block S A)).trans I;refine zad 8 (fun W=>Below w5.heap.size w5 W) (Below.refl _ _).drew (by kernel_rfl) (by kernel_rfl) ?_;simp only [List.take_succ_cons,List.take_zero,List.drop_succ_cons,List.drop_zero];iterate 8 (refine zab rfl ?_ (fun W d=>?_) ?_;rotate_left 1;· (have f1:=HF W d;go_simp;with_reducible rfl))
 refine wpQuiet_nil ?_;intro W d;have hr:=HR.out W d;go_wp2_with(go_at_call 153;(with_reducible refine hr.mono ?_);rintro e w6 ⟨rfl,ys,hp,T,R,p⟩)
 obtain⟨q1,q2,q3,q4⟩:=O.out;have l:=HG.out;obtain⟨H,k5,z5⟩:=G5.out;have f:=N.out;have Y:ys.length=xs.length+1:=by rw [hp.length_eq,←q1]
 have J:some S≠some g:=fun e=>C (by cases e;rfl);have F:w6.heap[S]?=w5.heap[S]?:=(p.block S (Nat.lt_of_lt_of_le A d.size) J).trans (d.block S A);refine bodyPost_end (results_none rfl _ _ _) rfl ⟨rfl,g,cap,ys,?_,hp,T.heap (by omega) q3 q4,R,f.imp id (fun e=>by omega),⟨p.os.trans (d.os.trans (H.os.trans l.os)),p.tape.trans (d.tape.trans (H.tape.trans l.tape)),p.output.trans (d.output.trans (H.output.trans l.output)),Nat.le_trans l.size (Nat.le_trans H.size (Nat.le_trans d.size p.size)),fun q hq h1 h2=>?_,fun j hj=>?_,fun j=>?_⟩⟩
 ·rw [World.cell?_of_block (w:=w5) (a:=⟨S,o,none⟩) F,I,Y]
 ·have l4:q<c.heap.size:=Nat.lt_of_lt_of_le hq l.size;have l5:q<w5.heap.size:=Nat.lt_of_lt_of_le l4 H.size;have V:some q≠some g:=fun e=>by
   cases e;rcases f with e|e
   ·exact h2 e.symm
   ·omega
  exact(p.block q (Nat.lt_of_lt_of_le l5 d.size) V).trans ((d.block q l5).trans ((H.block q l4 (fun e=>h1 (by cases e;rfl))).trans (l.block q hq h2)))
 ·rw [World.cell?_of_block (w:=w5) (a:=⟨S,j,none⟩) F,k5 j hj];exact World.cell?_of_block (a:=⟨S,j,none⟩) (l.block S D n)
 ·rw [World.frozen?_of_block (w:=w5) (a:=⟨S,j,none⟩) F,z5 j];exact World.frozen?_of_block (a:=⟨S,j,none⟩) (l.block S D n)
end Go.Proofs.YtfpgjkbjbbgciaaGreatDoor
