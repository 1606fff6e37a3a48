import Derived.Test.YtfpgjkbjbbgciaaGreatDoorMi33
set_option maxRecDepth 100000
set_option maxHeartbeats 8000000
namespace Go.Proofs.YtfpgjkbjbbgciaaGreatDoor
open Go.RowKit Sp
def znH(w:World)(k o:Kn):Ending→World→Prop:=fun e w'=>∃ x:Bool,e=.returned (.bool x)∧Below w.heap.size w w'∧(x=true→keyK k≤keyK o)∧(x=false→keyK o≤keyK k)
def zwl(w:World)(k o:Kn):Ending→World→Prop:=fun e w'=>∃ x:Bool,e=.returned (.bool x)∧Below w.heap.size w w'∧(x=true→k.next=o.next∧k.behind=o.behind∧k.steps=o.steps)∧(x=false→¬(k.next=o.next∧k.behind=o.behind∧k.steps=o.steps))
theorem zi9{w:World}{b c b1 c1:Nat}{a1 a2:Option Addr}{k o:Kn}(h:KnM w b (.slice a1 k.behind.length b1) k)(h2:KnM w c (.slice a2 o.behind.length c1) o)(B1:BhM w a1 b1 k.behind)(B2:BhM w a2 c1 o.behind)(K1:KeyOk k)(K2:KeyOk o):Calls Tryz.prog 291 #[.pointer (some ⟨b,0,none⟩),.pointer (some ⟨c,0,none⟩)] w (znH w k o):=by
 obtain⟨c1',c2',c3'⟩:=znG K1 K2
 have HC:Hid ((cmpK k o<0→keyK k<keyK o)∧(cmpK k o=0→k.next=o.next∧k.behind=o.behind∧k.steps=o.steps)∧(0<cmpK k o→keyK o<keyK k)):=⟨c1',c2',c3'⟩
 have HE:Hid (k.next=o.next∧k.behind=o.behind∧k.steps=o.steps→keyK k=keyK o):=fun h=>by unfold keyK;rw [h.1,h.2.1,h.2.2]
 clear c1' c2' c3'
 go_enter Tryz.func291,Tryz.ntmps291
 go_wp2_with(go_at_call 155;(with_reducible refine(zhf h h2 B1 B2).mono ?_);rintro e wx ⟨rfl,hbx⟩)
 go_ret
 obtain⟨d1,d2,d3⟩:=HC.out
 refine⟨_,rfl,hbx,fun e=>?_,fun e=>?_⟩
 ·have h:cmpK k o<0:=by simpa using e
  have:=d1 h;omega
 ·have h:¬cmpK k o<0:=by simpa using e
  by_cases h0:cmpK k o=0
  ·have:=HE.out (d2 h0);omega
  ·have:=d3 (by omega);omega
theorem zqK{w:World}{b c b1 c1:Nat}{a1 a2:Option Addr}{k o:Kn}(h:KnM w b (.slice a1 k.behind.length b1) k)(h2:KnM w c (.slice a2 o.behind.length c1) o)(B1:BhM w a1 b1 k.behind)(B2:BhM w a2 c1 o.behind)(K1:KeyOk k)(K2:KeyOk o):Calls Tryz.prog 141 #[.pointer (some ⟨b,0,none⟩),.pointer (some ⟨c,0,none⟩)] w (zwl w k o):=by
 obtain⟨c1',c2',c3'⟩:=znG K1 K2
 have HC:Hid ((cmpK k o=0→k.next=o.next∧k.behind=o.behind∧k.steps=o.steps)∧(k.next=o.next∧k.behind=o.behind∧k.steps=o.steps→cmpK k o=0)):=⟨c2',fun h=>zt2 h.1 h.2.1 h.2.2⟩
 clear c1' c2' c3'
 go_enter Tryz.func141,Tryz.ntmps141
 go_wp2_with(go_at_call 155;(with_reducible refine(zhf h h2 B1 B2).mono ?_);rintro e wx ⟨rfl,hbx⟩)
 go_ret
 obtain⟨d1,d2⟩:=HC.out
 exact⟨_,rfl,hbx,fun e=>d1 (by simpa using e),fun e h=>by have:=d2 h;rw [this] at e;simp at e⟩
structure Wy where
 b:Nat
 ao:Option Addr
 cap:Nat
 k:Kn
def wy0:Wy:=⟨0,none,0,kn0⟩
structure WyM(w:World)(x:Wy):Prop where
 key:KeyOk x.k
 kn:KnM w x.b (.slice x.ao x.k.behind.length x.cap) x.k
 bh:BhM w x.ao x.cap x.k.behind
theorem WyM.below{w w':World}{x:Wy}(h:WyM w x)(hb:Below w.heap.size w w'):WyM w' x:=⟨h.key,h.kn.below hb h.kn.lt,h.bh.below hb⟩
structure HpM(w:World)(H C:Nat)(xs:List Wy):Prop where
 ptr:∀(i:Nat) (x:Wy),xs[i]?=some x→w.cell? ⟨H,i,none⟩=some (.pointer (some ⟨x.b,0,none⟩))
 wy:∀ x∈xs,WyM w x
 lt:H<w.heap.size
 far:∀ x∈xs,¬x.b=H∧∀ a,x.ao=some a→¬a.block=H
 fz:∀ j,w.frozen? ⟨H,j,none⟩=false
 shape:∃ cur:Array Value,w.heap[H]?=some (.cells cur 197 (0,0))∧cur.size=C
theorem HpM.below{w w':World}{H C:Nat}{xs:List Wy}(h:HpM w H C xs)(hb:Below w.heap.size w w'):HpM w' H C xs :=
 ⟨fun i x hx=>(World.cell?_of_block (a:=⟨H,i,none⟩) (hb.block H h.lt)).trans (h.ptr i x hx),fun x hx=>(h.wy x hx).below hb,Nat.lt_of_lt_of_le h.lt hb.size,h.far,fun j=>(World.frozen?_of_block (a:=⟨H,j,none⟩) (hb.block H h.lt)).trans (h.fz j),by obtain⟨cur,h1,h2⟩:=h.shape;exact⟨cur,(hb.block H h.lt).trans h1,h2⟩⟩
theorem HpM.at'{w:World}{H C:Nat}{xs:List Wy}(h:HpM w H C xs){i:Nat}(hi:i<xs.length):w.cell? ⟨H,i,none⟩=some (.pointer (some ⟨(xs.getD i wy0).b,0,none⟩))∧WyM w (xs.getD i wy0):=by
 have e:xs.getD i wy0=xs[i]:=by simp [List.getD,hi]
 rw [e]
 exact⟨h.ptr i _ (List.getElem?_eq_getElem hi),h.wy _ (List.getElem_mem hi)⟩
def stp(xs:List Wy)(i:Nat):Int:=keyK (xs.getD i wy0).k
theorem ziA (v:Value) (w:World):(method 422 197 v "Before").run Tryz.prog w=.ok (291,v) w:=by kernel_rfl
theorem zhg(args:Array Value)(w:World):(callFunc 291 args).run Tryz.prog w=.ok (.enter 291 args) w:=by kernel_rfl
def zlY(w:World)(xs:List Wy)(a:Nat):Ending→World→Prop:=fun e w'=>∃ m:Nat,e=.returned (.int .i64 (m:Int))∧Below w.heap.size w w'∧m<xs.length∧(m=a∨m=2*a+1∨m=2*a+2)∧stp xs m≤stp xs a∧(2*a+1<xs.length→stp xs m≤stp xs (2*a+1))∧(2*a+2<xs.length→stp xs m≤stp xs (2*a+2))
theorem zt4{w:World}{H C cap:Nat}{xs:List Wy}(h:HpM w H C xs)(a:Nat)(ha:a<xs.length)(hn:xs.length≤100000):Calls Tryz.prog 169 #[.slice (some ⟨H,0,none⟩) xs.length cap,.int .i64 (a:Int)] w (zlY w xs a):=by
 have hmeth:=ziA
 have hcf:=zhg
 have a0:(0:Int)≤(a:Int):=by omega
 have a1:(a:Int)≤100000:=by omega
 go_enter Tryz.func169,Tryz.ntmps169
 go_wp2
 go_loopw [5,6] (fun tl tb wr=>∃ m q:Nat,tl=.int .i64 (m:Int)∧tb=.int .i64 (q:Int)∧2*a+1≤q∧q≤2*a+3∧m<xs.length∧(m=a∨2*a+1≤m∧m<q)∧stp xs m≤stp xs a∧(∀ c,2*a+1≤c→c<q→c<xs.length→stp xs m≤stp xs c)∧Below w.heap.size w wr) (fun _ tb _=>2*a+3-(intOf tb).toNat)
 case atStart=>exact⟨a,2*a+1,rfl,by go_num,by omega,by omega,ha,.inl rfl,Int.le_refl _,fun c h1 h2=>by omega,Below.refl _ _⟩
 case round =>
  obtain⟨m,q,rfl,rfl,q0,q1,hm,hmq,hma,hall,hb⟩:=hrel
  have m0:(0:Int)≤(m:Int):=by omega
  have m1:(m:Int)<(xs.length:Int):=by omega
  have p0:(0:Int)≤(q:Int):=by omega
  by_cases hgo:q≤2*a+2∧q<xs.length
  ·obtain⟨g1,g2⟩:=hgo
   have g1':(q:Int)≤2*(a:Int)+2:=by omega
   have g2':(q:Int)<(xs.length:Int):=by omega
   have HF:∀ W,Below w.heap.size w W→W.cell? ⟨H,q,none⟩=some (.pointer (some ⟨(xs.getD q wy0).b,0,none⟩))∧W.cell? ⟨H,m,none⟩=some (.pointer (some ⟨(xs.getD m wy0).b,0,none⟩)):=fun W hW=>⟨((h.below hW).at' g2).1,((h.below hW).at' hm).1⟩
   have HB:∀ W,Below w.heap.size w W→Calls Tryz.prog 291 #[.pointer (some ⟨(xs.getD q wy0).b,0,none⟩),.pointer (some ⟨(xs.getD m wy0).b,0,none⟩)] W (znH W (xs.getD q wy0).k (xs.getD m wy0).k):=fun W hW=>by
    have w1:=((h.below hW).at' g2).2
    have w2:=((h.below hW).at' hm).2
    exact zi9 w1.kn w2.kn w1.bh w2.bh w1.key w2.key
   generalize hxq:xs.getD q wy0=xq at HF HB
   generalize hxm:xs.getD m wy0=xm at HF HB
   go_wp2
   refine zad 9 (fun W=>Below w.heap.size w W) hb.drew (by kernel_rfl) (by kernel_rfl) ?_
   simp only [List.take_succ_cons,List.take_zero,List.drop_succ_cons,List.drop_zero]
   iterate 9 (refine zab rfl ?_ (fun W hW=>?_) ?_;rotate_left 1;· (obtain⟨f1,f2⟩:=HF W hW;go_simp;with_reducible rfl))
   refine wpQuiet_nil ?_
   intro W hW
   have hbf:=HB W hW
   go_wp2_with(go_at_call 291;(with_reducible refine hbf.mono ?_);rintro e wx ⟨x,rfl,hbx,x1,x2⟩)
   ·rename_i hx
    have hle:stp xs q≤stp xs m:=by unfold stp;rw [hxm,hxq];exact x1 (by simpa using hx)
    refine⟨⟨q,q+1,rfl,by go_num,by omega,by omega,g2,by omega,by omega,fun c c1 c2 c3=>?_,hW.trans (hbx.mono hW.size)⟩,by simp [intOf];omega⟩
    by_cases e:c=q
    ·rw [e];exact Int.le_refl _
    ·have:=hall c c1 (by omega) c3;omega
   ·rename_i hx
    have hle:stp xs m≤stp xs q:=by unfold stp;rw [hxm,hxq];exact x2 (by simpa using hx)
    refine⟨⟨m,q+1,rfl,by go_num,by omega,by omega,hm,by omega,hma,fun c c1 c2 c3=>?_,hW.trans (hbx.mono hW.size)⟩,by simp [intOf];omega⟩
    by_cases e:c=q
    ·rw [e];exact hle
    ·exact hall c c1 (by omega) c3
  ·have hend:zlY w xs a (.returned (.int .i64 (m:Int))) wr:=⟨m,rfl,hb,hm,by omega,hma,fun c=>hall _ (by omega) (by omega) c,fun c=>hall _ (by omega) (by omega) c⟩
   by_cases g1:q≤2*a+2
   ·have g1':(q:Int)≤2*(a:Int)+2:=by omega
    have g2:¬q<xs.length:=by omega
    have g2':decide ((q:Int)<(xs.length:Int))=false:=by simpa using g2
    clear hall
    go_wp2
    go_ret
    exact hend
   ·have g1':decide ((q:Int)≤2*(a:Int)+2)=false:=by simpa using (by omega:¬(q:Int)≤2*(a:Int)+2)
    clear hall
    go_wp2
    go_ret
    exact hend
theorem WyM.other{w:World}{x:Wy}{H n:Nat}{v:Value}(h:WyM w x)(h1:¬x.b=H)(h2:∀ a,x.ao=some a→¬a.block=H):WyM (w.setCell ⟨H,n,none⟩ v) x :=
 ⟨h.key,h.kn.block (Below.heap_setCell w _ _ x.b h1),h.bh.kept (by rw [World.size_setCell];exact Nat.le_refl _) (fun g e=>Below.heap_setCell w _ _ g (h2 _ e))⟩
theorem HpM.swap{w:World}{H C:Nat}{xs:List Wy}(h:HpM w H C xs){i j:Nat}(hi:i<xs.length)(hj:j<xs.length)(hne:¬i=j):
  HpM ((w.setCell ⟨H,i,none⟩ (.pointer (some ⟨(xs.getD j wy0).b,0,none⟩))).setCell ⟨H,j,none⟩ (.pointer (some ⟨(xs.getD i wy0).b,0,none⟩))) H C (zef wy0 xs i j):=by
 have hp:=zg9 (d:=wy0) hi hj
 have hm:∀ x,x∈zef wy0 xs i j→x∈xs:=fun x hx=>hp.mem_iff.1 hx
 refine⟨fun q x hx=>?_,fun x hx=>?_,by rw [World.size_setCell,World.size_setCell];exact h.lt,fun x hx=>h.far x (hm x hx),fun q=>zcE _ _ _ _ _ (zcE _ _ _ _ _ (h.fz q)),?_⟩
 ·have hq:q<(zef wy0 xs i j).length:=(List.getElem?_eq_some_iff.1 hx).1
  have e1:(zef wy0 xs i j).getD q wy0=x:=by simp [List.getD,hx]
  rw [zpp hi hj hne] at e1
  rw [zty] at hq
  have c1:(w.setCell ⟨H,i,none⟩ (.pointer (some ⟨(xs.getD j wy0).b,0,none⟩))).cell? ⟨H,j,none⟩=some (.pointer (some ⟨(xs.getD j wy0).b,0,none⟩)):=by
   rw [zaq w H i j _ _ (h.at' hi).1,if_neg (fun e=>hne e.symm)];exact(h.at' hj).1
  rw [zaq _ H j q _ _ c1]
  by_cases e2:q=j
  ·rw [if_pos e2]
   rw [if_neg (fun e=>hne (e.symm.trans e2)),if_pos e2] at e1
   rw [e1]
  ·rw [if_neg e2,zaq w H i q _ _ (h.at' hi).1]
   by_cases e3:q=i
   ·rw [if_pos e3]
    rw [if_pos e3] at e1
    rw [e1]
   ·rw [if_neg e3]
    rw [if_neg e3,if_neg e2] at e1
    rw [←e1]
    exact(h.at' hq).1
 ·obtain⟨f1,f2⟩:=h.far x (hm x hx)
  exact((h.wy x (hm x hx)).other f1 f2).other f1 f2
 ·obtain⟨cur,h1,h2⟩:=h.shape
  exact⟨_,heap_setCell_same _ H j _ 197 _ (heap_setCell_same _ H i _ 197 _ h1),by simpa using h2⟩
theorem HpM.drew{w:World}{H C:Nat}{xs:List Wy}(h:HpM w H C xs):HpM w.drew H C xs:=h.below (Below.refl _ _).drew
def zk4(w:World)(H C:Nat)(xs:List Wy):Ending→World→Prop:=fun e w'=>e=.returned (.tuple #[])∧∃ ys,ys.Perm xs∧HpM w' H C ys∧HpAll (stp ys) ys.length∧w.grownBy w' (some H)
theorem zwm{w:World}{H C cap n:Nat}{xs:List Wy}(h:HpM w H C xs)(hl:xs.length=n)(a:Nat)(ha:a<n)(hn:n≤100000)(hR:RiseI (stp xs) n a):Calls Tryz.prog 153 #[.slice (some ⟨H,0,none⟩) n cap,.int .i64 (a:Int)] w (zk4 w H C xs):=by
 have hmeth:=ziA
 have hcf:=zhg
 have L0:∃ ys:List Wy,ys.Perm xs∧HpM w H C ys∧RiseI (stp ys) n a∧w.grownBy w (some H):=⟨xs,List.Perm.refl _,h,hR,⟨rfl,rfl,rfl,Nat.le_refl _,fun _ _ _=>rfl⟩⟩
 have HN:Hid (xs.length=n):=hl
 clear hl h hR
 go_enter Tryz.func153,Tryz.ntmps153
 go_wp2
 go_loopw [1] (fun ti wr=>∃ a:Nat,ti=.int .i64 (a:Int)∧a<n∧∃ ys:List Wy,ys.Perm xs∧HpM wr H C ys∧RiseI (stp ys) n a∧w.grownBy wr (some H)) (fun ti _=>(intOf ti).toNat)
 case atStart=>exact⟨a,rfl,ha,L0⟩
 case round =>
  obtain⟨a,rfl,ha,ys,hp,hM,hR,hg⟩:=hrel
  clear L0
  have hl:ys.length=n:=hp.length_eq.trans HN.out
  by_cases h0:a=0
  ·subst h0
   go_wp2
   exact bodyPost_end (results_none rfl _ _ _) rfl ⟨rfl,ys,hp,hM,by rw [hl];exact hR.done (.inl rfl),hg⟩
  ·have h1:(0:Int)<(a:Int):=by omega
   have hq:(((a:Int)-1).tdiv 2)=(((a-1)/2:Nat):Int):=by rw [Int.tdiv_eq_ediv_of_nonneg (by omega)];omega
   have hup:(a-1)/2<n:=by omega
   generalize hu:(a-1)/2=u at hq hup
   have u0:(0:Int)≤(u:Int):=by omega
   have u1:(u:Int)<(n:Int):=by omega
   have a1:(a:Int)<(n:Int):=by omega
   have a2:(n:Int)≤100000:=by omega
   have hay:a<ys.length:=by omega
   have huy:u<ys.length:=by omega
   have hau:¬a=u:=by omega
   have HF:∀ W,Below wr.heap.size wr W→W.cell? ⟨H,a,none⟩=some (.pointer (some ⟨(ys.getD a wy0).b,0,none⟩))∧W.cell? ⟨H,u,none⟩=some (.pointer (some ⟨(ys.getD u wy0).b,0,none⟩)):=fun W hW=>⟨((hM.below hW).at' hay).1,((hM.below hW).at' huy).1⟩
   have HB:∀ W,Below wr.heap.size wr W→Calls Tryz.prog 291 #[.pointer (some ⟨(ys.getD a wy0).b,0,none⟩),.pointer (some ⟨(ys.getD u wy0).b,0,none⟩)] W (znH W (ys.getD a wy0).k (ys.getD u wy0).k):=fun W hW=>by
    have w1:=((hM.below hW).at' hay).2
    have w2:=((hM.below hW).at' huy).2
    exact zi9 w1.kn w2.kn w1.bh w2.bh w1.key w2.key
   have HS:∀ W,Below wr.heap.size wr W→HpM ((W.setCell ⟨H,a,none⟩ (.pointer (some ⟨(ys.getD u wy0).b,0,none⟩))).setCell ⟨H,u,none⟩ (.pointer (some ⟨(ys.getD a wy0).b,0,none⟩))) H C (zef wy0 ys a u):=fun W hW=>(hM.below hW).swap hay huy hau
   have hsa:stp ys a=keyK (ys.getD a wy0).k:=rfl
   have hsu:stp ys u=keyK (ys.getD u wy0).k:=rfl
   have hfz:∀ W j,Below wr.heap.size wr W→W.frozen? ⟨H,j,none⟩=false:=fun W j hW=>(hM.below hW).fz j
   generalize ys.getD a wy0=xa at HF HB HS hsa
   generalize ys.getD u wy0=xu at HF HB HS hsu
   go_wp2
   refine zad 9 (fun W=>Below wr.heap.size wr W) (Below.refl _ _).drew (by kernel_rfl) (by kernel_rfl) ?_
   simp only [List.take_succ_cons,List.take_zero,List.drop_succ_cons,List.drop_zero]
   iterate 9 (refine zab rfl ?_ (fun W hW=>?_) ?_;rotate_left 1;· (obtain⟨f1,f2⟩:=HF W hW;go_simp;with_reducible rfl))
   refine wpQuiet_nil ?_
   intro W hW
   have hbf:=HB W hW
   go_wp2_with(go_at_call 291;(with_reducible refine hbf.mono ?_);rintro e wx ⟨x,rfl,hbx,x1,x2⟩;have hX:Below wr.heap.size wr wx:=hW.trans (hbx.mono hW.size))
   ·have hx0:(!x)=true:=by assumption
    have hx:x=false:=by simpa using hx0
    have hle:stp ys u≤stp ys a:=by rw [hsa,hsu];exact x2 hx
    rw [←hu] at hle
    refine bodyPost_ret (results_none rfl _ _ _) rfl ⟨rfl,ys,hp,hM.below hX,by rw [hl];exact hR.done (.inr hle),zae hg (zaJ hX)⟩
   ·have hx0:(!x)=false:=by assumption
    have hx:x=true:=by simpa using hx0
    obtain⟨c1,c2⟩:=HF wx hX
    have z1:=hfz wx a hX
    have z2:=hfz wx u hX
    have HS2:=HS wx hX
    have hle:stp ys a≤stp ys u:=by rw [hsa,hsu];exact x1 hx
    rw [←hu] at hle
    have hR2:=hR.step (by omega) ha hle
    rw [hu] at hR2
    have hR3:RiseI (stp (zef wy0 ys a u)) n u:=by
     have e:stp (zef wy0 ys a u)=znE (stp ys) a u:=ztz hay huy hau (fun x=>keyK x.k)
     rw [e]
     exact hR2
    clear HF HB HS hfz hle hR2
    go_region
    all_goals go_wp2
    all_goals exact⟨⟨u,rfl,hup,zef wy0 ys a u,(zg9 hay huy).trans hp,HS2.drew,hR3,zdG (zae hg (zae (zah hX) (zah (Below.refl _ _))))⟩,by simp [intOf];omega⟩
def zjo(xs:List Wy):List Value:=xs.map fun x=>.pointer (some ⟨x.b,0,none⟩)
structure HeapM(w:World)(B:Nat)(v:Value)(xs:List Wy):Prop where
 row:w.ownsRow B 197 1 v xs.length (zjo xs)
 wy:∀ x∈xs,WyM w x
 far:∀ g,v.ownBlock=some g→∀ x∈xs,¬x.b=g∧∀ a,x.ao=some a→¬a.block=g
theorem HeapM.hp{w:World}{B H cap:Nat}{xs:List Wy}(h:HeapM w B (.slice (some ⟨H,0,none⟩) xs.length cap) xs):HpM w H cap xs∧xs.length≤cap∧cap≤maxLen∧B≤H:=by
 obtain⟨hl,hr⟩:=h.row
 rcases hr with ⟨h1,_⟩|⟨g,cap',cur,h1,hB,hg,h2,h3,h4,h5⟩
 ·cases h1
 ·cases h1
  have hlt:H<w.heap.size:=by
   rcases Nat.lt_or_ge H w.heap.size with hlt|hge
   ·exact hlt
   ·rw [Array.getElem?_eq_none hge] at hg;cases hg
  refine⟨⟨fun i x hx=>zd2 h.row i _ (by unfold zjo;rw [List.getElem?_map,hx];rfl),h.wy,hlt,h.far H rfl,fun j=>?_,⟨cur,hg,by omega⟩⟩,h2,h3,hB⟩
  simp [World.frozen?,hg]
theorem HpM.heap{w:World}{B H cap:Nat}{xs:List Wy}(h:HpM w H cap xs)(h1:xs.length≤cap)(h2:cap≤maxLen)(hB:B≤H):HeapM w B (.slice (some ⟨H,0,none⟩) xs.length cap) xs:=by
 obtain⟨cur,hg,hs⟩:=h.shape
 refine⟨⟨by simp [zjo],.inr ⟨H,cap,cur,rfl,hB,hg,h1,h2,by omega,?_⟩⟩,h.wy,fun g hg=>by cases hg;exact h.far⟩
 apply List.ext_getElem?
 intro i
 by_cases hi:i<xs.length
 ·rw [List.getElem?_take_of_lt (by omega)]
  have e:=h.ptr i xs[i] (List.getElem?_eq_getElem hi)
  have e2:w.cell? ⟨H,i,none⟩=cur[i]?:=by simp [World.cell?,hg]
  rw [e2] at e
  unfold zjo
  rw [List.getElem?_map,List.getElem?_eq_getElem hi]
  simpa using e
 ·rw [List.getElem?_eq_none (by simp;omega),List.getElem?_eq_none (by simp [zjo];omega)]
theorem Tryz.under151:Tryz.prog.underlying 151=some (.slice 197):=by kernel_rfl
theorem zqM{w:World}{H n cap p:Nat}(hn:0<n)(hc:w.cell? ⟨H,0,none⟩=some (.pointer (some ⟨p,0,none⟩))):Calls Tryz.prog 140 #[.slice (some ⟨H,0,none⟩) n cap] w fun e w'=>e=.returned (.pointer (some ⟨p,0,none⟩))∧w'=w:=by
 have hn1:(0:Int)<(n:Int):=by omega
 go_enter Tryz.func140,Tryz.ntmps140
 go_wp2
 go_ret
 exact⟨rfl,rfl⟩
structure Kept2(w w':World)(S o:Nat)(hb:Option Nat):Prop where
 os:w'.os=w.os
 tape:w'.tape=w.tape
 output:w'.output=w.output
 size:w.heap.size≤w'.heap.size
 block:∀ q,q<w.heap.size→¬q=S→some q≠hb→w'.heap[q]?=w.heap[q]?
 cell:∀ j,¬j=o→w'.cell? ⟨S,j,none⟩=w.cell? ⟨S,j,none⟩
 fz:∀ j,w'.frozen? ⟨S,j,none⟩=w.frozen? ⟨S,j,none⟩
theorem zlZ(w:World)(a:Value):∀ j u,[a][j]?=some u→(w.alloc (.cells #[a] 197)).cell? ((⟨w.heap.size,0,none⟩:Addr).add j)=some u:=by
 intro j u hj
 rw [Addr.add_mid,Nat.zero_add,World.cell?_alloc_new]
 cases j with
 | zero=>cases hj;rfl
 | succ j=>simp at hj
theorem WyM.grown{w w':World}{x:Wy}{r:Option Nat}(h:WyM w x)(hg:w.grownBy w' r)(f:∀ g,r=some g→¬x.b=g∧∀ a,x.ao=some a→¬a.block=g):WyM w' x :=
 ⟨h.key,h.kn.block (hg.block x.b h.kn.lt (fun e=>(f _ e.symm).1 rfl)),h.bh.kept hg.size (fun g e=>hg.block g (h.bh.cell g e).1 (fun e2=>(f _ e2.symm).2 _ e rfl))⟩
theorem zcL{w:World}{S o j:Nat}{v:Value}:(w.setCell ⟨S,o,none⟩ v).frozen? ⟨S,j,none⟩=w.frozen? ⟨S,j,none⟩:=by
 simp
def zyp(w:World)(S o B:Nat)(v:Value)(xs:List Wy)(x:Wy):Ending→World→Prop:=fun e w'=>e=.returned (.tuple #[])∧∃(H cap:Nat) (ys:List Wy),w'.cell? ⟨S,o,none⟩=some (.slice (some ⟨H,0,none⟩) ys.length cap)∧ys.Perm (xs++[x])∧HeapM w' B (.slice (some ⟨H,0,none⟩) ys.length cap) ys∧HpAll (stp ys) ys.length∧(v.ownBlock=some H∨w.heap.size≤H)∧Kept2 w w' S o v.ownBlock
theorem zwo{w:World}{S o B:Nat}{v:Value}{xs:List Wy}{x:Wy}(hc:w.cell? ⟨S,o,none⟩=some v)(hz:w.frozen? ⟨S,o,none⟩=false)(M:HeapM w B v xs)(hA:HpAll (stp xs) xs.length)(X:WyM w x)(hlen:xs.length<100000)(hB:B≤w.heap.size)(hvS:v.ownBlock≠some S)
  (hxf:∀ g,v.ownBlock=some g→¬x.b=g∧∀ a,x.ao=some a→¬a.block=g) (hS:∀ y∈xs++[x],¬y.b=S∧∀ a,y.ao=some a→¬a.block=S) :
  Calls Tryz.prog 138 #[.pointer (some ⟨S,o,none⟩),.pointer (some ⟨x.b,0,none⟩)] w (zyp w S o B v xs x):=by
 obtain⟨i0,hi0,hz0,hz1,hz2⟩:=info_parts Tryz.info197
 have hSl:S<w.heap.size:=World.block_lt_of_cell? w _ hc
 have hvS2:some S≠v.ownBlock:=fun e=>hvS e.symm
 have hne:¬w.heap.size=S:=by omega
 go_enter Tryz.func138,Tryz.ntmps138
 go_wp2_with(first
  | (at_builtin;refine wpList_append_lies _ rfl _ _ 151 rfl B 197 i0 (.pointer none) 1 8 Tryz.under151 hi0 hz0 hz1 hz2 rfl (by decide) _ _ _ rfl (M.row.alloc _) ⟨w.heap.size,0,none⟩ 1 1 [.pointer (some ⟨x.b,0,none⟩)] rfl rfl (zlZ _ _) (by simp [Value.oneCell']) (by omega) (by unfold maxLen;omega) (by omega) (by simp;omega) (w.heap.size+1) (by simp) ?_))
 intro g cap w4 hown4 hgrow hat hg4
 have G0:w.grownBy w4 v.ownBlock:=(World.grownBy_alloc w _ _).trans hgrow
 have hSg:¬S=g:=by
  rcases hat with e|e
  ·intro e2;exact hvS (by rw [e,e2])
  ·omega
 have hcell4:w4.cell? ⟨S,o,none⟩=some v:=(World.cell?_of_block (a:=⟨S,o,none⟩) (G0.block S hSl hvS2)).trans hc
 have hz4:w4.frozen? ⟨S,o,none⟩=false:=(World.frozen?_of_block (a:=⟨S,o,none⟩) (G0.block S hSl hvS2)).trans hz
 have hfar4:∀ y∈xs++[x],∀ q,v.ownBlock=some q→¬y.b=q∧∀ a,y.ao=some a→¬a.block=q:=fun y hy q hq=>by
  rcases List.mem_append.1 hy with h|h
  ·exact M.far q hq y h
  ·rw [List.mem_singleton.1 h];exact hxf q hq
 have hall:∀ y∈xs++[x],WyM w y:=fun y hy=>by
  rcases List.mem_append.1 hy with h|h
  ·exact M.wy y h
  ·rw [List.mem_singleton.1 h];exact X
 have hfarg:∀ y∈xs++[x],¬y.b=g∧∀ a,y.ao=some a→¬a.block=g:=fun y hy=>by
  rcases hat with e|e
  ·exact hfar4 y hy g e
  ·have hy2:=hall y hy
   refine⟨fun e2=>?_,fun a ha e2=>?_⟩
   ·have:=hy2.kn.lt;omega
   ·obtain⟨q,rfl⟩:=hy2.bh.at0 a ha
    have:=(hy2.bh.cell q ha).1
    have e3:q=g:=e2
    omega
 have hpv:zjo xs++[Value.pointer (some ⟨x.b,0,none⟩)]=zjo (xs++[x]):=by simp [zjo]
 have hln:xs.length+1=(xs++[x]).length:=by simp
 have M4:HeapM w4 B (.slice (some ⟨g,0,none⟩) (xs++[x]).length cap) (xs++[x]):=by
  refine⟨by rw [←hpv,←hln];exact hown4,fun y hy=>(hall y hy).grown G0 (hfar4 y hy),fun q hq=>by cases hq;exact hfarg⟩
 obtain⟨P4,p1,p2,p3⟩:=M4.hp
 have P5:HpM (w4.setCell ⟨S,o,none⟩ (.slice (some ⟨g,0,none⟩) (xs++[x]).length cap)) g cap (xs++[x]) :=
  ⟨fun i y hy=>(World.cell?_of_block (a:=⟨g,i,none⟩) (Below.heap_setCell _ _ _ g (fun e=>hSg e.symm))).trans (P4.ptr i y hy),fun y hy=>(P4.wy y hy).other (hS y hy).1 (hS y hy).2,by rw [World.size_setCell];exact P4.lt,P4.far,fun j=>(World.frozen?_of_block (a:=⟨g,j,none⟩) (Below.heap_setCell _ _ _ g (fun e=>hSg e.symm))).trans (P4.fz j),by obtain⟨cur,q1,q2⟩:=P4.shape;exact⟨cur,(Below.heap_setCell _ _ _ g (fun e=>hSg e.symm)).trans q1,q2⟩⟩
 have hR:RiseI (stp (xs++[x])) (xs.length+1) xs.length:=RiseI.last hA (fun i hi=>by unfold stp;simp [List.getD,List.getElem?_append_left hi])
 have c5:(w4.setCell ⟨S,o,none⟩ (.slice (some ⟨g,0,none⟩) (xs++[x]).length cap)).cell? ⟨S,o,none⟩=some (.slice (some ⟨g,0,none⟩) (xs++[x]).length cap):=World.cell?_setCell_same _ _ _ hcell4
 rw [←hln] at P5 c5
 have HR:Hid (∀ W,Below (w4.setCell ⟨S,o,none⟩ (.slice (some ⟨g,0,none⟩) (xs.length+1) cap)).heap.size (w4.setCell ⟨S,o,none⟩ (.slice (some ⟨g,0,none⟩) (xs.length+1) cap)) W→Calls Tryz.prog 153 #[.slice (some ⟨g,0,none⟩) (xs.length+1) cap,.int .i64 (xs.length:Int)] W (zk4 W g cap (xs++[x]))):=fun W hW=>zwm (cap:=cap) (P5.below hW) hln.symm xs.length (by omega) (by omega) hR
 have HLN:Hid (xs.length+1=(xs++[x]).length∧(xs++[x]).length≤cap∧cap≤maxLen∧B≤g):=⟨hln,p1,p2,p3⟩
 have HG:Hid (w.grownBy w4 v.ownBlock):=G0
 have HAT:Hid (v.ownBlock=some g∨g=w.heap.size+1):=hat
 clear hln hpv p1 p2 p3 P4 P5 M4 hall hfar4 hfarg hR hown4 hgrow G0 hat M X hxf hS hA
 go_wp2
 have G5:Hid (w4.grownBy (w4.setCell ⟨S,o,none⟩ (.slice (some ⟨g,0,none⟩) (xs.length+1) cap)) (some S)∧(∀ j,¬j=o→(w4.setCell ⟨S,o,none⟩ (.slice (some ⟨g,0,none⟩) (xs.length+1) cap)).cell? ⟨S,j,none⟩=w4.cell? ⟨S,j,none⟩)∧(∀ j,(w4.setCell ⟨S,o,none⟩ (.slice (some ⟨g,0,none⟩) (xs.length+1) cap)).frozen? ⟨S,j,none⟩=w4.frozen? ⟨S,j,none⟩)) :=
  ⟨zah (Below.refl _ _),fun j hj=>by rw [zaq _ S o j _ _ hcell4,if_neg hj],fun j=>zcL⟩
 have hS5:S<(w4.setCell ⟨S,o,none⟩ (.slice (some ⟨g,0,none⟩) (xs.length+1) cap)).heap.size:=World.block_lt_of_cell? _ _ c5
 generalize w4.setCell ⟨S,o,none⟩ (.slice (some ⟨g,0,none⟩) (xs.length+1) cap)=w5 at c5 HR G5 hS5 ⊢
 have HF:∀ W,Below w5.heap.size w5 W→W.cell? ⟨S,o,none⟩=some (.slice (some ⟨g,0,none⟩) (xs.length+1) cap):=fun W hW=>(World.cell?_of_block (a:=⟨S,o,none⟩) (hW.block S hS5)).trans c5
 refine zad 8 (fun W=>Below w5.heap.size w5 W) (Below.refl _ _).drew (by kernel_rfl) (by kernel_rfl) ?_
 simp only [List.take_succ_cons,List.take_zero,List.drop_succ_cons,List.drop_zero]
 iterate 8 (refine zab rfl ?_ (fun W hW=>?_) ?_;rotate_left 1;· (have f1:=HF W hW;go_simp;with_reducible rfl))
 refine wpQuiet_nil ?_
 intro W hW
 have hr:=HR.out W hW
 go_wp2_with(go_at_call 153;(with_reducible refine hr.mono ?_);rintro e w6 ⟨rfl,ys,hp,hM6,hA6,hg6⟩)
 obtain⟨q1,q2,q3,q4⟩:=HLN.out
 have G0:=HG.out
 obtain⟨g5,k5,z5⟩:=G5.out
 have hat:=HAT.out
 have hyl:ys.length=xs.length+1:=by rw [hp.length_eq,←q1]
 have hSne:some S≠some g:=fun e=>hSg (by cases e;rfl)
 have hb6:w6.heap[S]?=w5.heap[S]?:=(hg6.block S (Nat.lt_of_lt_of_le hS5 hW.size) hSne).trans (hW.block S hS5)
 refine bodyPost_end (results_none rfl _ _ _) rfl ⟨rfl,g,cap,ys,?_,hp,hM6.heap (by omega) q3 q4,hA6,hat.imp id (fun e=>by omega),⟨hg6.os.trans (hW.os.trans (g5.os.trans G0.os)),hg6.tape.trans (hW.tape.trans (g5.tape.trans G0.tape)),hg6.output.trans (hW.output.trans (g5.output.trans G0.output)),Nat.le_trans G0.size (Nat.le_trans g5.size (Nat.le_trans hW.size hg6.size)),fun q hq h1 h2=>?_,fun j hj=>?_,fun j=>?_⟩⟩
 ·rw [World.cell?_of_block (w:=w5) (a:=⟨S,o,none⟩) hb6,c5,hyl]
 ·have l4:q<w4.heap.size:=Nat.lt_of_lt_of_le hq G0.size
  have l5:q<w5.heap.size:=Nat.lt_of_lt_of_le l4 g5.size
  have hqg:some q≠some g:=fun e=>by
   cases e
   rcases hat with e|e
   ·exact h2 e.symm
   ·omega
  exact(hg6.block q (Nat.lt_of_lt_of_le l5 hW.size) hqg).trans ((hW.block q l5).trans ((g5.block q l4 (fun e=>h1 (by cases e;rfl))).trans (G0.block q hq h2)))
 ·rw [World.cell?_of_block (w:=w5) (a:=⟨S,j,none⟩) hb6,k5 j hj]
  exact World.cell?_of_block (a:=⟨S,j,none⟩) (G0.block S hSl hvS2)
 ·rw [World.frozen?_of_block (w:=w5) (a:=⟨S,j,none⟩) hb6,z5 j]
  exact World.frozen?_of_block (a:=⟨S,j,none⟩) (G0.block S hSl hvS2)
end Go.Proofs.YtfpgjkbjbbgciaaGreatDoor
