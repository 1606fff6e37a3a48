import Derived.Test.YtfpgjkbjbbgciaaGreatDoorMj42
import Derived.Test.YtfpgjkbjbbgciaaGreatDoorMj48
import Derived.Deep.DeepAppendRoom
import Derived.OwnWalk
set_option maxRecDepth 100000
set_option maxHeartbeats 8000000
namespace Go.Proofs.YtfpgjkbjbbgciaaGreatDoor
section
open Go.RowKit
theorem zbx{w:World}{q:Nat}{o:Obj}(h:w.heap[q]?=some o):q<w.heap.size:=(Array.getElem?_eq_some_iff.1 h).1
theorem zbN{w:World}{B:Nat}{e:TypeId}{size n:Nat}{v:Value}{xs:List Value}(h:w.ownsRow B e size v n xs){g:Nat}(hg:v.ownBlock=some g):∃ cur,w.heap[g]?=some (.cells cur e (0,0)):=by
 rcases h.2 with ⟨rfl,_⟩|⟨g',cap,cur,rfl,_,a,_⟩
 ·cases hg
 ·cases hg;exact⟨cur,a⟩
theorem zd1{w:World}{b b':Nat}{e:TypeId}{size n:Nat}{v:Value}{xs:List Value}(h:w.ownsRow b e size v n xs)(hb:b'≤b):w.ownsRow b' e size v n xs:=by
 refine⟨h.1,?_⟩;rcases h.2 with d|⟨g,a,c,i,f,r⟩
 ·exact .inl d
 ·exact .inr ⟨g,a,c,i,Nat.le_trans hb f,r⟩
theorem zdl{w:World}{p q:Nat}{c d:Array Value}{s t:TypeId}(hp:w.heap[p]?=some (.cells c s (0,0)))(hq:w.heap[q]?=some (.cells d t (0,0)))(hne:¬s=t):¬p=q:=fun e=>by
 rw [e,hq] at hp;simp only [Option.some.injEq,Obj.cells.injEq] at hp;exact hne hp.2.1.symm
theorem zmS{cur:Array Value}{n:Nat}{x:Value}(h:cur.toList.take (n*1)=List.replicate n x){j:Nat}(hj:j<n):cur[j]?=some x:=by
 have e:=congrArg (fun l=>l[j]?) h;simp only [List.getElem?_take,List.getElem?_replicate,Nat.mul_one,if_pos hj] at e;rw [←e];simp
theorem MarkV.of_row{w:World}{B:Nat}{v:Value}{n:Nat}{m:Int}{X:Nat→Prop}{N:Nat}(h:w.ownsRow B 2 1 v n (List.replicate n (.int .i64 m)))(hX:∀ q,v.ownBlock=some q→X q)(hN:n≤N):MarkV w X m N v:=by
 rcases h.2 with ⟨rfl,rfl⟩|⟨g,b,a,rfl,_,d,_,_,_,c⟩
 ·exact⟨none,0,0,rfl,Nat.zero_le _,fun h=>absurd h (Nat.lt_irrefl 0)⟩
 ·exact⟨_,n,b,rfl,hN,fun _=>⟨g,a,rfl,hX g rfl,d,fun j hj=>zmS c hj⟩⟩
theorem MarkV.more{w:World}{X:Nat→Prop}{m:Int}{N M:Nat}{v:Value}(h:MarkV w X m N v)(hM:N≤M):MarkV w X m M v:=by
 obtain⟨b,n,a,e,hn,c⟩:=h;exact⟨b,n,a,e,by omega,c⟩
theorem MarkV.grow{w w':World}{X:Nat→Prop}{m:Int}{N n g B cap:Nat}{u:Value}(h:MarkV w X m N u)(hg:w.grownBy w' (some g))(hr:w'.ownsRow B 2 1 (.slice (some ⟨g,0,none⟩) n cap) n (List.replicate n (.int .i64 m)))(hN:N≤n):MarkV w' X m n u:=by
 obtain⟨t,k,c,e,hk,r⟩:=h;refine⟨t,k,c,e,by omega,fun hp=>?_⟩;obtain⟨d,i,l,q,o,s⟩:=r hp;by_cases p:d=g
 ·subst p;rcases hr.2 with ⟨b,_⟩|⟨g2,cap2,a,b,_,f,_,_,_,v⟩
  ·cases b
  ·cases b;exact⟨d,a,l,q,f,fun j hj2=>zmS v (by omega)⟩
 ·exact⟨d,i,l,q,(hg.block d (zbx o) (fun b=>p (Option.some.inj b))).trans o,s⟩
theorem MarkV.other{w w':World}{X:Nat→Prop}{m:Int}{N:Nat}{r:Option Nat}{u:Value}(h:MarkV w X m N u)(hg:w.grownBy w' r)(hr:∀ g cur,w.heap[g]?=some (.cells cur 2 (0,0))→¬some g=r):MarkV w' X m N u:=by
 obtain⟨j,k,c,e,d,f⟩:=h;refine⟨j,k,c,e,d,fun hp=>?_⟩;obtain⟨g,cur,b,l,a,i⟩:=f hp;exact⟨g,cur,b,l,(hg.block g (zbx a) (hr g cur a)).trans a,i⟩
def HX(w:World)(v:Value)(q:Nat):Prop:=v.ownBlock=some q∨w.heap.size≤q
structure HoldGo(w0:World)(v0:Value)(B:Nat)(m:Int)(N k:Nat)(lv lists:Value)(vs:List Value)(w:World):Prop where
 row:w.ownsRow B 2 1 lv N (List.replicate N (.int .i64 m))
 blk:w.heap[w0.heap.size]?=some (.cells #[lists,.int .i64 m] 104 (0,0))
 lst:w.ownsRow (w0.heap.size+1) 29 1 lists k vs
 mrk:∀ u∈vs,MarkV w (HX w0 v0) m N u
 own:∀ q,lv.ownBlock=some q→HX w0 v0 q
 grw:w0.grownBy w v0.ownBlock
 low:B≤w0.heap.size
theorem zp9(N:Nat)(x:Value):List.replicate N x++[x]=List.replicate (N+1) x:=by
 rw [List.replicate_succ']
theorem zek{w w1 w2:World}{r s:Option Nat}(h:w.grownBy w1 r)(k:w1.grownBy w2 s)(hs:∀ q,s=some q→r=some q∨w.heap.size≤q):w.grownBy w2 r :=
 ⟨k.os.trans h.os,k.tape.trans h.tape,k.output.trans h.output,Nat.le_trans h.size k.size,fun q hq hne=>(k.block q (Nat.lt_of_lt_of_le hq h.size) (fun e=>by
  rcases hs q e.symm with e1|e1
  ·exact hne e1.symm
  ·omega)).trans (h.block q hq hne)⟩
theorem HoldGo.size{w0 w:World}{v0 lv lists:Value}{B N k:Nat}{m:Int}{vs:List Value}(h:HoldGo w0 v0 B m N k lv lists vs w):w0.heap.size<w.heap.size:=zbx h.blk
theorem HoldGo.room{w0 w w4:World}{v0 lists:Value}{B N k g cap:Nat}{m:Int}{vs:List Value}{o:Obj}(h:HoldGo w0 v0 B m N k (.slice (some ⟨g,0,none⟩) N cap) lists vs w)
  (hr:w4.ownsRow B 2 1 (.slice (some ⟨g,0,none⟩) (N+1) cap) (N+1) (List.replicate N (.int .i64 m)++[.int .i64 m])) (hg:(w.alloc o).grownBy w4 (some g)):HoldGo w0 v0 B m (N+1) k (.slice (some ⟨g,0,none⟩) (N+1) cap) lists vs w4:=by
 rw [zp9] at hr;have a:w.grownBy w4 (some g):=(World.grownBy_alloc w o _).trans hg;obtain⟨cur,b⟩:=zbN h.row (g:=g) rfl;refine⟨hr,(a.block _ h.size (fun e=>zdl h.blk b (by decide) (Option.some.inj e))).trans h.blk,zaj h.lst (fun q hq=>?_),fun u hu=>(h.mrk u hu).grow a hr (by omega),h.own,?_,h.low⟩
 ·obtain⟨c2,c⟩:=zbN h.lst hq;exact a.block q (zbx c) (fun e=>zdl c b (by decide) (Option.some.inj e))
 ·exact zek h.grw a (fun q e=>by cases e;exact h.own g rfl)
theorem HoldGo.full{w0 w w4:World}{v0 lv lists v':Value}{B N k:Nat}{m:Int}{vs:List Value}{o:Obj}(h:HoldGo w0 v0 B m N k lv lists vs w)
  (hr:w4.ownsRow (w.alloc o).heap.size 2 1 v' (N+1) (List.replicate N (.int .i64 m)++[.int .i64 m])) (hg:(w.alloc o).grownBy w4 none):HoldGo w0 v0 B m (N+1) k v' lists vs w4:=by
 rw [zp9] at hr;have a:w.grownBy w4 none:=(World.grownBy_alloc w o _).trans hg;have hs:=h.size;have hl:=h.low;have hz:(w.alloc o).heap.size=w.heap.size+1:=by simp
 refine⟨zd1 hr (by omega),(a.block _ h.size (fun e=>by cases e)).trans h.blk,zaj h.lst (fun q hq=>?_),fun u hu=>((h.mrk u hu).other a (fun _ _ _ e=>by cases e)).more (by omega),fun q hq=>.inr ?_,?_,h.low⟩
 ·obtain⟨c2,b⟩:=zbN h.lst hq;exact a.block q (zbx b) (fun e=>by cases e)
 ·have:=(hr.lt q hq).1;omega
 ·exact zek h.grw a (fun q e=>by cases e)
theorem HoldGo.put{w0 w w4:World}{v0 lv lists:Value}{B N k c cap:Nat}{m:Int}{vs:List Value}{o:Obj}(h:HoldGo w0 v0 B m N k lv lists vs w)
  (hr:w4.ownsRow (w0.heap.size+1) 29 1 (.slice (some ⟨c,0,none⟩) (k+1) cap) (k+1) (vs++[lv])) (hg:(w.alloc o).grownBy w4 lists.ownBlock) :
  HoldGo w0 v0 B m N (k+1) lv (.slice (some ⟨c,0,none⟩) (k+1) cap) (vs++[lv]) (w4.setCell ⟨w0.heap.size,0,none⟩ (.slice (some ⟨c,0,none⟩) (k+1) cap))∧w4.heap[w0.heap.size]?=some (.cells #[lists,.int .i64 m] 104 (0,0)):=by
 have d:w.grownBy w4 lists.ownBlock:=(World.grownBy_alloc w o _).trans hg;have i:∀(q:Nat) (cur:Array Value) (t:TypeId),¬t=29→w.heap[q]?=some (.cells cur t (0,0))→¬some q=lists.ownBlock:=fun q cur t ht hq e=>by
  obtain⟨j,a⟩:=zbN h.lst e.symm;exact zdl hq a ht rfl
 have n:w4.heap[w0.heap.size]?=some (.cells #[lists,.int .i64 m] 104 (0,0)):=(d.block _ h.size (i _ _ 104 (by decide) h.blk)).trans h.blk;have r:=heap_setCell_same w4 w0.heap.size 0 _ 104 (.slice (some ⟨c,0,none⟩) (k+1) cap) n;have l:w4.grownBy (w4.setCell ⟨w0.heap.size,0,none⟩ (.slice (some ⟨c,0,none⟩) (k+1) cap)) (some w0.heap.size):=⟨rfl,rfl,rfl,by simp,fun q _ hq=>heap_setCell_other w4 _ q _ (fun e=>hq (by rw [e]))⟩
 have b:∀(q:Nat) (cur:Array Value) (t:TypeId),¬t=104→w4.heap[q]?=some (.cells cur t (0,0))→¬some q=some w0.heap.size:=fun q cur t ht hq e=>zdl hq n ht (Option.some.inj e);have p:∀ u,MarkV w (HX w0 v0) m N u→MarkV (w4.setCell ⟨w0.heap.size,0,none⟩ (.slice (some ⟨c,0,none⟩) (k+1) cap)) (HX w0 v0) m N u:=fun u hu =>
  (hu.other d (fun g cur hgc=>i g cur 2 (by decide) hgc)).other l (fun g cur hgc=>b g cur 2 (by decide) hgc)
 have f:w4.ownsRow B 2 1 lv N (List.replicate N (.int .i64 m)):=zaj h.row (fun q hq=>by
  obtain⟨j,a⟩:=zbN h.row hq;exact d.block q (zbx a) (i q j 2 (by decide) a))
 refine⟨⟨zaj f (fun q hq=>?_),r,zaj hr (fun q hq=>?_),fun u hu=>?_,h.own,?_,h.low⟩,n⟩
 ·obtain⟨j,a⟩:=zbN f hq;exact l.block q (zbx a) (b q j 2 (by decide) a)
 ·obtain⟨j,a⟩:=zbN hr hq;exact l.block q (zbx a) (b q j 29 (by decide) a)
 ·rcases List.mem_append.1 hu with e|e
  ·exact p u (h.mrk u e)
  ·rw [List.mem_singleton.1 e];exact p lv (.of_row h.row h.own (Nat.le_refl _))
 ·refine zek (zek h.grw d (fun q e=>.inr ?_)) l (fun q e=>.inr (by cases e;exact Nat.le_refl _));have:=(h.lst.lt q e).1;omega
theorem HoldGo.hold{w0 w:World}{v0 lv:Value}{B N k c cap:Nat}{m:Int}{vs:List Value}(h:HoldGo w0 v0 B m N k lv (.slice (some ⟨c,0,none⟩) k cap) vs w)(hk:k≤17)(hN:N≤1100000):HoldIn w (HX w0 v0) w0.heap.size:=by
 have hlen:vs.length=k:=by have:=h.lst.1;omega
 rcases h.lst.2 with ⟨e,_⟩|⟨g,cp,a,e,hb,d,hnc,hcm,hcs,b⟩
 ·cases e
 ·cases e;refine⟨m,c,cap,vs,a,.inr (Nat.le_refl _),.inr (by omega),by rw [hlen];exact h.blk,d,by omega,fun j hj=>?_,fun u hu=>(h.mrk u hu).more hN⟩;have e:=congrArg (fun l=>l[j]?) b;simp only [List.getElem?_take,Nat.mul_one,if_pos (show j<k by omega),List.getElem?_eq_getElem hj] at e;rw [←e];simp
end
section
open Go.RowKit Sp
structure RnIn(w:World)(pt pi pr:Nat)(s:ByteArray)(iv:Value):Prop where
 text:w.cell? ⟨pt,0,none⟩=some (.string s)
 inp:w.cell? ⟨pi,0,none⟩=some iv
 state:w.there pr 0 30
 ne:¬pi=pr
abbrev zpC(pt pi pr:Nat):Array Value:=#[.pointer (some ⟨pt,0,none⟩),.pointer (some ⟨pi,0,none⟩),.pointer (some ⟨pr,0,none⟩)]
theorem zxm(w:World)(hw:LibW w)(pt pi pr:Nat)(s:ByteArray)(iv:Value)(T:RnIn w pt pi pr s iv)(R:Int × Int)(hR:¬R=(0,0))(h:zbT s R):
  qC 57 (zpC pt pi pr) w fun e w'=>e=zak R.1 R.2∧qB w w':=by
 have b:=(h w hw).mono (R':=fun e w'=>e=zak R.1 R.2∧qB w w') (by
  rintro e w' ⟨a,⟨h,_⟩|⟨_,h⟩⟩
  ·exact absurd h hR
  ·exact⟨h,a⟩)
 have t1:=T.text;go_enter Tryz.func57,Tryz.ntmps57;go_wp2_with(go_at_call 44;refine b.mono ?_;rintro e w1 ⟨rfl,a⟩)
 exact⟨rfl,rfl,a⟩
def ranL(L:List Said)(inp:List Int)(bs:Int):Mc:=runS (zbz L) bs.toNat (zc3 L inp)
def zx6(w:World)(pr:Nat)(L:List Said)(inp:List Int):Ending→World→Prop:=fun e w'=>(e=zak 8 0∧VerdL L none∧qB w w')∨∃ bs bf,e=.returned (.tuple #[])∧VerdL L (some (bs,bf))∧zmn w pr (ranL L inp bs) (ranL L inp bs).line w'
theorem zuW{L:List Said}{F:List FnM}(R:Right L F)(inp:List Int)(n:Nat)(ov:Value):zan (runS (zcF (zaw F)) n (zb0 inp)) ov (zgJ (zaw F) (runS (zcF (zaw F)) n (zb0 inp)))=zan (ranL L inp (n:Int)) ov (ranL L inp (n:Int)).line∧(runS (zcF (zaw F)) n (zb0 inp)).out=(ranL L inp (n:Int)).out:=by
 obtain⟨a,c⟩:=znM R.sim R.codeOk n (zef R.codeOk inp);rw [←R.begin] at a;have b:=zpd R.sim c;rw [←a] at b;unfold ranL;rw [Int.toNat_natCast];refine⟨?_,by rw [a];rfl⟩;rw [b,a];rfl
theorem zuX(w:World)(hw:LibW w)(pt pi pr:Nat)(s:ByteArray)(ao:Option Addr)(icap:Nat)(inp:List Int)(T:RnIn w pt pi pr s (.slice ao inp.length icap))(L:List Said)(h:zi3 s L)(hiv:SlB w w.heap.size (.slice ao inp.length icap) inp)(hin:inp.length≤9223372036854775807):
  qC 57 (zpC pt pi pr) w (zx6 w pr L inp):=by
 have S:=h w hw;obtain⟨t1,X,Y,t5⟩:=T;have hlti:pi<w.heap.size:=World.block_lt_of_cell? w _ X;have f:pr<w.heap.size:=by
  obtain⟨u,hu⟩:=Option.isSome_iff_exists.1 (Y 0 (by omega)).1;exact World.block_lt_of_cell? w _ hu
 go_enter Tryz.func57,Tryz.ntmps57;go_wp2_with(first
  | (go_at_call 44;refine S.mono ?_;rintro e w1 ⟨J,pm,vo,m,cap,F,rfl,V,R,hn,C⟩;have z:=znN R w1 _ pm _ V hn C)
  | (go_at_call 52;refine z.mono ?_;rintro e w2 ⟨g,d,rfl,hg1,j,p,Q⟩;have r:=zmL (ccap:=d) R.sure j p)
  | (go_at_call 58;refine Hid.out ?_))
 unfold Hid;refine r.mono ?_;rintro e o ⟨k,l⟩;have i:qB w w2:=J.trans (Q.mono J.size);have M:qB w o:=i.trans (k.mono i.size);have x:=p.below k j;have A:g<o.heap.size:=Nat.lt_of_lt_of_le j k.size;rcases l with ⟨rfl,K⟩|⟨Z,q,rfl,K⟩
 ·dsimp only;exact⟨rfl,.inl ⟨rfl,⟨F,R,K⟩,M⟩⟩
 ·dsimp only;have hbd2:=K.bound R.sure;obtain⟨n,rfl⟩:∃ n:Nat,Z=(n:Int):=⟨Z.toNat,by omega⟩
  have O:n≤100000:=by omega
  have a:qB w (o.alloc (.cells #[.int .i64 (n:Int),.int .i64 q] 42)):=M.alloc M.size _;have c:qB o (o.alloc (.cells #[.int .i64 (n:Int),.int .i64 q] 42)):=(Below.refl _ _).alloc (Nat.le_refl _) _;have t3':=zap a X;have t:=zoS (o.alloc (.cells #[.int .i64 (n:Int),.int .i64 q] 42)) g d n icap ao (zaw F) inp R.codeOk (x.below c A) (Nat.lt_of_lt_of_le A c.size) (hiv.mono a) hin O _ rfl;have b:=zuW R inp n;have N:=zam Y a f;have H:pr<(o.alloc (.cells #[.int .i64 (n:Int),.int .i64 q] 42)).heap.size:=Nat.lt_of_lt_of_le f a.size;have hu34:Tryz.prog.underlying 34=some (.struct _):=Tryz.underlying34;clear r z S p V;go_wp2_with(first
   | (go_at_call 53;refine t.mono ?_;rintro e P ⟨B,E,v,rfl,G,D⟩;have t6:=zam N D H;rw [(b _).1];have W:=zas (ranL L inp (n:Int)) (.slice B E v) (ranL L inp (n:Int)).line;have U:=zaz (ranL L inp (n:Int)) B E v (ranL L inp (n:Int)).line;generalize hds:zan (ranL L inp (n:Int)) (.slice B E v) (ranL L inp (n:Int)).line=ds at W U;have hi:=zbd ds W;have ht:P.there pr 0 ds.toArray.size:=(by rw [show ds.toArray.size=30 by simp [W]];exact t6))
   | (refine wpList_store_mid rfl 34 _ _ rfl pr 0 ds.toArray rfl rfl ht hi U ?_))
  have I:=a.trans (D.mono a.size);have y:Hid (zx6 w pr L inp (.returned (.tuple #[])) (P.setCells pr 0 ds)):=.inr ⟨(n:Int),q,rfl,⟨F,R,K⟩,P,B,E,v,by rw [hds],I,zbk (by rw [←(b (.slice B E v)).2];exact G) a.size⟩;exact bodyPost_end (results_none rfl _ _ _) rfl y.out
end
end Go.Proofs.YtfpgjkbjbbgciaaGreatDoor
