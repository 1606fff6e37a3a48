import Derived.Test.YtfpgjkbjbbgciaaGreatDoorMj41
import Derived.Test.YtfpgjkbjbbgciaaGreatDoorMj45
import Derived.Test.YtfpgjkbjbbgciaaGreatDoorMj47
set_option maxRecDepth 100000
set_option maxHeartbeats 8000000
namespace Go.Proofs.YtfpgjkbjbbgciaaGreatDoor
open Go.RowKit Sp
section
def zuJ(w:World)(B S g:Nat)(C:List (Ins × Int))(cv:Value)(R:Rs)(looks:Nat)(bf:Int)(xs:List Wy)(x:Wy)(L:Option (List Kn)):Ending→World→Prop:=fun e w'=>Below B w w' ∧
 ((e=zak 8 0∧(x.k.steps=100000∨R.kn.endless x.k=none∨L=none)) ∨
  (e=.returned (.tuple #[])∧¬x.k.steps=100000∧∃(v' mv':Value) (ys:List Wy) (R':Rs) (ks:List Kn),R.kn.endless x.k=some R'.kn∧L=some ks∧SO w' B S g C v' mv' ys [] R'.marked∧SC w' S cv v' mv' R' looks (x.k.steps+1) (max bf ((x.k.behind.length:Int)+1))∧(ys.map Wy.k).Perm (xs.map Wy.k++ks)))
theorem zwX{w:World}{B S g ccap:Nat}{C:List (Ins × Int)}{v mv:Value}{R:Rs}{looks:Nat}{bs bf:Int}{xs:List Wy}{x:Wy}(O:SO w B S g C v mv xs [x] R.marked)(c:SC w S (.slice (some ⟨g,0,none⟩) C.length ccap) v mv R looks bs bf)(hC:CodeSure C)(K:KnIn C x.k)
  (s0:0≤R.steps) (s1:R.steps≤100000) (hl:R.marked.length≤500000) (hn:R.seen≤500000) (f0:0≤bf) (f1:bf≤16) (hlen:xs.length≤2000) {p:Nat} (hp:p<C.length) (hnx:x.k.next=(p:Int)) :
  qC 116 #[.pointer (some ⟨S,0,none⟩),.pointer (some ⟨x.b,0,none⟩)] w (zuJ w B S g C (.slice (some ⟨g,0,none⟩) C.length ccap) R looks bf xs x (za7 C[p].1 x.k)):=by
 have X:=O.hand x (by simp);have l:B≤w.heap.size:=by have:=O.SB;have:=O.SL;omega
 have f:=zrz R ⟨x.ao,x.cap,x.k⟩;by_cases d:x.k.steps=100000
 ·refine(zuG X.kn d).mono ?_;rintro e n ⟨rfl,rfl⟩;exact⟨Below.refl _ _,.inl ⟨rfl,.inl d⟩⟩
 ·cases hR:R.endless ⟨x.ao,x.cap,x.k⟩ with
  | none =>
   have a:=zhs c.rs c.fz O s0 s1 K.s0 K.s1 hl hn;rw [hR] at a f;refine(zrI X.kn d a).mono ?_;rintro e n ⟨rfl,s⟩;exact⟨s.mono l,.inl ⟨rfl,.inr (.inl f)⟩⟩
  | some R' =>
   rw [hR] at f;refine(zyN O c hC K d hR s0 s1 hl hn f0 f1 hlen hp hnx rfl).mono ?_;intro e n h;cases hL:za7 C[p].1 x.k with
   | none =>
    rw [hL] at h;exact⟨h.2,.inl ⟨h.1,.inr (.inr rfl)⟩⟩
   | some ks =>
    rw [hL] at h;obtain⟨rfl,t,i,r,q,o,j,m⟩:=h;exact⟨m,.inr ⟨rfl,d,t,i,r,R',ks,f,rfl,q,o,j⟩⟩
def zhE(w:World)(S:Nat):Nat:=match w.cell? ⟨S,6,none⟩ with|some (.int _ n)=>n.toNat|_=>0
theorem ziY{w:World}{S n:Nat}(h:w.cell? ⟨S,6,none⟩=some (.int .i64 (n:Int))):zhE w S=n:=by unfold zhE;rw [h];simp
structure RunI(w:World)(B S g ccap:Nat)(C:List (Ins × Int))(wr:World)(v mv:Value)(xs:List Wy)(R:Rs)(looks:Nat)(bs bf:Int):Prop where
 so':SO wr B S g C v mv xs [] R.marked
 sc:SC wr S (.slice (some ⟨g,0,none⟩) C.length ccap) v mv R looks bs bf
 reach:Reach C ⟨xs.map Wy.k,looks,R.kn,bs,bf⟩
 low:Below B w wr
def zhF(w:World)(B S:Nat)(C:List (Ins × Int)):Ending→World→Prop:=fun e w'=>Below B w w'∧((e=zak 8 0∧Verd C none)∨(e=.returned (.tuple #[])∧∃ bs bf,Verd C (some (bs,bf))∧w'.cell? ⟨S,7,none⟩=some (.int .i64 bs)∧w'.cell? ⟨S,8,none⟩=some (.int .i64 bf)))
section
variable {w:World} {B S g ccap:Nat} {C:List (Ins × Int)} {wr:World} {v mv:Value} {xs:List Wy} {R:Rs} {looks:Nat} {bs bf:Int}
theorem RunI.ok(I:RunI w B S g ccap C wr v mv xs R looks bs bf)(hC:CodeSure C):GsOk C ⟨xs.map Wy.k,looks,R.kn,bs,bf⟩:=(I.reach.t hC).ok
theorem RunI.leave(I:RunI w B S g ccap C wr v mv xs R looks bs bf)(h0:xs.length=0):zhF w B S C (.returned (.tuple #[])) wr:=by
 have e:xs=[]:=List.length_eq_zero_iff.1 h0;exact⟨I.low,.inr ⟨rfl,bs,bf,⟨_,I.reach,by rw [e];rfl,rfl,rfl⟩,I.sc.c7,I.sc.c8⟩⟩
theorem RunI.tired(I:RunI w B S g ccap C wr v mv xs R looks bs bf)(h0:¬xs.length=0)(h:500000≤looks∨1000<xs.length){w':World}(hb:Below S wr w'):zhF w B S C (zak 8 0) w':=by
 refine⟨I.low.trans (hb.mono I.so'.SB),.inl ⟨rfl,⟨_,I.reach,?_,?_⟩⟩⟩
 ·intro e;have:(xs.map Wy.k).length=0:=by rw [show xs.map Wy.k=[] from e];rfl
  rw [List.length_map] at this;omega
 ·rcases h with h|h
  ·exact .inl h
  ·exact .inr (.inl (by show 1000<(xs.map Wy.k).length;rw [List.length_map];exact h))
theorem RunI.effort(I:RunI w B S g ccap C wr v mv xs R looks bs bf):SO (wr.setCell ⟨S,6,none⟩ (.int .i64 ((looks:Int)+1))) B S g C v mv xs [] R.marked∧SC (wr.setCell ⟨S,6,none⟩ (.int .i64 ((looks:Int)+1))) S (.slice (some ⟨g,0,none⟩) C.length ccap) v mv R (looks+1) bs bf∧Below B w (wr.setCell ⟨S,6,none⟩ (.int .i64 ((looks:Int)+1))):=by
 refine⟨zuH I.so',?_,I.low.setCell (p:=⟨S,6,none⟩) I.so'.SB _⟩;have:=I.sc.set6 (looks+1);rw [show(((looks+1:Nat)):Int)=(looks:Int)+1 by omega] at this;exact this
end
theorem zwY{w:World}{B S g ccap:Nat}{C:List (Ins × Int)}{v mv:Value}{xs:List Wy}{R:Rs}{looks:Nat}{bs bf:Int}(I0:RunI w B S g ccap C w v mv xs R looks bs bf)(hC:CodeSure C):
  qC 92 #[.pointer (some ⟨S,0,none⟩)] w (zhF w B S C):=by
 go_enter Tryz.func92,Tryz.ntmps92;go_wp2
 go_loopw [] (fun wr=>∃(v mv:Value) (xs:List Wy) (R:Rs) (looks:Nat) (bs bf:Int),RunI w B S g ccap C wr v mv xs R looks bs bf) (fun wr=>500001-zhE wr S)
 case atStart=>exact⟨v,mv,xs,R,looks,bs,bf,I0⟩
 case round =>
  clear I0;obtain⟨v,mv,xs,R,looks,bs,bf,I⟩:=hrel;have ok:=I.ok hC;have o1:xs.length≤1002:=by have:=ok.few;rw [List.length_map] at this;exact this
  have o2:looks≤500000:=ok.looks;have c1:=I.sc.c1;obtain⟨ao,P,rfl,_,_,_⟩:=zdV I.so'.hp.row;have y:=fun W=>zgp W ao xs.length P (by omega);by_cases M:xs.length=0
  ·have f:=I.leave M;rw [M] at y c1;clear I ok;go_wp2_with(go_at_call 114;(with_reducible refine(y _).mono ?_);rintro e z ⟨rfl,c⟩;have d:=c.symm;subst d)
   exact bodyPost_end (results_none rfl _ _ _) rfl f
  ·have hpos:(0:Int)<(xs.length:Int):=by omega
   by_cases A:500000≤looks∨1000<xs.length
   ·have n:=ztU c1 I.sc.c6 (I.sc.fz 6) o2 (by omega) A;have f:Hid (∀ w',Below S wr w'→zhF w B S C (zak 8 0) w'):=fun w' hb=>I.tired M A hb;clear I ok A;go_wp2_with(first
     | (go_at_call 114;(with_reducible refine(y _).mono ?_);rintro e z ⟨rfl,c⟩;have d:=c.symm;subst d)
     | (go_at_call 115;(with_reducible refine n.mono ?_);rintro e z ⟨rfl,Y⟩))
    exact⟨rfl,f.out _ Y⟩
   ·have n:=ztT (looks:=looks) c1 I.sc.c6 (I.sc.fz 6) (by omega) (by omega);obtain⟨O1,u,X⟩:=I.effort;have V:=zwO O1 u (by omega) (by omega);have H:Hid (zhE wr S=looks):=ziY I.sc.c6;have s:0≤R.steps:=ok.rs0;have t:R.steps≤100000:=ok.rs1;have L:R.marked.length≤500000:=by have:=ok.mkd;rw [show(⟨xs.map Wy.k,looks,R.kn,bs,bf⟩:Gs).R.marked.length=(R.marked.map Mk.k).length from rfl,List.length_map] at this;have:R.marked.length≤looks:=this;omega
    have E:R.seen≤500000:=by have:R.seen≤looks:=ok.seen;omega
    have F:0≤bf:=ok.bf0;have Q:bf≤16:=ok.bf1;have HK:Hid (∀(x:Wy) (i:List Wy),TakeD (xs.map Wy.k) x.k (i.map Wy.k)→KnIn C x.k∧i.length≤2000):=fun x i ht=>by
     obtain⟨a,_,b,_⟩:=ht.1.kn hC.ok.few ok.kn;refine⟨a,?_⟩;rw [List.length_map] at b;have:i.length<(xs.map Wy.k).length:=b;rw [List.length_map] at this;omega
    have G:Hid (Reach C ⟨xs.map Wy.k,looks,R.kn,bs,bf⟩∧¬xs.length=0∧looks<500000∧xs.length≤1000):=⟨I.reach,M,by omega,by omega⟩
    clear I ok A O1 u o1 o2;go_wp2_with(first
     | (go_at_call 114;(with_reducible refine(y _).mono ?_);rintro e z ⟨rfl,c⟩;have d:=c.symm;subst d)
     | (go_at_call 115;(with_reducible refine n.mono ?_);rintro e z ⟨rfl,c⟩;have d:=c.symm;subst d)
     | (go_at_call 117;(with_reducible refine V.mono ?_);rintro e wt ⟨vt,i,x,rfl,Ot,ct,K,Z⟩)
     | (go_at_call 116;refine Hid.out ?_))
    unfold Hid;obtain⟨kx,O⟩:=HK.out x i K;obtain⟨p,l,q⟩:=kx.next;refine(zwX Ot ct hC kx s t L E F Q O q l).mono ?_;rintro e w3 ⟨N,m⟩;obtain⟨re,z0,z1,z2⟩:=G.out;have j:Below B w w3:=X.trans (Z.trans N);rcases m with ⟨rfl,J⟩|⟨rfl,o,v',r,zs,R',ks,U,D,O3,c3,T⟩
    ·dsimp only;refine⟨rfl,j,.inl ⟨rfl,⟨_,re,?_,.inr (.inr ⟨x.k,i.map Wy.k,K,?_⟩)⟩⟩⟩
     ·intro e;have:(xs.map Wy.k).length=0:=by rw [show xs.map Wy.k=[] from e];rfl
      rw [List.length_map] at this;omega
     ·rcases J with h|h|h
      ·exact .inl h
      ·exact .inr (.inl h)
      ·exact .inr (.inr ⟨p,q,l,h⟩)
    ·dsimp only;have I2:RunI w B S g ccap C w3 v' r zs R' (looks+1) (x.k.steps+1) (max bf ((x.k.behind.length:Int)+1)):=⟨O3,c3,.step re ⟨x.k,i.map Wy.k,ks,p,q,z1,by show(xs.map Wy.k).length≤1000;rw [List.length_map];exact z2,K,o,U,l,D,T,rfl,rfl,rfl⟩,j⟩
     go_wp2;go_roundw
     case rel=>exact⟨v',r,zs,R',looks+1,_,_,I2⟩
     case measure=>rw [ziY c3.c6,H.out];omega
end
def rs0:Rs:=⟨[],0,0,false⟩
theorem zuL{w w1:World}{g ccap:Nat}{C:List (Ins × Int)}(hK:KnM w1 w.heap.size (.slice none 0 0) kn0)(hb:qB w w1)(hs:w1.heap.size=w.heap.size+1)(hg:g<w.heap.size)(hC:CodeIn w g C):
  ∃ W,((w1.alloc (.cells #[.pointer (some ⟨w.heap.size,0,none⟩)] 197)).alloc (.cells #[.slice (some ⟨g,0,none⟩) C.length ccap,.slice (some ⟨w1.heap.size,0,none⟩) 1 1,.slice none 0 0,.int .i64 0,.int .i64 0,.bool false,.int .i64 0,.int .i64 0,.int .i64 0] 156))=W∧qB w W ∧
   RunI W w.heap.size (w1.heap.size+1) g ccap C W (.slice (some ⟨w1.heap.size,0,none⟩) 1 1) (.slice none 0 0) [⟨w.heap.size,none,0,kn0⟩] rs0 0 0 0:=by
 refine⟨_,rfl,?_,?_⟩
 ·exact(hb.alloc (by omega) _).alloc (by simp;omega) _
 ·have k:qB w1 (w1.alloc (.cells #[.pointer (some ⟨w.heap.size,0,none⟩)] 197)):=(Below.refl _ _).alloc (Nat.le_refl _) _;have f:(w1.alloc (.cells #[.pointer (some ⟨w.heap.size,0,none⟩)] 197)).heap.size=w1.heap.size+1:=by simp
  have o:=fun j=>World.cell?_alloc_new (w:=w1) #[.pointer (some ⟨w.heap.size,0,none⟩)] 197 j;have n:=heap_alloc_new w1 (.cells #[.pointer (some ⟨w.heap.size,0,none⟩)] 197);generalize w1.alloc (.cells #[.pointer (some ⟨w.heap.size,0,none⟩)] 197)=w2 at k f o n ⊢;have b:=fun j=>World.cell?_alloc_new (w:=w2) #[.slice (some ⟨g,0,none⟩) C.length ccap,.slice (some ⟨w1.heap.size,0,none⟩) 1 1,.slice none 0 0,.int .i64 0,.int .i64 0,.bool false,.int .i64 0,.int .i64 0,.int .i64 0] 156 j;have c:qB w2 (w2.alloc (.cells #[.slice (some ⟨g,0,none⟩) C.length ccap,.slice (some ⟨w1.heap.size,0,none⟩) 1 1,.slice none 0 0,.int .i64 0,.int .i64 0,.bool false,.int .i64 0,.int .i64 0,.int .i64 0] 156)):=(Below.refl _ _).alloc (Nat.le_refl _) _;have l:(w2.alloc (.cells #[.slice (some ⟨g,0,none⟩) C.length ccap,.slice (some ⟨w1.heap.size,0,none⟩) 1 1,.slice none 0 0,.int .i64 0,.int .i64 0,.bool false,.int .i64 0,.int .i64 0,.int .i64 0] 156)).heap.size=w2.heap.size+1:=by simp
  have d:∀ j,(w2.alloc (.cells #[.slice (some ⟨g,0,none⟩) C.length ccap,.slice (some ⟨w1.heap.size,0,none⟩) 1 1,.slice none 0 0,.int .i64 0,.int .i64 0,.bool false,.int .i64 0,.int .i64 0,.int .i64 0] 156)).frozen? ⟨w2.heap.size,j,none⟩=false:=fun j=>by simp
  generalize w2.alloc (.cells #[.slice (some ⟨g,0,none⟩) C.length ccap,.slice (some ⟨w1.heap.size,0,none⟩) 1 1,.slice none 0 0,.int .i64 0,.int .i64 0,.bool false,.int .i64 0,.int .i64 0,.int .i64 0] 156)=W at b c l d ⊢;have s:qB w1 W:=k.trans (c.mono (by omega));have r:KnM W w.heap.size (.slice none 0 0) kn0:=hK.below s (by omega);have p:WyM W ⟨w.heap.size,none,0,kn0⟩:=⟨⟨⟨Int.le_refl _,by show(0:Int)≤1000;omega⟩,⟨Nat.zero_le _,fun z hz=>(by cases hz)⟩⟩,r,zz3 W⟩
  have hS:w2.heap.size=w1.heap.size+1:=f;rw [hS] at b d l;refine⟨⟨?_,hg,by omega,by omega,⟨⟨by simp [zjo],.inr ⟨w1.heap.size,1,#[.pointer (some ⟨w.heap.size,0,none⟩)],rfl,by omega,(c.block _ (by omega)).trans n,Nat.le_refl _,by unfold maxLen;omega,rfl,by simp [zjo]⟩⟩,fun x hx=>by rw [List.mem_singleton.1 hx];exact p,fun q hq x hx=>?_⟩,fun i h1 h2=>?_,fun h hh=>(by cases hh),?_,fun m hm=>(by cases hm),?_,?_,?_,by simp,fun x hx=>?_,fun m hm=>(by cases hm)⟩,⟨b 0,b 1,⟨b 2,b 3,b 4,b 5⟩,b 6,b 7,b 8,d⟩,.zero,Below.refl _ _⟩
  ·exact(hC.below hb hg).below (s.mono (B':=w.heap.size) (by omega)) hg
  ·rw [List.mem_singleton.1 hx];have e:w1.heap.size=q:=by have:some w1.heap.size=some q:=hq;simpa using this
   exact⟨by show ¬w.heap.size=q;omega,fun a ha=>(by cases ha)⟩
  ·simp only [List.length_singleton] at h2;omega
  ·exact World.ownsRow_nil _ _ _ _
  ·intro e;have t:w1.heap.size=w1.heap.size+1:=by have:some w1.heap.size=some (w1.heap.size+1):=e;simp at this
   omega
  ·intro e;cases e
  ·intro q _ e;cases e
  ·rw [List.mem_singleton.1 (show x∈[(⟨w.heap.size,none,0,kn0⟩:Wy)] from hx)];refine⟨Nat.le_refl _,⟨by show ¬w.heap.size=w1.heap.size+1;omega,fun e=>?_,fun e=>(by cases e)⟩,fun a ha=>(by cases ha)⟩;have t:w1.heap.size=w.heap.size:=by have:some w1.heap.size=some w.heap.size:=e;simpa using this
   omega
def zp8(w:World)(g ccap:Nat)(C:List (Ins × Int)):Ending→World→Prop:=fun e w'=>∃ S v mv xs,e=.returned (.pointer (some ⟨S,0,none⟩))∧qB w w'∧RunI w' w.heap.size S g ccap C w' v mv xs rs0 0 0 0
theorem zrK{w:World}{g ccap:Nat}{C:List (Ins × Int)}(hg:g<w.heap.size)(hC:CodeIn w g C):qC 91 #[.slice (some ⟨g,0,none⟩) C.length ccap] w (zp8 w g ccap C):=by
 have j:=zoq w;have l:Hid (∀ d,KnM d w.heap.size (.slice none 0 0) kn0→qB w d→d.heap.size=w.heap.size+1→zp8 w g ccap C (.returned (.pointer (some ⟨d.heap.size+1,0,none⟩))) ((d.alloc (.cells #[.pointer (some ⟨w.heap.size,0,none⟩)] 197)).alloc (.cells #[.slice (some ⟨g,0,none⟩) C.length ccap,.slice (some ⟨d.heap.size,0,none⟩) 1 1,.slice none 0 0,.int .i64 0,.int .i64 0,.bool false,.int .i64 0,.int .i64 0,.int .i64 0] 156))):=fun d a b c=>by
  obtain⟨W,e,k,n⟩:=zuL (ccap:=ccap) a b c hg hC;rw [e];exact⟨_,_,_,_,rfl,k,n⟩
 go_enter Tryz.func91,Tryz.ntmps91;go_wp2_with(go_at_call 113;(with_reducible refine j.mono ?_);rintro e d ⟨rfl,i,m,h⟩;have f:=l.out d i m h;clear i h)
 go_ret;exact f
def zuM(w:World)(C:List (Ins × Int)):Ending→World→Prop:=fun e w'=>qB w w'∧((e=zak 8 0∧Verd C none)∨∃ bs bf,e=.returned (.agg #[.int .i64 bs,.int .i64 bf])∧Verd C (some (bs,bf)))
theorem zmL{w:World}{g ccap:Nat}{C:List (Ins × Int)}(hC:CodeSure C)(hg:g<w.heap.size)(hI:CodeIn w g C):qC 58 #[.slice (some ⟨g,0,none⟩) C.length ccap] w (zuM w C):=by
 have i:qB w (w.alloc (.cells #[.int .i64 0,.int .i64 0] 42)):=(Below.refl _ _).alloc (Nat.le_refl _) _;have t:(w.alloc (.cells #[.int .i64 0,.int .i64 0] 42)).heap.size=w.heap.size+1:=by simp
 have m:=World.cell?_alloc_new (w:=w) #[.int .i64 0,.int .i64 0] 42 0;have l:=World.cell?_alloc_new (w:=w) #[.int .i64 0,.int .i64 0] 42 1;have f:∀ j,(w.alloc (.cells #[.int .i64 0,.int .i64 0] 42)).frozen? ⟨w.heap.size,j,none⟩=false:=fun j=>by simp
 have d:=zrK (ccap:=ccap) (by rw [t];omega) (hI.below i hg);go_enter Tryz.func58,Tryz.ntmps58;go_wp2_with(first
  | (go_at_call 91;(with_reducible refine d.mono ?_);rintro e w1 ⟨S,v,mv,xs,rfl,q,I⟩;have c:=zwY I hC)
  | (go_at_call 92;refine Hid.out ?_))
 unfold Hid;refine c.mono ?_;rintro e k ⟨o,h⟩;have b:Below (w.heap.size+1) (w.alloc (.cells #[.int .i64 0,.int .i64 0] 42)) k:=by rw [←t];exact q.trans o
 have n:qB w k:=i.trans (b.mono (by omega));have hSB:=I.so'.SB;rcases h with ⟨rfl,r⟩|⟨rfl,u,s,r,d7,d8⟩
 ·dsimp only;exact⟨rfl,n,.inl ⟨rfl,r⟩⟩
 ·dsimp only;have z:k.cell? ⟨w.heap.size,0,none⟩=some (.int .i64 0):=(World.cell?_of_block (a:=⟨w.heap.size,0,none⟩) (b.block w.heap.size (by omega))).trans m;have y:k.cell? ⟨w.heap.size,1,none⟩=some (.int .i64 0):=(World.cell?_of_block (a:=⟨w.heap.size,1,none⟩) (b.block w.heap.size (by omega))).trans l;have z0:k.frozen? ⟨w.heap.size,0,none⟩=false:=(World.frozen?_of_block (a:=⟨w.heap.size,0,none⟩) (b.block w.heap.size (by omega))).trans (f 0);have z1:k.frozen? ⟨w.heap.size,1,none⟩=false:=(World.frozen?_of_block (a:=⟨w.heap.size,1,none⟩) (b.block w.heap.size (by omega))).trans (f 1);have x:Hid (Verd C (some (u,s))):=r;clear r c I d i m l f q o b;go_wp2;refine bodyPost_ret (v:=.agg #[.int .i64 u,.int .i64 s]) (by simp [results,Tryz.results58,go_sem,z,y]) rfl ⟨?_,.inr ⟨u,s,rfl,x.out⟩⟩;exact(n.setCell (p:=⟨w.heap.size,0,none⟩) (Nat.le_refl _) _).setCell (p:=⟨w.heap.size,1,none⟩) (Nat.le_refl _) _
def VerdL(L:List Said)(v:Option (Int × Int)):Prop:=∃ F,Right L F∧Verd (zaw F) v
theorem VerdL.unique{L:List Said}{a b:Option (Int × Int)}(ha:VerdL L a)(hb:VerdL L b):a=b:=by
 obtain⟨F,R,h⟩:=ha;obtain⟨G,d,c⟩:=hb;rw [←zos R d] at c;exact h.unique R.sure c
def zx4(w:World)(pr:Nat)(L:List Said):Ending→World→Prop:=fun e w'=>(e=zak 8 0∧VerdL L none∧qB w w')∨∃ bs bf,e=.returned (.tuple #[])∧VerdL L (some (bs,bf))∧∃ w1,qB w w1∧w'=(w1.setCell ⟨pr,0,none⟩ (.int .i64 bs)).setCell ⟨pr,1,none⟩ (.int .i64 bf)
theorem zxc(w:World)(hw:LibW w)(pt pr:Nat)(s:ByteArray)(t1:w.cell? ⟨pt,0,none⟩=some (.string s))(R:Int × Int)(hR:¬R=(0,0))(h:zbT s R):
  qC 59 #[.pointer (some ⟨pt,0,none⟩),.pointer (some ⟨pr,0,none⟩)] w fun e w'=>e=zak R.1 R.2∧qB w w':=by
 have b:=(h w hw).mono (R':=fun e w'=>e=zak R.1 R.2∧qB w w') (by
  rintro e w' ⟨a,⟨h,_⟩|⟨_,h⟩⟩
  ·exact absurd h hR
  ·exact⟨h,a⟩)
 go_enter Tryz.func59,Tryz.ntmps59;go_wp2_with(go_at_call 44;refine b.mono ?_;rintro e w1 ⟨rfl,a⟩)
 exact⟨rfl,rfl,a⟩
theorem zuP(w:World)(hw:LibW w)(pt pr:Nat)(s:ByteArray)(t1:w.cell? ⟨pt,0,none⟩=some (.string s))(L:List Said)(h:zi3 s L)(d0:w.cell? ⟨pr,0,none⟩=some (.int .i64 0))(d1:w.cell? ⟨pr,1,none⟩=some (.int .i64 0))(fz:∀ j,w.frozen? ⟨pr,j,none⟩=false):
  qC 59 #[.pointer (some ⟨pt,0,none⟩),.pointer (some ⟨pr,0,none⟩)] w (zx4 w pr L):=by
 have y:=h w hw;have b:pr<w.heap.size:=World.block_lt_of_cell? w _ d0;go_enter Tryz.func59,Tryz.ntmps59;go_wp2_with(first
  | (go_at_call 44;refine y.mono ?_;rintro e C ⟨f,B,ao,m,cap,F,rfl,z,R,D,p⟩;have o:=znN R C _ B _ z D p)
  | (go_at_call 52;refine o.mono ?_;rintro e w2 ⟨g,l,rfl,hg1,u,r,q⟩;have k:=zmL (ccap:=l) R.sure u r)
  | (go_at_call 58;refine Hid.out ?_))
 unfold Hid;refine k.mono ?_;rintro e d ⟨v,c⟩;have i:qB w d:=f.trans ((q.mono f.size).trans (v.mono (Nat.le_trans f.size q.size)));rcases c with ⟨rfl,t⟩|⟨A,x,rfl,t⟩
 ·dsimp only;exact⟨rfl,.inl ⟨rfl,⟨F,R,t⟩,i⟩⟩
 ·dsimp only;have e0:d.cell? ⟨pr,0,none⟩=some (.int .i64 0):=(World.cell?_of_block (a:=⟨pr,0,none⟩) (i.block pr b)).trans d0;have e1:d.cell? ⟨pr,1,none⟩=some (.int .i64 0):=(World.cell?_of_block (a:=⟨pr,1,none⟩) (i.block pr b)).trans d1;have z0:d.frozen? ⟨pr,0,none⟩=false:=(World.frozen?_of_block (a:=⟨pr,0,none⟩) (i.block pr b)).trans (fz 0);have z1:d.frozen? ⟨pr,1,none⟩=false:=(World.frozen?_of_block (a:=⟨pr,1,none⟩) (i.block pr b)).trans (fz 1);have n:Hid (zx4 w pr L (.returned (.tuple #[])) ((d.setCell ⟨pr,0,none⟩ (.int .i64 A)).setCell ⟨pr,1,none⟩ (.int .i64 x))):=.inr ⟨A,x,rfl,⟨F,R,t⟩,d,i,rfl⟩;clear k o y t r z;go_wp2;exact bodyPost_end (results_none rfl _ _ _) rfl n.out
end Go.Proofs.YtfpgjkbjbbgciaaGreatDoor
