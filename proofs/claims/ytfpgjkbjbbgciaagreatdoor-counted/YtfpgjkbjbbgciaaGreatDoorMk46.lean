import Derived.Test.YtfpgjkbjbbgciaaGreatDoorMk37
import Derived.Test.YtfpgjkbjbbgciaaGreatDoorMk43
import Derived.Test.YtfpgjkbjbbgciaaGreatDoorMk44
import Derived.Test.YtfpgjkbjbbgciaaGreatDoorMk45
set_option maxRecDepth 100000
set_option maxHeartbeats 8000000
namespace Go.Proofs.YtfpgjkbjbbgciaaGreatDoor
section
open Go.RowKit Sp
def zu1(w:World)(B S g:Nat)(C:List (Ins × Int))(cv:Value)(R:Rs)(looks:Nat)(bf:Int)(xs:List Wy)(x:Wy)(L:Option (List Kn)):Ending→World→Prop:=fun e w'=>Below B w w' ∧
 ((e=zak 8 0∧(x.k.steps=100000∨R.kn.endless x.k=none∨L=none)) ∨
  (e=.returned (.tuple #[])∧¬x.k.steps=100000∧∃(v' mv':Value) (ys:List Wy) (R':Rs) (ks:List Kn),R.kn.endless x.k=some R'.kn∧L=some ks∧SO w' B S g C v' mv' ys [] R'.marked∧SC w' S cv v' mv' R' looks (x.k.steps+1) (max bf ((x.k.behind.length:Int)+1))∧(ys.map Wy.k).Perm (xs.map Wy.k++ks)))
theorem zxf{w:World}{B S g ccap:Nat}{C:List (Ins × Int)}{v mv:Value}{R:Rs}{looks:Nat}{bs bf:Int}{xs:List Wy}{x:Wy}(O:SO w B S g C v mv xs [x] R.marked)(c:SC w S (.slice (some ⟨g,0,none⟩) C.length ccap) v mv R looks bs bf)(hC:CodeSure C)(K:KnIn C x.k)
  (s0:0≤R.steps) (s1:R.steps≤100000) (hl:R.marked.length≤500000) (hn:R.seen≤500000) (f0:0≤bf) (f1:bf≤16) (hlen:xs.length≤2000) {p:Nat} (hp:p<C.length) (hnx:x.k.next=(p:Int)) :
  Calls Tryz.prog 116 #[.pointer (some ⟨S,0,none⟩),.pointer (some ⟨x.b,0,none⟩)] w (zu1 w B S g C (.slice (some ⟨g,0,none⟩) C.length ccap) R looks bf xs x (zam C[p].1 x.k)):=by
 have X:=O.hand x (by simp);have i:B≤w.heap.size:=by have:=O.SB;have:=O.SL;omega
 have f:=zrw R ⟨x.ao,x.cap,x.k⟩;by_cases d:x.k.steps=100000
 ·refine(zuy X.kn d).mono ?_;rintro e n ⟨rfl,rfl⟩;exact⟨Below.refl _ _,.inl ⟨rfl,.inl d⟩⟩
 ·cases hR:R.endless ⟨x.ao,x.cap,x.k⟩ with
  | none =>
   have a:=zhk c.rs c.fz O s0 s1 K.s0 K.s1 hl hn;rw [hR] at a f;refine(zrJ X.kn d a).mono ?_;rintro e n ⟨rfl,r⟩;exact⟨r.mono i,.inl ⟨rfl,.inr (.inl f)⟩⟩
  | some R' =>
   rw [hR] at f;refine(zze O c hC K d hR s0 s1 hl hn f0 f1 hlen hp hnx rfl).mono ?_;intro e n h;cases hL:zam C[p].1 x.k with
   | none =>
    rw [hL] at h;exact⟨h.2,.inl ⟨h.1,.inr (.inr rfl)⟩⟩
   | some ks =>
    rw [hL] at h;obtain⟨rfl,s,m,t,o,q,l,j⟩:=h;exact⟨j,.inr ⟨rfl,d,s,m,t,R',ks,f,rfl,o,q,l⟩⟩
def zhC(w:World)(S:Nat):Nat:=match w.cell? ⟨S,6,none⟩ with|some (.int _ n)=>n.toNat|_=>0
theorem zjc{w:World}{S n:Nat}(h:w.cell? ⟨S,6,none⟩=some (.int .i64 (n:Int))):zhC w S=n:=by unfold zhC;rw [h];simp
structure RunI(w:World)(B S g ccap:Nat)(C:List (Ins × Int))(wr:World)(v mv:Value)(xs:List Wy)(R:Rs)(looks:Nat)(bs bf:Int):Prop where
 so':SO wr B S g C v mv xs [] R.marked
 sc:SC wr S (.slice (some ⟨g,0,none⟩) C.length ccap) v mv R looks bs bf
 reach:Reach C ⟨xs.map Wy.k,looks,R.kn,bs,bf⟩
 low:Below B w wr
def zhD(w:World)(B S:Nat)(C:List (Ins × Int)):Ending→World→Prop:=fun e w'=>Below B w w'∧((e=zak 8 0∧Verd C none)∨(e=.returned (.tuple #[])∧∃ bs bf,Verd C (some (bs,bf))∧w'.cell? ⟨S,7,none⟩=some (.int .i64 bs)∧w'.cell? ⟨S,8,none⟩=some (.int .i64 bf)))
section
variable {w:World} {B S g ccap:Nat} {C:List (Ins × Int)} {wr:World} {v mv:Value} {xs:List Wy} {R:Rs} {looks:Nat} {bs bf:Int}
theorem RunI.ok(I:RunI w B S g ccap C wr v mv xs R looks bs bf)(hC:CodeSure C):GsOk C ⟨xs.map Wy.k,looks,R.kn,bs,bf⟩:=(I.reach.t hC).ok
theorem RunI.leave(I:RunI w B S g ccap C wr v mv xs R looks bs bf)(h0:xs.length=0):zhD w B S C (.returned (.tuple #[])) wr:=by
 have e:xs=[]:=List.length_eq_zero_iff.1 h0;exact⟨I.low,.inr ⟨rfl,bs,bf,⟨_,I.reach,by rw [e];rfl,rfl,rfl⟩,I.sc.c7,I.sc.c8⟩⟩
theorem RunI.tired(I:RunI w B S g ccap C wr v mv xs R looks bs bf)(h0:¬xs.length=0)(h:500000≤looks∨1000<xs.length){w':World}(hb:Below S wr w'):zhD w B S C (zak 8 0) w':=by
 refine⟨I.low.trans (hb.mono I.so'.SB),.inl ⟨rfl,⟨_,I.reach,?_,?_⟩⟩⟩
 ·intro e;have:(xs.map Wy.k).length=0:=by rw [show xs.map Wy.k=[] from e];rfl
  rw [List.length_map] at this;omega
 ·rcases h with h|h
  ·exact .inl h
  ·exact .inr (.inl (by show 1000<(xs.map Wy.k).length;rw [List.length_map];exact h))
theorem RunI.effort(I:RunI w B S g ccap C wr v mv xs R looks bs bf):SO (wr.setCell ⟨S,6,none⟩ (.int .i64 ((looks:Int)+1))) B S g C v mv xs [] R.marked∧SC (wr.setCell ⟨S,6,none⟩ (.int .i64 ((looks:Int)+1))) S (.slice (some ⟨g,0,none⟩) C.length ccap) v mv R (looks+1) bs bf∧Below B w (wr.setCell ⟨S,6,none⟩ (.int .i64 ((looks:Int)+1))):=by
 refine⟨zuz I.so',?_,I.low.setCell (p:=⟨S,6,none⟩) I.so'.SB _⟩;have:=I.sc.set6 (looks+1);rw [show(((looks+1:Nat)):Int)=(looks:Int)+1 by omega] at this;exact this
end
theorem zxg{w:World}{B S g ccap:Nat}{C:List (Ins × Int)}{v mv:Value}{xs:List Wy}{R:Rs}{looks:Nat}{bs bf:Int}(I0:RunI w B S g ccap C w v mv xs R looks bs bf)(hC:CodeSure C):
  Calls Tryz.prog 92 #[.pointer (some ⟨S,0,none⟩)] w (zhD w B S C):=by
 go_enter Tryz.func92,Tryz.ntmps92;go_wp2
 go_loopw [] (fun wr=>∃(v mv:Value) (xs:List Wy) (R:Rs) (looks:Nat) (bs bf:Int),RunI w B S g ccap C wr v mv xs R looks bs bf) (fun wr=>500001-zhC wr S)
 case atStart=>exact⟨v,mv,xs,R,looks,bs,bf,I0⟩
 case round =>
  clear I0;obtain⟨v,mv,xs,R,looks,bs,bf,I⟩:=hrel;have ok:=I.ok hC;have o1:xs.length≤1002:=by have:=ok.few;rw [List.length_map] at this;exact this
  have o2:looks≤500000:=ok.looks;have c1:=I.sc.c1;obtain⟨ao,E,rfl,_,_,_⟩:=zd7 I.so'.hp.row;have z:=fun W=>zfW W ao xs.length E (by omega);by_cases F:xs.length=0
  ·have f:=I.leave F;rw [F] at z c1;clear I ok;go_wp2_with(go_at_call 114;(with_reducible refine(z _).mono ?_);rintro e A ⟨rfl,d⟩;have c:=d.symm;subst c)
   exact bodyPost_end (results_none rfl _ _ _) rfl f
  ·have hpos:(0:Int)<(xs.length:Int):=by omega
   by_cases y:500000≤looks∨1000<xs.length
   ·have m:=ztC c1 I.sc.c6 (I.sc.fz 6) o2 (by omega) y;have f:Hid (∀ w',Below S wr w'→zhD w B S C (zak 8 0) w'):=fun w' hb=>I.tired F y hb;clear I ok y;go_wp2_with(first
     | (go_at_call 114;(with_reducible refine(z _).mono ?_);rintro e A ⟨rfl,d⟩;have c:=d.symm;subst c)
     | (go_at_call 115;(with_reducible refine m.mono ?_);rintro e A ⟨rfl,K⟩))
    exact⟨rfl,f.out _ K⟩
   ·have m:=ztB (looks:=looks) c1 I.sc.c6 (I.sc.fz 6) (by omega) (by omega);obtain⟨O1,r,G⟩:=I.effort;have X:=zwU O1 r (by omega) (by omega);have P:Hid (zhC wr S=looks):=zjc I.sc.c6;have s:0≤R.steps:=ok.rs0;have t:R.steps≤100000:=ok.rs1;have Q:R.marked.length≤500000:=by have:=ok.mkd;rw [show(⟨xs.map Wy.k,looks,R.kn,bs,bf⟩:Gs).R.marked.length=(R.marked.map Mk.k).length from rfl,List.length_map] at this;have:R.marked.length≤looks:=this;omega
    have V:R.seen≤500000:=by have:R.seen≤looks:=ok.seen;omega
    have L:0≤bf:=ok.bf0;have M:bf≤16:=ok.bf1;have HK:Hid (∀(x:Wy) (j:List Wy),TakeD (xs.map Wy.k) x.k (j.map Wy.k)→KnIn C x.k∧j.length≤2000):=fun x j ht=>by
     obtain⟨a,_,b,_⟩:=ht.1.kn hC.ok.few ok.kn;refine⟨a,?_⟩;rw [List.length_map] at b;have:j.length<(xs.map Wy.k).length:=b;rw [List.length_map] at this;omega
    have D:Hid (Reach C ⟨xs.map Wy.k,looks,R.kn,bs,bf⟩∧¬xs.length=0∧looks<500000∧xs.length≤1000):=⟨I.reach,F,by omega,by omega⟩
    clear I ok y O1 r o1 o2;go_wp2_with(first
     | (go_at_call 114;(with_reducible refine(z _).mono ?_);rintro e A ⟨rfl,d⟩;have c:=d.symm;subst c)
     | (go_at_call 115;(with_reducible refine m.mono ?_);rintro e A ⟨rfl,d⟩;have c:=d.symm;subst c)
     | (go_at_call 117;(with_reducible refine X.mono ?_);rintro e wt ⟨vt,j,x,rfl,Ot,ct,Z,J⟩)
     | (go_at_call 116;refine Hid.out ?_))
    unfold Hid;obtain⟨kx,Y⟩:=HK.out x j Z;obtain⟨p,q,o⟩:=kx.next;refine(zxf Ot ct hC kx s t Q V L M Y o q).mono ?_;rintro e w3 ⟨H,l⟩;obtain⟨re,z0,z1,z2⟩:=D.out;have i:Below B w w3:=G.trans (J.trans H);rcases l with ⟨rfl,U⟩|⟨rfl,n,v',u,zs,R',ks,N,O,O3,c3,T⟩
    ·dsimp only;refine⟨rfl,i,.inl ⟨rfl,⟨_,re,?_,.inr (.inr ⟨x.k,j.map Wy.k,Z,?_⟩)⟩⟩⟩
     ·intro e;have:(xs.map Wy.k).length=0:=by rw [show xs.map Wy.k=[] from e];rfl
      rw [List.length_map] at this;omega
     ·rcases U with h|h|h
      ·exact .inl h
      ·exact .inr (.inl h)
      ·exact .inr (.inr ⟨p,o,q,h⟩)
    ·dsimp only;have I2:RunI w B S g ccap C w3 v' u zs R' (looks+1) (x.k.steps+1) (max bf ((x.k.behind.length:Int)+1)):=⟨O3,c3,.step re ⟨x.k,j.map Wy.k,ks,p,o,z1,by show(xs.map Wy.k).length≤1000;rw [List.length_map];exact z2,Z,n,N,q,O,T,rfl,rfl,rfl⟩,i⟩
     go_wp2;go_roundw
     case rel=>exact⟨v',u,zs,R',looks+1,_,_,I2⟩
     case measure=>rw [zjc c3.c6,P.out];omega
end
section
open Go.RowKit Sp
def rs0:Rs:=⟨[],0,0,false⟩
theorem zu3{w w1:World}{g ccap:Nat}{C:List (Ins × Int)}(hK:KnM w1 w.heap.size (.slice none 0 0) kn0)(hb:Below w.heap.size w w1)(hs:w1.heap.size=w.heap.size+1)(hg:g<w.heap.size)(hC:CodeIn w g C):
  ∃ W,((w1.alloc (.cells #[.pointer (some ⟨w.heap.size,0,none⟩)] 197)).alloc (.cells #[.slice (some ⟨g,0,none⟩) C.length ccap,.slice (some ⟨w1.heap.size,0,none⟩) 1 1,.slice none 0 0,.int .i64 0,.int .i64 0,.bool false,.int .i64 0,.int .i64 0,.int .i64 0] 156))=W∧Below w.heap.size w W ∧
   RunI W w.heap.size (w1.heap.size+1) g ccap C W (.slice (some ⟨w1.heap.size,0,none⟩) 1 1) (.slice none 0 0) [⟨w.heap.size,none,0,kn0⟩] rs0 0 0 0:=by
 refine⟨_,rfl,?_,?_⟩
 ·exact(hb.alloc (by omega) _).alloc (by simp;omega) _
 ·have f:Below w1.heap.size w1 (w1.alloc (.cells #[.pointer (some ⟨w.heap.size,0,none⟩)] 197)):=(Below.refl _ _).alloc (Nat.le_refl _) _;have l:(w1.alloc (.cells #[.pointer (some ⟨w.heap.size,0,none⟩)] 197)).heap.size=w1.heap.size+1:=by simp
  have p:=fun j=>World.cell?_alloc_new (w:=w1) #[.pointer (some ⟨w.heap.size,0,none⟩)] 197 j;have k:=heap_alloc_new w1 (.cells #[.pointer (some ⟨w.heap.size,0,none⟩)] 197);generalize w1.alloc (.cells #[.pointer (some ⟨w.heap.size,0,none⟩)] 197)=w2 at f l p k ⊢;have b:=fun j=>World.cell?_alloc_new (w:=w2) #[.slice (some ⟨g,0,none⟩) C.length ccap,.slice (some ⟨w1.heap.size,0,none⟩) 1 1,.slice none 0 0,.int .i64 0,.int .i64 0,.bool false,.int .i64 0,.int .i64 0,.int .i64 0] 156 j;have c:Below w2.heap.size w2 (w2.alloc (.cells #[.slice (some ⟨g,0,none⟩) C.length ccap,.slice (some ⟨w1.heap.size,0,none⟩) 1 1,.slice none 0 0,.int .i64 0,.int .i64 0,.bool false,.int .i64 0,.int .i64 0,.int .i64 0] 156)):=(Below.refl _ _).alloc (Nat.le_refl _) _;have n:(w2.alloc (.cells #[.slice (some ⟨g,0,none⟩) C.length ccap,.slice (some ⟨w1.heap.size,0,none⟩) 1 1,.slice none 0 0,.int .i64 0,.int .i64 0,.bool false,.int .i64 0,.int .i64 0,.int .i64 0] 156)).heap.size=w2.heap.size+1:=by simp
  have d:∀ j,(w2.alloc (.cells #[.slice (some ⟨g,0,none⟩) C.length ccap,.slice (some ⟨w1.heap.size,0,none⟩) 1 1,.slice none 0 0,.int .i64 0,.int .i64 0,.bool false,.int .i64 0,.int .i64 0,.int .i64 0] 156)).frozen? ⟨w2.heap.size,j,none⟩=false:=fun j=>by simp
  generalize w2.alloc (.cells #[.slice (some ⟨g,0,none⟩) C.length ccap,.slice (some ⟨w1.heap.size,0,none⟩) 1 1,.slice none 0 0,.int .i64 0,.int .i64 0,.bool false,.int .i64 0,.int .i64 0,.int .i64 0] 156)=W at b c n d ⊢;have s:Below w1.heap.size w1 W:=f.trans (c.mono (by omega));have o:KnM W w.heap.size (.slice none 0 0) kn0:=hK.below s (by omega);have r:WyM W ⟨w.heap.size,none,0,kn0⟩:=⟨⟨⟨Int.le_refl _,by show(0:Int)≤1000;omega⟩,⟨Nat.zero_le _,fun z hz=>(by cases hz)⟩⟩,o,zAe W⟩
  have hS:w2.heap.size=w1.heap.size+1:=l;rw [hS] at b d n;refine⟨⟨?_,hg,by omega,by omega,⟨⟨by simp [zj6],.inr ⟨w1.heap.size,1,#[.pointer (some ⟨w.heap.size,0,none⟩)],rfl,by omega,(c.block _ (by omega)).trans k,Nat.le_refl _,by unfold maxLen;omega,rfl,by simp [zj6]⟩⟩,fun x hx=>by rw [List.mem_singleton.1 hx];exact r,fun q hq x hx=>?_⟩,fun i h1 h2=>?_,fun h hh=>(by cases hh),?_,fun m hm=>(by cases hm),?_,?_,?_,by simp,fun x hx=>?_,fun m hm=>(by cases hm)⟩,⟨b 0,b 1,⟨b 2,b 3,b 4,b 5⟩,b 6,b 7,b 8,d⟩,.zero,Below.refl _ _⟩
  ·exact(hC.below hb hg).below (s.mono (B':=w.heap.size) (by omega)) hg
  ·rw [List.mem_singleton.1 hx];have e:w1.heap.size=q:=by have:some w1.heap.size=some q:=hq;simpa using this
   exact⟨by show ¬w.heap.size=q;omega,fun a ha=>(by cases ha)⟩
  ·simp only [List.length_singleton] at h2;omega
  ·exact World.ownsRow_nil _ _ _ _
  ·intro e;have t:w1.heap.size=w1.heap.size+1:=by have:some w1.heap.size=some (w1.heap.size+1):=e;simp at this
   omega
  ·intro e;cases e
  ·intro q _ e;cases e
  ·rw [List.mem_singleton.1 (show x∈[(⟨w.heap.size,none,0,kn0⟩:Wy)] from hx)];refine⟨Nat.le_refl _,⟨by show ¬w.heap.size=w1.heap.size+1;omega,fun e=>?_,fun e=>(by cases e)⟩,fun a ha=>(by cases ha)⟩;have t:w1.heap.size=w.heap.size:=by have:some w1.heap.size=some w.heap.size:=e;simpa using this
   omega
def zpH(w:World)(g ccap:Nat)(C:List (Ins × Int)):Ending→World→Prop:=fun e w'=>∃ S v mv xs,e=.returned (.pointer (some ⟨S,0,none⟩))∧Below w.heap.size w w'∧RunI w' w.heap.size S g ccap C w' v mv xs rs0 0 0 0
theorem zrL{w:World}{g ccap:Nat}{C:List (Ins × Int)}(hg:g<w.heap.size)(hC:CodeIn w g C):Calls Tryz.prog 91 #[.slice (some ⟨g,0,none⟩) C.length ccap] w (zpH w g ccap C):=by
 have k:=zo7 w;have j:Hid (∀ d,KnM d w.heap.size (.slice none 0 0) kn0→Below w.heap.size w d→d.heap.size=w.heap.size+1→zpH w g ccap C (.returned (.pointer (some ⟨d.heap.size+1,0,none⟩))) ((d.alloc (.cells #[.pointer (some ⟨w.heap.size,0,none⟩)] 197)).alloc (.cells #[.slice (some ⟨g,0,none⟩) C.length ccap,.slice (some ⟨d.heap.size,0,none⟩) 1 1,.slice none 0 0,.int .i64 0,.int .i64 0,.bool false,.int .i64 0,.int .i64 0,.int .i64 0] 156))):=fun d a b c=>by
  obtain⟨W,e,l,m⟩:=zu3 (ccap:=ccap) a b c hg hC;rw [e];exact⟨_,_,_,_,rfl,l,m⟩
 go_enter Tryz.func91,Tryz.ntmps91;go_wp2_with(go_at_call 113;(with_reducible refine k.mono ?_);rintro e d ⟨rfl,h,n,i⟩;have f:=j.out d h n i;clear h i)
 go_ret;exact f
def zu4(w:World)(C:List (Ins × Int)):Ending→World→Prop:=fun e w'=>Below w.heap.size w w'∧((e=zak 8 0∧Verd C none)∨∃ bs bf,e=.returned (.agg #[.int .i64 bs,.int .i64 bf])∧Verd C (some (bs,bf)))
theorem zfz{e:Int}{o:Option Int}{c:Int × Int}(h:zef e o c=(0,0))(he:¬e=0):o=none∧c=(0,0):=by
 cases o with
 | none=>exact⟨rfl,h⟩
 | some l=>exact absurd (congrArg Prod.fst h) he
theorem zkG(A:List ByteArray)(i j:Nat)(hj:j<A.length)(hij:i≤j)(hb:(say A[j]).ok=false):¬zbS A i=(0,0):=by
 have a:i<A.length:=by omega
 cases hc:(say A[i]).ok with
 | false=>rw [zfK A i a hc];exact fun e=>absurd (congrArg Prod.fst e) (show ¬(1:Int)=0 by decide)
 | true =>
  rw [zfJ A i a hc];have hne:¬i=j:=fun e=>by subst e;rw [hb] at hc;cases hc
  exact zkG A (i+1) j hj (by omega) hb
termination_by A.length-i
theorem zp2(s:ByteArray)(h:zcm s=(0,0)):znZ s ((lines s).map say):=by
 have b:=ztd s h;unfold zcm at h;by_cases p:4000<s.size∨300<(lines s).length
 ·rw [if_pos p] at h;exact absurd (congrArg Prod.fst h) (by decide)
 ·rw [if_neg p] at h;have u:s.size≤4000:=by omega
  have t:(lines s).length≤300:=by omega
  by_cases a:∀ x∈lines s,(say x).ok=true
  ·rw [zeG _ a 0,zeF _ a] at h;have S:Sts s (zaU (lines s) (lines s).length):=⟨u,t,a,rfl⟩
   have c:=zk0 (lines s);generalize zaU (lines s) (lines s).length=K at S h c;cases K with
   | nil=>exact absurd (congrArg Prod.fst h) (by decide)
   | cons k r =>
    unfold sayK at h;dsimp only at h;by_cases d:k.sort=0
    ·rw [if_pos d] at h;obtain⟨B,h⟩:=zfz h (by decide);obtain⟨A,h⟩:=zfz h (by decide);obtain⟨y,_⟩:=zfz h (by decide);intro w C;refine(zjX s k r S d B _ rfl A y w C).mono ?_;rintro e w' ⟨m,D,q,n,f,F,rfl,v,hG,g,l,i⟩;refine⟨m,D,q,n,f,F,rfl,v,⟨b,zi1 _ 0 k r c.symm d,?_,g⟩,l,i⟩;rw [hG.out];exact znR _ 0 k r c.symm d
    ·rw [if_neg d] at h;exact absurd (congrArg Prod.fst h) (show ¬(2:Int)=0 by decide)
  ·exfalso;have:∃ x∈lines s,¬(say x).ok=true:=by
    refine Classical.byContradiction fun hn=>a fun x o=>?_;refine Classical.byContradiction fun hx'=>hn ⟨x,o,hx'⟩
   obtain⟨x,o,m⟩:=this;obtain⟨j,z,rfl⟩:=List.mem_iff_getElem.1 o;exact zkG (lines s) 0 j z (by omega) (by simpa using m) h
theorem zmH{w:World}{g ccap:Nat}{C:List (Ins × Int)}(hC:CodeSure C)(hg:g<w.heap.size)(hI:CodeIn w g C):Calls Tryz.prog 58 #[.slice (some ⟨g,0,none⟩) C.length ccap] w (zu4 w C):=by
 have f:Below w.heap.size w (w.alloc (.cells #[.int .i64 0,.int .i64 0] 42)):=(Below.refl _ _).alloc (Nat.le_refl _) _;have u:(w.alloc (.cells #[.int .i64 0,.int .i64 0] 42)).heap.size=w.heap.size+1:=by simp
 have o:=World.cell?_alloc_new (w:=w) #[.int .i64 0,.int .i64 0] 42 0;have q:=World.cell?_alloc_new (w:=w) #[.int .i64 0,.int .i64 0] 42 1;have i:∀ j,(w.alloc (.cells #[.int .i64 0,.int .i64 0] 42)).frozen? ⟨w.heap.size,j,none⟩=false:=fun j=>by simp
 have c:=zrL (ccap:=ccap) (by rw [u];omega) (hI.below f hg);go_enter Tryz.func58,Tryz.ntmps58;go_wp2_with(first
  | (go_at_call 91;(with_reducible refine c.mono ?_);rintro e w1 ⟨S,v,mv,xs,rfl,l,I⟩;have d:=zxg I hC)
  | (go_at_call 92;refine Hid.out ?_))
 unfold Hid;refine d.mono ?_;rintro e k ⟨m,h⟩;have b:Below (w.heap.size+1) (w.alloc (.cells #[.int .i64 0,.int .i64 0] 42)) k:=by rw [←u];exact l.trans m
 have n:Below w.heap.size w k:=f.trans (b.mono (by omega));have hSB:=I.so'.SB;rcases h with ⟨rfl,r⟩|⟨rfl,t,s,r,d7,d8⟩
 ·dsimp only;exact⟨rfl,n,.inl ⟨rfl,r⟩⟩
 ·dsimp only;have y:k.cell? ⟨w.heap.size,0,none⟩=some (.int .i64 0):=(World.cell?_of_block (a:=⟨w.heap.size,0,none⟩) (b.block w.heap.size (by omega))).trans o;have z:k.cell? ⟨w.heap.size,1,none⟩=some (.int .i64 0):=(World.cell?_of_block (a:=⟨w.heap.size,1,none⟩) (b.block w.heap.size (by omega))).trans q;have z0:k.frozen? ⟨w.heap.size,0,none⟩=false:=(World.frozen?_of_block (a:=⟨w.heap.size,0,none⟩) (b.block w.heap.size (by omega))).trans (i 0);have z1:k.frozen? ⟨w.heap.size,1,none⟩=false:=(World.frozen?_of_block (a:=⟨w.heap.size,1,none⟩) (b.block w.heap.size (by omega))).trans (i 1);have x:Hid (Verd C (some (t,s))):=r;clear r d I c f o q i l m b;go_wp2;refine bodyPost_ret (v:=.agg #[.int .i64 t,.int .i64 s]) (by simp [results,Tryz.results58,go_sem,y,z]) rfl ⟨?_,.inr ⟨t,s,rfl,x.out⟩⟩;exact(n.setCell (p:=⟨w.heap.size,0,none⟩) (Nat.le_refl _) _).setCell (p:=⟨w.heap.size,1,none⟩) (Nat.le_refl _) _
def VerdL(L:List Said)(v:Option (Int × Int)):Prop:=∃ F,Right L F∧Verd (zao F) v
theorem VerdL.unique{L:List Said}{a b:Option (Int × Int)}(ha:VerdL L a)(hb:VerdL L b):a=b:=by
 obtain⟨F,R,h⟩:=ha;obtain⟨G,d,c⟩:=hb;rw [←zje R d] at c;exact h.unique R.sure c
theorem VerdL.at_{L:List Said}{F:List FnM}(R:Right L F){v:Option (Int × Int)}(h:VerdL L v):Verd (zao F) v:=by
 obtain⟨G,a,b⟩:=h;rw [zje R a];exact b
def zxX(w:World)(pr:Nat)(L:List Said):Ending→World→Prop:=fun e w'=>(e=zak 8 0∧VerdL L none∧Below w.heap.size w w')∨∃ bs bf,e=.returned (.tuple #[])∧VerdL L (some (bs,bf))∧∃ w1,Below w.heap.size w w1∧w'=(w1.setCell ⟨pr,0,none⟩ (.int .i64 bs)).setCell ⟨pr,1,none⟩ (.int .i64 bf)
theorem zxk(w:World)(hw:LibW w)(pt pr:Nat)(s:ByteArray)(t1:w.cell? ⟨pt,0,none⟩=some (.string s))(R:Int × Int)(hR:¬R=(0,0))(h:zbM s R):
  Calls Tryz.prog 59 #[.pointer (some ⟨pt,0,none⟩),.pointer (some ⟨pr,0,none⟩)] w fun e w'=>e=zak R.1 R.2∧Below w.heap.size w w':=by
 have b:=(h w hw).mono (R':=fun e w'=>e=zak R.1 R.2∧Below w.heap.size w w') (by
  rintro e w' ⟨a,⟨h,_⟩|⟨_,h⟩⟩
  ·exact absurd h hR
  ·exact⟨h,a⟩)
 go_enter Tryz.func59,Tryz.ntmps59;go_wp2_with(go_at_call 44;refine b.mono ?_;rintro e w1 ⟨rfl,a⟩)
 exact⟨rfl,rfl,a⟩
theorem zu7(w:World)(hw:LibW w)(pt pr:Nat)(s:ByteArray)(t1:w.cell? ⟨pt,0,none⟩=some (.string s))(L:List Said)(h:znZ s L)(d0:w.cell? ⟨pr,0,none⟩=some (.int .i64 0))(d1:w.cell? ⟨pr,1,none⟩=some (.int .i64 0))(fz:∀ j,w.frozen? ⟨pr,j,none⟩=false):
  Calls Tryz.prog 59 #[.pointer (some ⟨pt,0,none⟩),.pointer (some ⟨pr,0,none⟩)] w (zxX w pr L):=by
 have A:=h w hw;have b:pr<w.heap.size:=World.block_lt_of_cell? w _ d0;go_enter Tryz.func59,Tryz.ntmps59;go_wp2_with(first
  | (go_at_call 44;refine A.mono ?_;rintro e D ⟨c,C,ao,m,cap,F,rfl,z,R,B,q⟩;have r:=zt9 R D _ C _ z B q)
  | (go_at_call 52;refine r.mono ?_;rintro e w2 ⟨g,k,rfl,hg1,v,l,n⟩;have o:=zmH (ccap:=k) R.sure v l)
  | (go_at_call 58;refine Hid.out ?_))
 unfold Hid;refine o.mono ?_;rintro e f ⟨u,d⟩;have i:Below w.heap.size w f:=c.trans ((n.mono c.size).trans (u.mono (Nat.le_trans c.size n.size)));rcases d with ⟨rfl,t⟩|⟨y,x,rfl,t⟩
 ·dsimp only;exact⟨rfl,.inl ⟨rfl,⟨F,R,t⟩,i⟩⟩
 ·dsimp only;have e0:f.cell? ⟨pr,0,none⟩=some (.int .i64 0):=(World.cell?_of_block (a:=⟨pr,0,none⟩) (i.block pr b)).trans d0;have e1:f.cell? ⟨pr,1,none⟩=some (.int .i64 0):=(World.cell?_of_block (a:=⟨pr,1,none⟩) (i.block pr b)).trans d1;have z0:f.frozen? ⟨pr,0,none⟩=false:=(World.frozen?_of_block (a:=⟨pr,0,none⟩) (i.block pr b)).trans (fz 0);have z1:f.frozen? ⟨pr,1,none⟩=false:=(World.frozen?_of_block (a:=⟨pr,1,none⟩) (i.block pr b)).trans (fz 1);have p:Hid (zxX w pr L (.returned (.tuple #[])) ((f.setCell ⟨pr,0,none⟩ (.int .i64 y)).setCell ⟨pr,1,none⟩ (.int .i64 x))):=.inr ⟨y,x,rfl,⟨F,R,t⟩,f,i,rfl⟩;clear o r A t l z;go_wp2;exact bodyPost_end (results_none rfl _ _ _) rfl p.out
def zhy(s:ByteArray)(i:Nat):Nat:=(s.data.toList.take i).count 10
theorem zxz(s:ByteArray)(i:Nat):zhy s i≤i:=by
 unfold zhy;refine Nat.le_trans List.count_le_length ?_;rw [List.length_take];omega
theorem zrY{s:ByteArray}{i:Nat}(h:i<s.size):zhy s (i+1)=zhy s i+if s[i].toNat=10 then 1 else 0:=by
 unfold zhy;have b:i<s.data.toList.length:=h;rw [List.take_add_one,List.count_append,List.getElem?_eq_getElem b];have e:s.data.toList[i]=s[i]:=rfl;rw [e];refine congrArg _ ?_;show List.count 10 [s[i]]=_;rw [List.count_singleton];by_cases a:s[i]=10
 ·rw [a];rfl
 ·have:¬s[i].toNat=10:=fun x=>a (UInt8.toNat_inj.1 x);rw [if_neg this,if_neg (by simpa using a)]
theorem zuJ(s:ByteArray):(lines s).length=zhy s s.size+1:=by
 rw [(zdT s).1];unfold Lib.countByte zhy;rw [List.take_of_length_le (Nat.le_of_eq (show s.data.toList.length=s.size from rfl))]
def zx0(s:ByteArray):Bool:=decide (¬(4000<s.size∨300<(lines s).length))
theorem zpN(s:ByteArray)(w:World)(hs:s.size≤4611686018427387904):
  Calls Tryz.prog 33 #[.string s] w fun e w'=>e=.returned (.bool (zx0 s))∧w'=w:=by
 unfold zx0;rw [zuJ];go_enter Tryz.func33,Tryz.ntmps33;go_wp2
 go_loopw [3,4] (fun tl ti wr=>∃ i:Nat,i≤s.size∧tl=.int .i64 (1+(zhy s i:Int))∧ti=.int .i64 (i:Int)∧wr=w) (fun _ ti _=>s.size-(intOf ti).toNat)
 case atStart=>exact⟨0,by omega,rfl,rfl,rfl⟩
 case round =>
  obtain⟨i,hi,rfl,rfl,rfl⟩:=hrel;have g:=zxz s i;by_cases f:i<s.size
  ·have h:=zrY f;have j:Hid (zhy s (i+1)=zhy s i+if s[i].toNat=10 then 1 else 0):=h;clear h;have hc0:0≤(s[i].toNat:Int):=by omega
   have hc1:(s[i].toNat:Int)≤255:=by have:=s[i].toNat_lt;omega
   have d:(i:Int)<(s.size:Int):=by omega
   generalize zhy s i=c at g j ⊢;by_cases a:((s[i].toNat:Int) == 10)=true
   ·go_wp2;go_roundw
    case rel=>exact⟨i+1,by omega,by rw [j.out,if_pos (by simp at a;omega)];go_num,by go_num,trivial⟩
    case measure=>simp [intOf];omega
   ·have b:((s[i].toNat:Int) == 10)=false:=by simpa using a
    go_wp2;go_roundw
    case rel=>exact⟨i+1,by omega,by rw [j.out,if_neg (by simp at b;omega)];rfl,by go_num,trivial⟩
    case measure=>simp [intOf];omega
  ·obtain rfl:i=s.size:=by omega
   generalize hcc:zhy s s.size=c at g ⊢;have d:¬(s.size:Int)<(s.size:Int):=by omega
   by_cases h1:s.size≤4000
   ·by_cases h2:1+(c:Int)≤300
    ·go_wp2;go_ret;exact⟨by show Ending.returned (.bool true)=Ending.returned (.bool (decide _));rw [decide_eq_true (by omega)],rfl⟩
    ·go_wp2;go_ret;first
      | exact⟨rfl,rfl⟩
      | exact⟨by show Ending.returned (.bool false)=Ending.returned (.bool (decide _));rw [decide_eq_false (by omega)],rfl⟩
   ·go_wp2;go_ret;first
      | exact⟨rfl,rfl⟩
      | exact⟨by show Ending.returned (.bool false)=Ending.returned (.bool (decide _));rw [decide_eq_false (by omega)],rfl⟩
theorem zoL(s:ByteArray)(w:World)(hw:LibW w)(hs:s.size≤4611686018427387904)(hR:zcm s=if 4000<s.size∨300<(lines s).length then(6,0) else(0,0)):
  Calls Tryz.prog 32 #[.string s] w fun e w'=>e=.returned (.bool true)∧Below w.heap.size w w':=by
 have a:=zsT s (zcm s) (ziy s (by omega)) w hw;have c:=fun W=>zpN s W hs;unfold zx0 at c;by_cases h:4000<s.size∨300<(lines s).length
 ·rw [hR,if_pos h] at a;rw [decide_eq_false (fun x=>x h)] at c;clear h hR;go_enter Tryz.func32,Tryz.ntmps32;go_wp2_with(first
   | (go_at_call 15;(with_reducible refine a.mono ?_);rintro e d ⟨rfl,b⟩)
   | (go_at_call 33;(with_reducible refine(c _).mono ?_);rintro e f ⟨rfl,rfl⟩))
  go_ret;exact⟨rfl,b⟩
 ·rw [hR,if_neg h] at a;rw [decide_eq_true h] at c;clear h hR;go_enter Tryz.func32,Tryz.ntmps32;go_wp2_with(first
   | (go_at_call 15;(with_reducible refine a.mono ?_);rintro e d ⟨rfl,b⟩)
   | (go_at_call 33;(with_reducible refine(c _).mono ?_);rintro e f ⟨rfl,rfl⟩))
  go_ret;exact⟨rfl,b⟩
end
section
open Sp
variable {C:List (Ins × Int)} {k k1 k' s t:Kn} {l pre:List Kn} {p q e:Nat} {H Gv:Nat→Bool} {wt Fr:Nat} {G:Gs}
structure One(Fr:Nat)(pre:List Kn)(k:Kn)(G:Gs):Prop where
 W:G.W=[k]
 looks:G.looks=pre.length
 steps:k.steps=(pre.length:Int)
 ok:KnOk k
 bs:G.bs=(pre.length:Int)
 bf0:pre=[]→G.bf=0
 bf1:¬pre=[]→1≤G.bf
 bf2:G.bf≤(Fr:Int)
 R:(pre=[]∧G.R=rsk0)∨(¬pre=[]∧G.R.steps+1=(pre.length:Int)∧G.R.covers=false∧∃ m∈pre,G.R.marked=[m])
theorem zst:zbn 0=true:=by kernel_rfl
theorem One.endless(h:One Fr pre k G)(hs:∀ m∈pre,Sep m k):∃ R',G.R.endless k=some R'∧R'.steps+1=((pre.length+1:Nat):Int)∧R'.covers=false∧∃ m∈pre++[k],R'.marked=[m]:=by
 rcases h.R with ⟨a,hR⟩|⟨a,h1,b,m,c,h3⟩
 ·subst a;have hk:k.steps=0:=h.steps;rw [hR];refine⟨rsk0.see k,?_,?_,rfl,k,by simp,?_⟩
  ·unfold RsK.endless;rw [if_pos (by rw [hk];rfl)]
  ·rfl
  ·unfold RsK.see;show(if zbn 0=true then []++[k] else [])=[k]
   rw [zst];rfl
 ·refine⟨(G.R.begin k.steps).see k,?_,?_,?_,?_⟩
  ·unfold RsK.endless;rw [if_neg (by rw [h.steps];omega),b];rfl
  ·show k.steps+1=_;rw [h.steps];omega
  ·unfold RsK.see RsK.begin;simp only;cases hm2:zbn k.steps with
   | true=>simp
   | false =>
    rw [h3];simp only [Bool.false_eq_true,if_false,List.getD_cons_zero];rw [(hs m c).not_cov];simp
  ·unfold RsK.see RsK.begin;simp only;cases hm2:zbn k.steps with
   | true=>exact⟨k,by simp,by simp⟩
   | false=>exact⟨m,by simp [c],by simp [h3]⟩
theorem zz6(k:Kn):TakeD [k] k []:=⟨.one (List.Perm.refl _) (fun y hy=>by cases hy),fun y hy=>by cases hy⟩
theorem One.step(_S:CodeSure C)(h:One Fr pre k G)(hs:∀ m∈pre,Sep m k)(_hd:k.behind.length+1≤Fr)(hl:pre.length≤30000){ks:List Kn}{i:Ins}(hi:zcb C p i)(hk:k.next=(p:Int))(hln:zam i k=some ks):
  ∃ R',Rd C G ⟨ks,G.looks+1,R',k.steps+1,max G.bf ((k.behind.length:Int)+1)⟩∧R'.steps+1=((pre.length+1:Nat):Int)∧R'.covers=false∧∃ m∈pre++[k],R'.marked=[m]:=by
 obtain⟨R',a,b,c,d⟩:=h.endless hs;obtain⟨e,rfl⟩:=hi;exact⟨R',⟨k,[],ks,p,e,by rw [h.looks];omega,by rw [h.W];simp,by rw [h.W];exact zz6 k,by rw [h.steps];omega,a,hk,hln,by simp,rfl,rfl,rfl⟩,b,c,d⟩
theorem One.next(S:CodeSure C)(h:One Fr pre k G)(hr:Reach C G)(hs:∀ m∈pre,Sep m k)(hd:k.behind.length+1≤Fr)(hl:pre.length≤30000)(hst:Stp C k k1):∃ G',Reach C G'∧One Fr (pre++[k]) k1 G':=by
 obtain⟨p,c,i,a⟩:=hst;have j:=zcx h.ok (S.ok.ok p c) (S.n64 p c) a k1 (List.mem_singleton.2 rfl);obtain⟨R',b,d,f,g⟩:=h.step S hs hd hl ⟨c,rfl⟩ i a;refine⟨_,.step hr b,⟨rfl,by simp [h.looks],by rw [j.1,h.steps];simp,j.2,by simp [h.steps],fun e=>(by simp at e),fun _=>?_,?_,.inr ⟨by simp,by simpa using d,f,g⟩⟩⟩
 ·show 1≤max G.bf ((k.behind.length:Int)+1);omega
 ·show max G.bf ((k.behind.length:Int)+1)≤Fr;have:=h.bf2;omega
theorem One.all(S:CodeSure C)(ht:Tr C k l k'):∀(pre:List Kn) (G:Gs),One Fr pre k G→Reach C G→(pre++(l++[k'])).Pairwise Sep→(∀ s∈l,s.behind.length+1≤Fr)→pre.length+l.length≤30000→∃ G',Reach C G'∧One Fr (pre++l) k' G':=by
 induction ht with
 | nil k=>intro pre G h a _ _ _;exact⟨G,a,by simpa using h⟩
 | @cons k k1 k' l hst _ ih =>
  intro pre G h a f e o;simp only [List.length_cons] at o;have d:∀ m∈pre,Sep m k:=fun m hm=>(List.pairwise_append.1 f).2.2 m hm k (by simp);obtain⟨g,b,j⟩:=h.next S a d (e k List.mem_cons_self) (by omega) hst;obtain⟨i,c,n⟩:=ih (pre++[k]) g j b (by simpa using f) (fun s d=>e s (List.mem_cons_of_mem _ d)) (by simp;omega);exact⟨i,c,by simpa using n⟩
theorem zhp:(only 0).Ok:=⟨⟨by decide,by decide⟩,⟨by decide,by decide⟩,by decide⟩
theorem zqc:KnOk kn0:=⟨fun _ _=>zhp,fun _ _=>zhp⟩
theorem zz7(S:CodeSure C){Gf:Nat→Bool}(F:FnSem C 0 e wt Gf Fr)(hF:Fr≤16)(hw:wt≤30000):∃ bs bf:Int,Verd C (some (bs,bf))∧1≤bs∧bs≤(wt:Int)+1∧1≤bf∧bf≤(Fr:Int):=by
 obtain⟨l,a,t,R,hl⟩:=F.body kn0 rfl ⟨zqc,fun r j=>(by cases j),fun c hc=>(by cases hc)⟩ (by show 0+Fr≤16;omega);have k:a.behind=[]:=R.behind;have d:([]++(l++[a])).Pairwise Sep:=by
  rw [List.nil_append,List.pairwise_append];refine⟨R.sep,List.pairwise_singleton _ _,fun s g t ht=>?_⟩;rw [List.mem_singleton.1 ht];exact(R.loc s g).sep (p':=e) (q':=e+1) (.inl ⟨k,e,R.next,Nat.le_refl _,by omega⟩) (Nat.le_refl _)
 have o:One Fr [] kn0 gs0:=⟨rfl,rfl,rfl,zqc,rfl,fun _=>rfl,fun h=>absurd rfl h,by show(0:Int)≤Fr;omega,.inl ⟨rfl,rfl⟩⟩
 obtain⟨G,j,h⟩:=One.all S t [] gs0 o .zero d (fun s g=>by have:=R.deep s g;rwa [show kn0.behind.length+Fr=Fr from Nat.zero_add _] at this) (by simp;omega);rw [List.nil_append] at h;have g:∀ m∈l,Sep m a:=fun m hm=>(List.pairwise_append.1 (by simpa using d)).2.2 m hm a (by simp);have f:=F.pos;have n:zam .back a=some []:=by
  have e:zam .back a=(match a.behind with|[]=>some []|b :: r=>some [{ a with behind:=(b :: r).dropLast }.goTo ((b :: r).getLastD 0)]):=rfl;rw [e,k]
 obtain⟨R',i,_⟩:=h.step S g (by rw [k];simpa using f) (by omega) F.back R.next n;have hbf:=h.bf2;refine⟨a.steps+1,max G.bf ((a.behind.length:Int)+1),⟨_,.step j i,rfl,rfl,rfl⟩,?_,?_,?_,?_⟩
 ·rw [h.steps];omega
 ·rw [h.steps];omega
 ·omega
 ·rw [k];simp only [List.length_nil];omega
end
section
open Go.RowKit Sp
structure RnIn(w:World)(pt pi pr:Nat)(s:ByteArray)(iv:Value):Prop where
 text:w.cell? ⟨pt,0,none⟩=some (.string s)
 inp:w.cell? ⟨pi,0,none⟩=some iv
 state:w.there pr 0 30
 ne:¬pi=pr
abbrev zpJ(pt pi pr:Nat):Array Value:=#[.pointer (some ⟨pt,0,none⟩),.pointer (some ⟨pi,0,none⟩),.pointer (some ⟨pr,0,none⟩)]
theorem zxq(w:World)(hw:LibW w)(pt pi pr:Nat)(s:ByteArray)(iv:Value)(T:RnIn w pt pi pr s iv)(R:Int × Int)(hR:¬R=(0,0))(h:zbM s R):
  Calls Tryz.prog 57 (zpJ pt pi pr) w fun e w'=>e=zak R.1 R.2∧Below w.heap.size w w':=by
 have b:=(h w hw).mono (R':=fun e w'=>e=zak R.1 R.2∧Below w.heap.size w w') (by
  rintro e w' ⟨a,⟨h,_⟩|⟨_,h⟩⟩
  ·exact absurd h hR
  ·exact⟨h,a⟩)
 have t1:=T.text;go_enter Tryz.func57,Tryz.ntmps57;go_wp2_with(go_at_call 44;refine b.mono ?_;rintro e w1 ⟨rfl,a⟩)
 exact⟨rfl,rfl,a⟩
def ranL(L:List Said)(inp:List Int)(bs:Int):Mc:=runS (zl1 L) bs.toNat (zhY L inp)
def zxY(w:World)(pr:Nat)(L:List Said)(inp:List Int):Ending→World→Prop:=fun e w'=>(e=zak 8 0∧VerdL L none∧Below w.heap.size w w')∨∃ bs bf,e=.returned (.tuple #[])∧VerdL L (some (bs,bf))∧ztA w pr (ranL L inp bs) (ranL L inp bs).line w'
theorem zuA{L:List Said}{F:List FnM}(R:Right L F)(inp:List Int)(n:Nat)(ov:Value):zaH (runS (zce (zao F)) n (zaY inp)) ov (zht (zao F) (runS (zce (zao F)) n (zaY inp)))=zaH (ranL L inp (n:Int)) ov (ranL L inp (n:Int)).line∧(runS (zce (zao F)) n (zaY inp)).out=(ranL L inp (n:Int)).out:=by
 obtain⟨a,c⟩:=znS R.sim R.codeOk n (zda R.codeOk inp);rw [←R.begin] at a;have b:=zw4 R.sim c;rw [←a] at b;unfold ranL;rw [Int.toNat_natCast];refine⟨?_,by rw [a];rfl⟩;rw [b,a];rfl
theorem zuB(w:World)(hw:LibW w)(pt pi pr:Nat)(s:ByteArray)(ao:Option Addr)(icap:Nat)(inp:List Int)(T:RnIn w pt pi pr s (.slice ao inp.length icap))(L:List Said)(h:znZ s L)(hiv:SlB w w.heap.size (.slice ao inp.length icap) inp)(hin:inp.length≤9223372036854775807):
  Calls Tryz.prog 57 (zpJ pt pi pr) w (zxY w pr L inp):=by
 have W:=h w hw;obtain⟨t1,Y,Z,t5⟩:=T;have hlti:pi<w.heap.size:=World.block_lt_of_cell? w _ Y;have f:pr<w.heap.size:=by
  obtain⟨u,hu⟩:=Option.isSome_iff_exists.1 (Z 0 (by omega)).1;exact World.block_lt_of_cell? w _ hu
 go_enter Tryz.func57,Tryz.ntmps57;go_wp2_with(first
  | (go_at_call 44;refine W.mono ?_;rintro e w1 ⟨v,pm,vo,m,cap,F,rfl,V,R,hn,C⟩;have D:=zt9 R w1 _ pm _ V hn C)
  | (go_at_call 52;refine D.mono ?_;rintro e w2 ⟨g,b,rfl,hg1,p,k,N⟩;have z:=zmH (ccap:=b) R.sure p k)
  | (go_at_call 58;refine Hid.out ?_))
 unfold Hid;refine z.mono ?_;rintro e j ⟨l,o⟩;have c:Below w.heap.size w w2:=v.trans (N.mono v.size);have M:Below w.heap.size w j:=c.trans (l.mono c.size);have t:=k.below l p;have B:g<j.heap.size:=Nat.lt_of_lt_of_le p l.size;rcases o with ⟨rfl,K⟩|⟨S,q,rfl,K⟩
 ·dsimp only;exact⟨rfl,.inl ⟨rfl,⟨F,R,K⟩,M⟩⟩
 ·dsimp only;have hbd2:=K.bound R.sure;obtain⟨n,rfl⟩:∃ n:Nat,S=(n:Int):=⟨S.toNat,by omega⟩
  have O:n≤100000:=by omega
  have a:Below w.heap.size w (j.alloc (.cells #[.int .i64 (n:Int),.int .i64 q] 42)):=M.alloc M.size _;have d:Below j.heap.size j (j.alloc (.cells #[.int .i64 (n:Int),.int .i64 q] 42)):=(Below.refl _ _).alloc (Nat.le_refl _) _;have t3':=za5 a Y;have H:=zwp (j.alloc (.cells #[.int .i64 (n:Int),.int .i64 q] 42)) g b n icap ao (zao F) inp R.codeOk (t.below d B) (Nat.lt_of_lt_of_le B d.size) (hiv.mono a) hin O _ rfl;have i:=zuA R inp n;have P:=za9 Z a f;have E:pr<(j.alloc (.cells #[.int .i64 (n:Int),.int .i64 q] 42)).heap.size:=Nat.lt_of_lt_of_le f a.size;have hu34:Tryz.prog.underlying 34=some (.struct _):=Tryz.underlying34;clear z D W k V;go_wp2_with(first
   | (go_at_call 53;refine H.mono ?_;rintro e Q ⟨J,I,r,rfl,G,x⟩;have t6:=za9 P x E;rw [(i _).1];have X:=zbF (ranL L inp (n:Int)) (.slice J I r) (ranL L inp (n:Int)).line;have U:=zcs (ranL L inp (n:Int)) J I r (ranL L inp (n:Int)).line;generalize hds:zaH (ranL L inp (n:Int)) (.slice J I r) (ranL L inp (n:Int)).line=ds at X U;have hi:=zcv ds X;have ht:Q.there pr 0 ds.toArray.size:=(by rw [show ds.toArray.size=30 by simp [X]];exact t6))
   | (refine wpList_store_mid rfl 34 _ _ rfl pr 0 ds.toArray rfl rfl ht hi U ?_))
  have y:=a.trans (x.mono a.size);have A:Hid (zxY w pr L inp (.returned (.tuple #[])) (Q.setCells pr 0 ds)):=.inr ⟨(n:Int),q,rfl,⟨F,R,K⟩,Q,J,I,r,by rw [hds],y,zbR (by rw [←(i (.slice J I r)).2];exact G) a.size⟩;exact bodyPost_end (results_none rfl _ _ _) rfl A.out
theorem zo9(W:List Kn)(h:W≠[]):∃ k ys,(k :: ys).Perm W∧∀ y∈ys,keyK k≤keyK y:=by
 induction W with
 | nil=>exact absurd rfl h
 | cons a r ih =>
  by_cases f:r=[]
  ·subst f;exact⟨a,[],List.Perm.refl _,fun y hy=>by cases hy⟩
  ·obtain⟨k,ys,d,c⟩:=ih f;by_cases b:keyK a≤keyK k
   ·refine⟨a,r,List.Perm.refl _,fun y hy=>?_⟩;rcases List.mem_cons.1 (d.mem_iff.2 hy) with e|e
    ·rw [e];exact b
    ·have:=c y e;omega
   ·refine⟨k,a :: ys,(List.Perm.swap a k ys).trans (List.Perm.cons a d),fun y hy=>?_⟩;rcases List.mem_cons.1 hy with e|e
    ·rw [e];omega
    ·exact c y e
theorem zrO{W:List Kn}(n:Nat){k:Kn}{ys:List Kn}(h:TakeR W k ys)(hn:ys.length≤n):∃ k' ys',TakeD W k' ys':=by
 induction n generalizing k ys with
 | zero =>
  have e:ys=[]:=List.length_eq_zero_iff.1 (by omega);exact⟨k,ys,h,fun y c=>by rw [e] at c;cases c⟩
 | succ n ih =>
  by_cases d:∃ y∈ys,Meet y k
  ·obtain⟨y,c,d⟩:=d;obtain⟨a,b,rfl⟩:=List.append_of_mem c;refine ih (.more h (List.perm_middle (l₁:=a) (a:=y) (l₂:=b)).symm d) ?_;simp only [List.length_append,List.length_cons] at hn ⊢;omega
  ·exact⟨k,ys,h,fun y c hM=>d ⟨y,c,hM⟩⟩
theorem zrP{C:List (Ins × Int)}(S:CodeSure C)(n:Nat){G:Gs}(h:Reach C G)(hn:500000-G.looks≤n):∃ v,Verd C v:=by
 induction n generalizing G with
 | zero =>
  by_cases a:G.W=[]
  ·exact⟨some (G.bs,G.bf),G,h,a,rfl,rfl⟩
  ·exact⟨none,G,h,a,.inl (by omega)⟩
 | succ n ih =>
  by_cases a:G.W=[]
  ·exact⟨some (G.bs,G.bf),G,h,a,rfl,rfl⟩
  ·by_cases l:500000≤G.looks
   ·exact⟨none,G,h,a,.inl l⟩
   ·by_cases m:1000<G.W.length
    ·exact⟨none,G,h,a,.inr (.inl m)⟩
    ·obtain⟨k0,i,g,f⟩:=zo9 G.W a;obtain⟨k,e,d⟩:=zrO i.length (.one g f) (Nat.le_refl _);have ok:=(h.t S).ok;obtain⟨K,_,_,_⟩:=d.1.kn S.ok.few ok.kn;obtain⟨p,c,b⟩:=K.next;by_cases j:k.steps=100000
     ·exact⟨none,G,h,a,.inr (.inr ⟨k,e,d,.inl j⟩)⟩
     ·cases hR:G.R.endless k with
      | none=>exact⟨none,G,h,a,.inr (.inr ⟨k,e,d,.inr (.inl hR)⟩)⟩
      | some R' =>
       cases hL:zam C[p].1 k with
       | none=>exact⟨none,G,h,a,.inr (.inr ⟨k,e,d,.inr (.inr ⟨p,b,c,hL⟩)⟩)⟩
       | some ks =>
        exact ih (G:=⟨e++ks,G.looks+1,R',k.steps+1,max G.bf ((k.behind.length:Int)+1)⟩) (.step h ⟨k,e,ks,p,b,by omega,by omega,d,j,hR,c,hL,List.Perm.refl _,rfl,rfl,rfl⟩) (by show 500000-(G.looks+1)≤n;omega)
theorem zjg{L:List Said}{F:List FnM}(R:Right L F):∃ v,VerdL L v:=by
 obtain⟨v,a⟩:=zrP R.sure 500000 (.zero) (by omega);exact⟨v,F,R,a⟩
def toIt(k:Key):It:=⟨k.sort,k.line,k.word,k.nm,k.a,k.b,k.c,k.n⟩
def zzj(f:Fn):FnM:=⟨f.name,f.line,f.body.map toIt,undef,0⟩
theorem zxl(l:List Fn):(l.map zzj).map FnM.fn=l:=by
 rw [List.map_map];have:(FnM.fn∘zzj)=id:=funext fun f=>by
  show(⟨f.name,f.line,(f.body.map toIt).map It.key⟩:Fn)=f;rw [List.map_map,show(It.key∘toIt)=id from funext fun k=>rfl,List.map_id]
 rw [this,List.map_id]
theorem zxm(F:List Fn)(k:Key):F.length≤(addK F k).length:=by
 unfold addK;split
 ·rw [List.length_append];omega
 ·cases h:F.getLast? with
  | none=>exact Nat.le_refl _
  | some f =>
   have:F≠[]:=fun e=>by rw [e] at h;cases h
   simp only [List.length_append,List.length_dropLast,List.length_singleton];have:=List.length_pos_iff.2 this;omega
theorem zj8(K:List Key)(F:List Fn):F.length≤(K.foldl addK F).length:=by
 induction K generalizing F with
 | nil=>exact Nat.le_refl _
 | cons k r ih=>exact Nat.le_trans (zxm F k) (ih _)
theorem zed(s:ByteArray)(h:zcm s=(0,0)):∃ F,Right ((lines s).map say) F:=by
 have a:=ztd s h;unfold zcm at h;by_cases g:4000<s.size∨300<(lines s).length
 ·rw [if_pos g] at h;exact absurd (congrArg Prod.fst h) (by decide)
 ·rw [if_neg g] at h;by_cases c:∀ x∈lines s,(say x).ok=true
  ·rw [zeG _ c 0,zeF _ c] at h;have b:=zk0 (lines s);generalize zaU (lines s) (lines s).length=K at h b;cases K with
   | nil=>exact absurd (congrArg Prod.fst h) (by decide)
   | cons k r =>
    unfold sayK at h;dsimp only at h;by_cases d:k.sort=0
    ·have e:=znR _ 0 k r b.symm d;refine⟨(zaN ((lines s).map say) 0).map zzj,a,zi1 _ 0 k r b.symm d,zxl _,?_⟩;rw [List.length_map,←e];have i:0<(addK [] k).length:=by unfold addK;rw [if_pos d];simp
     exact Nat.lt_of_lt_of_le i (zj8 r _)
    ·rw [if_neg d] at h;exact absurd (congrArg Prod.fst h) (show ¬(2:Int)=0 by decide)
  ·exfalso;have:∃ x∈lines s,¬(say x).ok=true:=by
    refine Classical.byContradiction fun hn=>c fun x f=>?_;refine Classical.byContradiction fun hx'=>hn ⟨x,f,hx'⟩
   obtain⟨x,f,l⟩:=this;obtain⟨j,m,rfl⟩:=List.mem_iff_getElem.1 f;exact zkG (lines s) 0 j m (by omega) (by simpa using l) h
def VerS(s:ByteArray)(bs bf er ln:Int):Prop:=(¬zcm s=(0,0)∧zcm s=(er,ln)∧bs=0∧bf=0)∨(zcm s=(0,0)∧VerdL ((lines s).map say) none∧bs=0∧bf=0∧er=8∧ln=0)∨(zcm s=(0,0)∧VerdL ((lines s).map say) (some (bs,bf))∧er=0∧ln=0)
theorem VerS.unique{s:ByteArray}{a b c d a' b' c' d':Int}(h:VerS s a b c d)(h':VerS s a' b' c' d'):a=a'∧b=b'∧c=c'∧d=d':=by
 rcases h with ⟨n,r,m,o⟩|⟨r,v,m,o,p,q⟩|⟨r,v,p,q⟩ <;> rcases h' with ⟨l,e,g,i⟩|⟨e,f,g,i,j,k⟩|⟨e,f,j,k⟩
 ·rw [r] at e;cases e;exact⟨by omega,by omega,rfl,rfl⟩
 ·exact absurd e n
 ·exact absurd e n
 ·exact absurd r l
 ·exact⟨by omega,by omega,by omega,by omega⟩
 ·have:=v.unique f;cases this
 ·exact absurd r l
 ·have:=v.unique f;cases this
 ·have:=v.unique f;cases this;exact⟨rfl,rfl,by omega,by omega⟩
theorem zoA(s:ByteArray)(w:World)(hw:LibW w)(hs:s.size≤9223372036854775807):Calls Tryz.prog 26 #[.string s] w fun e w'=>∃ bs bf er ln,VerS s bs bf er ln∧zpI w bs bf er ln e w':=by
 have g:=zjf w s;have d:=zeJ (VfW w s);have q:Below w.heap.size w (OutW (VfW w s)):=g.trans (d.mono g.size);have i:=hw.below q;have hsz:=zkW w s;obtain⟨u,r,t,z⟩:=zu8 w s;have l:(OutW (VfW w s)).cell? ⟨w.heap.size,0,none⟩=some (.string s):=(World.cell?_of_block (a:=⟨w.heap.size,0,none⟩) (d.block _ (by show w.heap.size<_;rw [hsz];omega))).trans u;have o:(OutW (VfW w s)).cell? ⟨w.heap.size+1,0,none⟩=some (.int .i64 0):=(World.cell?_of_block (a:=⟨w.heap.size+1,0,none⟩) (d.block _ (by show w.heap.size+1<_;rw [hsz];omega))).trans r;have p:(OutW (VfW w s)).cell? ⟨w.heap.size+1,1,none⟩=some (.int .i64 0):=(World.cell?_of_block (a:=⟨w.heap.size+1,1,none⟩) (d.block _ (by show w.heap.size+1<_;rw [hsz];omega))).trans t;have x:∀ j,(OutW (VfW w s)).frozen? ⟨w.heap.size+1,j,none⟩=false:=fun j=>(World.frozen?_of_block (a:=⟨w.heap.size+1,j,none⟩) (d.block _ (by show w.heap.size+1<_;rw [hsz];omega))).trans (z j);by_cases f:zcm s=(0,0)
 ·have n:=zu7 _ i w.heap.size (w.heap.size+1) s l _ (zp2 s f) o p x;by_cases m:VerdL ((lines s).map say) none
  ·refine(ze2 w s 8 0 (n.mono ?_)).mono fun e w' h=>⟨0,0,8,0,.inr (.inl ⟨f,m,rfl,rfl,rfl,rfl⟩),h⟩
   rintro e w' (⟨rfl,_,hb⟩|⟨bs,bf,_,c,_⟩)
   ·exact⟨rfl,hb⟩
   ·have:=m.unique c;cases this
  ·by_cases k:∃ b,VerdL ((lines s).map say) (some b)
   ·obtain⟨⟨bs,bf⟩,k⟩:=k;refine(zrN w s bs bf (n.mono ?_)).mono fun e w' h=>⟨bs,bf,0,0,.inr (.inr ⟨f,k,rfl,rfl⟩),h⟩
    rintro e w' (⟨_,c,_⟩|⟨bs2,bf2,rfl,c,w1,hb,rfl⟩)
    ·exact absurd c m
    ·have:=k.unique c;cases this;exact⟨rfl,w1,hb,rfl⟩
   ·exfalso;obtain⟨F,R⟩:=zed s f;obtain⟨v,c⟩:=zjg R;cases v with
    | none=>exact m c
    | some b=>exact k ⟨b,c⟩
 ·have n:=zxk _ i w.heap.size (w.heap.size+1) s l (zcm s) f (ziy s hs);exact(ze2 w s _ _ n).mono fun e w' h=>⟨0,0,(zcm s).1,(zcm s).2,.inl ⟨f,rfl,rfl,rfl⟩,h⟩
end
end Go.Proofs.YtfpgjkbjbbgciaaGreatDoor
