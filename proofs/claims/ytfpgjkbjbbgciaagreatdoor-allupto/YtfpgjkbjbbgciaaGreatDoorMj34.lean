import Derived.Test.YtfpgjkbjbbgciaaGreatDoorMj28
import Derived.Test.YtfpgjkbjbbgciaaGreatDoorMj31
import Derived.Test.YtfpgjkbjbbgciaaGreatDoorMj33
set_option maxRecDepth 100000
set_option maxHeartbeats 8000000
namespace Go.Proofs.YtfpgjkbjbbgciaaGreatDoor
section
open Go.RowKit Sp
theorem zqO(n:Int)(w:World)(h:n<0∨100000<n):qC 51 #[.int .i64 n] w fun e w'=>e=zak 7 0∧w'=w:=by
 by_cases h0:n<0
 ·go_enter Tryz.func51,Tryz.ntmps51;go_wp2_with(first|(go_at_call 79;refine(za1 _ _ _).mono ?_;rintro e c ⟨rfl,a⟩;have b:=a.symm;subst b))
  exact⟨rfl,rfl,rfl⟩
 ·have h1:100000<n:=by omega
  go_enter Tryz.func51,Tryz.ntmps51;go_wp2_with(first|(go_at_call 79;refine(za1 _ _ _).mono ?_;rintro e c ⟨rfl,a⟩;have b:=a.symm;subst b))
  exact⟨rfl,rfl,rfl⟩
theorem znG(n:Int)(w:World)(h0:0≤n)(h1:n≤100000):qC 51 #[.int .i64 n] w fun e w'=>e=.returned (.tuple #[])∧w'=w:=by
 go_enter Tryz.func51,Tryz.ntmps51;go_wp2
 go_end0
 exact⟨rfl,rfl⟩
end
section
open Go.ChangeShapes Go.WideShapes Go.ChangeAt Go.RowKit Sp
open Go.ChangeMaps (open_string shut_string)
end
section
open Go.RowKit Sp
theorem zu3(r o:Rg)(w:World)(hr:r.Ok)(ho:o.Ok):qC 245 #[rv r,rv o] w (qR w (rv (r.times o))):=by
 obtain⟨a,b⟩:=r;obtain⟨c,d⟩:=o;by_cases e:a=b
 ·subst e;by_cases f:c=d
  ·exact zu2 _ _ w rfl f
  ·exact zzS a a c d w hr ho (.inr ⟨by simp,by simpa using f⟩)
 ·exact zzS a b c d w hr ho (.inl (by simpa using e))
theorem zwZ:Tryz.prog.built 217 []=some (zbj (.slice none 0 0) kn0).toArray:=by kernel_rfl
theorem zuK(w:World):KnM (w.alloc (.cells (zbj (.slice none 0 0) kn0).toArray 217)) w.heap.size (.slice none 0 0) kn0:=by
 have b:=zee w (zbj (.slice none 0 0) kn0) 217;refine(ziL (o:=0) fun j hj=>?_).whole (fun j=>by simp);have a:j<(zbj (.slice none 0 0) kn0).length:=by rw [zdF];exact hj
 exact(b j _ (List.getElem?_eq_getElem a)).trans (List.getElem?_eq_getElem a).symm
theorem zoq(w:World):qC 113 #[] w fun e w'=>e=.returned (.pointer (some ⟨w.heap.size,0,none⟩))∧KnM w' w.heap.size (.slice none 0 0) kn0∧qB w w'∧w'.heap.size=w.heap.size+1:=by
 have b:=zwZ;have a:=zuK w;generalize zbj (.slice none 0 0) kn0=ds at b a;go_enter Tryz.func113,Tryz.ntmps113;go_wp2_with(first
  | (refine wpList_build rfl 217 _ rfl ?_ ?_
     ·simp [b]
     simp only [List.map_toArray,List.map_nil,Act.eval];refine Hid.out ?_))
 unfold Hid
 erw [b]
 simp only [Option.getD_some,Act.put,q1];go_wp2_with(first|(refine Go.Great.wpList_boxTo rfl 217 _ rfl _ rfl w.heap.size rfl ds.toArray rfl ?_))
 go_ret;exact⟨rfl,a,(Below.refl _ _).alloc (Nat.le_refl _) _,by simp⟩
theorem znY{w:World}{ao:Option Addr}{cap:Nat}:qC 169 #[.slice ao 0 cap,.int .i64 0] w (qR w (.int .i64 0)):=by
 go_enter Tryz.func169,Tryz.ntmps169;go_wp2
 go_loopw [5,6] (fun tl tb wr=>tl=.int .i64 0∧tb=.int .i64 1∧qB w wr) (fun _ _ _=>0)
 case atStart=>exact⟨rfl,rfl,Below.refl _ _⟩
 case round =>
  obtain⟨rfl,rfl,a⟩:=hrel;go_wp2;go_ret;exact⟨rfl,a⟩
theorem zrp{w:World}{ao:Option Addr}{cap:Nat}:qC 154 #[.slice ao 0 cap,.int .i64 0] w (qR w (.tuple #[])):=by
 go_enter Tryz.func154,Tryz.ntmps154;go_wp2
 go_loopw [1] (fun ti wr=>ti=.int .i64 0∧qB w wr) (fun _ _=>0)
 case atStart=>exact⟨rfl,Below.refl _ _⟩
 case round =>
  obtain⟨rfl,b⟩:=hrel;go_wp2_with(go_at_call 169;(with_reducible refine znY.mono ?_);rintro e wx ⟨rfl,a⟩)
  refine bodyPost_ret (results_none rfl _ _ _) rfl ⟨rfl,b.trans (a.mono b.size)⟩
theorem zwG{w:World}{H C cap n:Nat}{xs:List Wy}(h:HpM w H C xs)(hl:xs.length=n)(a:Nat)(ha:a<n)(hn:n≤100000)(hR:SinkI (stp xs) n a):qC 154 #[.slice (some ⟨H,0,none⟩) n cap,.int .i64 (a:Int)] w (zkO w H C xs):=by
 have y:∃ b:List Wy,b.Perm xs∧HpM w H C b∧SinkI (stp b) n a∧w.grownBy w (some H):=⟨xs,List.Perm.refl _,h,hR,⟨rfl,rfl,rfl,Nat.le_refl _,fun _ _ _=>rfl⟩⟩
 have D:Hid (xs.length=n):=hl;clear hl h hR;go_enter Tryz.func154,Tryz.ntmps154;go_wp2
 go_loopw [1] (fun ti wr=>∃ a:Nat,ti=.int .i64 (a:Int)∧a<n∧∃ b:List Wy,b.Perm xs∧HpM wr H C b∧SinkI (stp b) n a∧w.grownBy wr (some H)) (fun ti _=>n-(intOf ti).toNat)
 case atStart=>exact⟨a,rfl,ha,y⟩
 case round =>
  obtain⟨a,rfl,ha,b,t,g,hR,z⟩:=hrel;clear y;have hl:b.length=n:=t.length_eq.trans D.out;have i:=zuq (cap:=cap) g a (by omega) (by omega);rw [hl] at i;go_wp2_with(go_at_call 169;(with_reducible refine i.mono ?_);rintro e wx ⟨m,rfl,f,v,B,u,o,q⟩)
  ·have j:((m:Int) == (a:Int))=true:=by assumption
   have E:(m:Int)=(a:Int):=by simpa using j
   obtain rfl:m=a:=by omega
   rw [hl] at o q;exact bodyPost_ret (results_none rfl _ _ _) rfl ⟨rfl,b,t,g.below f,by rw [hl];exact hR.done o q,zag z (zaV f)⟩
  ·have j:((m:Int) == (a:Int))=false:=by assumption
   have E:¬(m:Int)=(a:Int):=by simpa using j
   have p:¬a=m:=by omega
   have d:a<b.length:=by omega
   have c:m<b.length:=v;have A:=((g.below f).at' d).1;have F:=((g.below f).at' c).1;have z1:=(g.below f).fz a;have z2:=(g.below f).fz m;have l:=(g.below f).swap d c p;rw [hl] at o q;have s:SinkI (stp (ze3 wy0 b a m)) n m:=by
    have e:stp (ze3 wy0 b a m)=znU (stp b) a m:=zul d c p (fun x=>keyK x.k);rw [e];exact hR.step (by omega) (by omega) u o q
   have a0:(0:Int)≤(a:Int):=by omega
   have a1:(a:Int)<(n:Int):=by omega
   have q0:(0:Int)≤(m:Int):=by omega
   have q1:(m:Int)<(n:Int):=by omega
   have hmm:a<m:=by omega
   have r:m<n:=by omega
   generalize b.getD a wy0=xa at A l;generalize b.getD m wy0=xm at F l;clear v B u o q i
   go_region
   all_goals go_wp2
   all_goals exact⟨⟨m,rfl,r,ze3 wy0 b a m,(zgU d c).trans t,l.drew,s,zb6 (zag z (zag (zac f) (zac (Below.refl _ _))))⟩,by simp [intOf];omega⟩
structure LdM(w wr:World)(b F:Nat)(bv:Value)(k:Kn)(f:Rg):Prop where
 kn:KnM wr b bv k
 lo:wr.cell? ⟨F,0,none⟩=some (.int .i64 f.lo)
 hi:wr.cell? ⟨F,1,none⟩=some (.int .i64 f.hi)
 fF:∀ j,wr.frozen? ⟨F,j,none⟩=false
 r0:∃ x,wr.cell? ⟨w.heap.size+1,0,none⟩=some x
 r1:∃ x,wr.cell? ⟨w.heap.size+1,1,none⟩=some x
 rz:∀ j,wr.frozen? ⟨w.heap.size+1,j,none⟩=false
 low:qB w wr
 ltF:F<wr.heap.size
 ne1:b<F
 ne2:w.heap.size+1<F
theorem LdM.below{w wr wy:World}{b F:Nat}{bv:Value}{k:Kn}{f:Rg}(L:LdM w wr b F bv k f)(hb:qB wr wy):LdM w wy b F bv k f:=by
 have c:∀ q j,q<wr.heap.size→wy.cell? ⟨q,j,none⟩=wr.cell? ⟨q,j,none⟩:=fun q j hq=>World.cell?_of_block (w:=wr) (a:=⟨q,j,none⟩) (hb.block q hq);have z:∀ q j,q<wr.heap.size→wy.frozen? ⟨q,j,none⟩=wr.frozen? ⟨q,j,none⟩:=fun q j hq=>World.frozen?_of_block (w:=wr) (a:=⟨q,j,none⟩) (hb.block q hq);have d:=L.ltF;have g:=L.ne2;have hs:=hb.size;obtain⟨h,i⟩:=L.r0;obtain⟨l,e⟩:=L.r1;have m:w.heap.size≤wr.heap.size:=L.low.size;exact⟨L.kn.below hb L.kn.lt,(c _ _ d).trans L.lo,(c _ _ d).trans L.hi,fun j=>(z _ _ d).trans (L.fF j),⟨h,(c _ _ (by omega)).trans i⟩,⟨l,(c _ _ (by omega)).trans e⟩,fun j=>(z _ _ (by omega)).trans (L.rz j),L.low.trans (hb.mono m),by omega,L.ne1,g⟩
theorem LdM.store{w wr:World}{b F:Nat}{bv:Value}{k:Kn}{f:Rg}(L:LdM w wr b F bv k f)(g:Rg):LdM w ((wr.setCell ⟨F,0,none⟩ (.int .i64 g.lo)).setCell ⟨F,1,none⟩ (.int .i64 g.hi)) b F bv k g:=by
 have d:Below F wr ((wr.setCell ⟨F,0,none⟩ (.int .i64 g.lo)).setCell ⟨F,1,none⟩ (.int .i64 g.hi)):=za4 (Below.refl F wr) (Nat.le_refl _);have c:∀ q j,q<F→((wr.setCell ⟨F,0,none⟩ (.int .i64 g.lo)).setCell ⟨F,1,none⟩ (.int .i64 g.hi)).cell? ⟨q,j,none⟩=wr.cell? ⟨q,j,none⟩:=fun q j hq=>World.cell?_of_block (w:=wr) (a:=⟨q,j,none⟩) (d.block q hq);have n:=L.ltF;have h:=L.ne2;obtain⟨i,l⟩:=L.r0;obtain⟨m,e⟩:=L.r1;exact⟨L.kn.below d L.ne1,(zay L.lo L.hi).1,(zay L.lo L.hi).2,fun j=>zbP _ _ _ j _ (zbP _ _ _ j _ (L.fF j)),⟨i,(c _ _ (by omega)).trans l⟩,⟨m,(c _ _ (by omega)).trans e⟩,fun j=>(World.frozen?_of_block (w:=wr) (a:=⟨w.heap.size+1,j,none⟩) (d.block _ (by omega))).trans (L.rz j),L.low.trans (d.mono (by omega)),by rw [World.size_setCell,World.size_setCell];exact n,L.ne1,h⟩
theorem zr1{w:World}{b:Nat}{bv:Value}{k:Kn}(h:KnM w b bv k)(a n:Nat)(hn:a<15)(ha:a+n≤15):qC 254 #[.pointer (some ⟨b,0,none⟩),rv ⟨(a:Int),((a:Int)+(n:Int))⟩] w (qR w (rv (zc4 k.cells a n))):=by
 have hlt:=h.lt;have y:∀(W:World),KnM W b bv k→qC 255 #[.pointer (some ⟨b,0,none⟩),rv ⟨(a:Int),((a:Int)+(n:Int))⟩] W (qR W (.slice (some ⟨b,16+a*2,none⟩) (n+1) (16-a))):=fun W hW=>by
  have t:=ze2 hW ⟨(a:Int),((a:Int)+(n:Int))⟩ ⟨⟨by show _≤(a:Int);omega,by show(a:Int)≤_;omega⟩,⟨by show _≤((a:Int)+(n:Int));omega,by show((a:Int)+(n:Int))≤_;omega⟩,by show(a:Int)≤((a:Int)+(n:Int));omega⟩ (by show(0:Int)≤(a:Int);omega) (by show((a:Int)+(n:Int))≤15;omega);have e1:((a:Int)+(n:Int)+1).toNat=a+n+1:=by omega
  have x:((a:Nat):Int).toNat=a:=by omega
  have K:a+n+1-a=n+1:=by omega
  simp only [e1,x,K] at t;exact t
 have m1:¬(16-a=1):=by omega
 go_enter Tryz.func254,Tryz.ntmps254;go_wp2_with(go_at_call 255;(with_reducible refine(y _ ((h.alloc _).alloc _)).mono ?_);rintro e i ⟨rfl,d⟩;have o:KnM i b bv k:=((h.alloc _).alloc _).below d (by simp;omega);have M:=(o.cC a (by omega)).1;have C:=(o.cC a (by omega)).2)
 have A:LdM w (i.alloc (.cells #[.int .i64 (k.cells a).lo,.int .i64 (k.cells a).hi] 213)) b i.heap.size bv k (k.cells a):=by
  have z:=d.size;have x:((w.alloc (.cells #[.int .i64 (a:Int),.int .i64 ((a:Int)+(n:Int))] 213)).alloc (.cells #[.int .i64 0,.int .i64 0] 213)).heap.size=w.heap.size+1+1:=by simp
  rw [x] at z d;have g:Below (w.heap.size+1+1) _ (i.alloc (.cells #[.int .i64 (k.cells a).lo,.int .i64 (k.cells a).hi] 213)):=d.alloc z _;have v:∀ j,(i.alloc (.cells #[.int .i64 (k.cells a).lo,.int .i64 (k.cells a).hi] 213)).cell? ⟨w.heap.size+1,j,none⟩=(#[.int .i64 0,.int .i64 0]:Array Value)[j]?:=fun j=>by
   have e:=World.cell?_of_block (a:=⟨w.heap.size+1,j,none⟩) (g.block (w.heap.size+1) (by omega));rw [e];have:=World.cell?_alloc_new (w:=w.alloc (.cells #[.int .i64 (a:Int),.int .i64 ((a:Int)+(n:Int))] 213)) #[.int .i64 0,.int .i64 0] 213 j;rw [World.size_alloc] at this;exact this
  refine⟨o.alloc _,World.cell?_alloc_new _ _ _ 0,World.cell?_alloc_new _ _ _ 1,fun j=>World.frozen?_alloc_at _ _ _ _ (by simp),⟨_,v 0⟩,⟨_,v 1⟩,fun j=>?_,box2.trans (g.mono (by omega)),by simp,by omega,by omega⟩;have e:=World.frozen?_of_block (a:=⟨w.heap.size+1,j,none⟩) (g.block (w.heap.size+1) (by omega));rw [e];exact World.frozen?_alloc_at _ _ _ _ (by simp)
 clear d o M C y
 go_loopw [18] (fun ti wr=>∃ j:Nat,j≤n∧ti=.int .i64 (j:Int)∧LdM w wr b i.heap.size bv k (zc4 k.cells a j)) (fun ti _=>n-(intOf ti).toNat)
 case atStart=>exact⟨0,by omega,rfl,A⟩
 case round =>
  obtain⟨j,hj,rfl,L⟩:=hrel;by_cases hjn:j<n
  ·have q:=L.kn.cC (a+(j+1)) (by omega);rw [show 16+(a+(j+1))*2=16+a*2+2+j*2 by omega] at q;obtain⟨E,D⟩:=q;have hj0:(0:Int)≤(j:Int):=by omega
   have hj1:(j:Int)<(n:Int):=by omega
   have u:Hid (zc4 k.cells a (j+1)=(zc4 k.cells a j).or (k.cells (a+(j+1)))):=rfl;generalize k.cells (a+(j+1))=c at E D u;generalize zc4 k.cells a j=f at L u;have l:=L.below (box1 (a:=.cells #[.int .i64 c.lo,.int .i64 c.hi] 213));have H:=l.lo;have G:=l.hi;have z0:=l.fF 0;have z1:=l.fF 1;go_wp2_with(go_at_call 156;(with_reducible refine(zpu f c _).mono ?_);rintro e wy ⟨rfl,p⟩;have m:=l.below p;have g0:=m.lo;have g1:=m.hi;have J:=m.fF 0;have I:=m.fF 1)
   exact⟨⟨j+1,by omega,by go_num,by rw [u.out];exact m.store _⟩,by simp [intOf];omega⟩
  ·obtain rfl:j=n:=by omega
   have H:=L.lo;have G:=L.hi;obtain⟨x0,s⟩:=L.r0;obtain⟨x1,B⟩:=L.r1;have J:=L.rz 0;have I:=L.rz 1;have F:=L.low;clear L A;go_wp2;exact zbK (r:=zc4 k.cells a j) Tryz.results254 rfl rfl (zay s B).1 (zay s B).2 ⟨rfl,za4 F (by omega)⟩
end
section
open Sp
structure RsK where
 marked:List Kn
 steps:Int
 seen:Nat
 covers:Bool
def RsK.begin(R:RsK)(s:Int):RsK:=⟨if zcc s then [] else R.marked,s,0,true⟩
def RsK.see(R:RsK)(k:Kn):RsK :=
 ⟨if zcc R.steps then R.marked++[k] else R.marked,R.steps,R.seen+1,R.covers&&(!zcc R.steps&&(decide (R.seen<R.marked.length)&&zc5 k (R.marked.getD R.seen kn0)))⟩
def RsK.endless(R:RsK)(k:Kn):Option RsK :=
 if k.steps=R.steps then some (R.see k) else if R.covers&&decide (R.seen=R.marked.length) then none else some ((R.begin k.steps).see k)
def rsk0:RsK:=⟨[],0,0,false⟩
structure Gs where
 W:List Kn
 looks:Nat
 R:RsK
 bs:Int
 bf:Int
def gs0:Gs:=⟨[kn0],0,rsk0,0,0⟩
def Meet(y k:Kn):Prop:=y.next=k.next∧y.behind=k.behind∧y.steps=k.steps
inductive TakeR(W:List Kn):Kn→List Kn→Prop
 | one {k:Kn} {ys:List Kn}:(k :: ys).Perm W→(∀ y∈ys,keyK k≤keyK y)→TakeR W k ys
 | more {k y:Kn} {ys zs:List Kn}:TakeR W k ys→(y :: zs).Perm ys→Meet y k→TakeR W (zfJ k y) zs
def TakeD(W:List Kn)(k:Kn)(ys:List Kn):Prop:=TakeR W k ys∧∀ y∈ys,¬Meet y k
def Rd(C:List (Ins × Int))(G G':Gs):Prop:=∃(k:Kn) (ys ks:List Kn) (p:Nat) (hp:p<C.length),G.looks<500000∧G.W.length≤1000∧TakeD G.W k ys∧k.steps≠100000∧G.R.endless k=some G'.R∧k.next=(p:Int)∧za7 C[p].1 k=some ks∧G'.W.Perm (ys++ks)∧G'.looks=G.looks+1∧G'.bs=k.steps+1∧G'.bf=max G.bf ((k.behind.length:Int)+1)
def Rf(C:List (Ins × Int))(G:Gs):Prop:=G.W≠[]∧(500000≤G.looks∨1000<G.W.length∨∃(k:Kn) (ys:List Kn),TakeD G.W k ys∧(k.steps=100000∨G.R.endless k=none∨∃(p:Nat) (hp:p<C.length),k.next=(p:Int)∧za7 C[p].1 k=none))
structure KnIn(C:List (Ins × Int))(k:Kn):Prop where
 ok:KnOk k
 next:InC C.length k.next
 behind:∀ z∈k.behind,InC C.length z
 few:k.behind.length≤15
 s0:0≤k.steps
 s1:k.steps≤100000
theorem KnIn.key{C:List (Ins × Int)}{k:Kn}(h:KnIn C k)(hC:C.length≤300):KeyOk k:=by
 refine⟨?_,h.few,fun z hz=>?_⟩
 ·obtain⟨p,a,b⟩:=h.next;omega
 ·obtain⟨p,a,b⟩:=h.behind z hz;omega
structure GsOk(C:List (Ins × Int))(G:Gs):Prop where
 kn:∀ k∈G.W,KnIn C k
 few:G.W.length≤1002
 looks:G.looks≤500000
 mkd:G.R.marked.length≤G.looks
 seen:G.R.seen≤G.looks
 rs0:0≤G.R.steps
 rs1:G.R.steps≤100000
 bs0:0≤G.bs
 bs1:G.bs≤100000
 bf0:0≤G.bf
 bf1:G.bf≤16
theorem TakeR.kn{C:List (Ins × Int)}{W ys:List Kn}{k:Kn}(h:TakeR W k ys)(hC:C.length≤300)(hW:∀ x∈W,KnIn C x):KnIn C k∧(∀ y∈ys,KnIn C y)∧ys.length<W.length∧∀ y∈ys,k.steps≤y.steps:=by
 induction h with
 | one hp hl =>
  have b:=hp.length_eq;have e:=hW _ (hp.mem_iff.1 List.mem_cons_self);refine⟨e,fun y a=>hW _ (hp.mem_iff.1 (List.mem_cons_of_mem _ a)),?_,fun y a=>zup (e.key hC) ((hW y (hp.mem_iff.1 (List.mem_cons_of_mem _ a))).key hC) (hl y a)⟩;rw [List.length_cons] at b;omega
 | more h1 hp hm ih =>
  obtain⟨c,d,i3,f⟩:=ih;have b:=hp.length_eq;rw [List.length_cons] at b;have a:=d _ (hp.mem_iff.1 List.mem_cons_self);exact⟨⟨zy8 c.ok a.ok,c.next,c.behind,c.few,c.s0,c.s1⟩,fun y a=>d _ (hp.mem_iff.1 (List.mem_cons_of_mem _ a)),by omega,fun y a=>f y (hp.mem_iff.1 (List.mem_cons_of_mem _ a))⟩
theorem TakeR.tells{C:List (Ins × Int)}{W ys:List Kn}{k:Kn}{bs bf:Int}{inp:List Int}(h:TakeR W k ys)(T:ziD C W bs bf inp):ziD C (k :: ys) bs bf inp:=by
 induction h with
 | one hp hl=>exact zjY (fun x hx=>hp.mem_iff.2 hx) T
 | more h1 hp hm ih =>
  refine zrn hm.1 hm.2.1 hm.2.2 (fun x hx=>?_) ih;rcases List.mem_cons.1 hx with e|e
  ·exact .inl e
  ·rcases List.mem_cons.1 (hp.mem_iff.2 e) with e|e
   ·exact .inr (.inl e)
   ·exact .inr (.inr e)
theorem zrv{k:Kn}{l r:Nat}{f g:Rg→Rg→Option (Rg × Rg)}{z:Int}:(zbE k l r f g z).length≤2:=by
 unfold zbE;split <;> simp
theorem zm5{k:Kn}{i:Ins}{ks:List Kn}(h:za7 i k=some ks):ks.length≤2:=by
 have a:=fun(l r:Nat) (f g:Rg→Rg→Option (Rg × Rg)) (z:Int)=>zrv (k:=k) (l:=l) (r:=r) (f:=f) (g:=g) (z:=z);unfold za7 at h;split at h;all_goals(try split at h)
 all_goals first
  | (simp only [Option.some.injEq] at h;subst h;first|exact a _ _ _ _ _|simp)
  | cases h
theorem zm6{k:Kn}{l r:Nat}{f g:Rg→Rg→Option (Rg × Rg)}{z:Int}:∀ k'∈zbE k l r f g z,(k'.next=z∨k'.next=k.next+1)∧k'.behind=k.behind:=by
 intro k' a;unfold zbE at a;split at a
 ·rcases List.mem_cons.1 a with rfl|h
  ·exact⟨.inl rfl,rfl⟩
  ·rw [List.mem_singleton.1 h];exact⟨.inr rfl,rfl⟩
 ·rw [List.mem_singleton.1 a];exact⟨.inl rfl,rfl⟩
 ·rw [List.mem_singleton.1 a];exact⟨.inr rfl,rfl⟩
 ·rw [List.mem_singleton.1 a];exact⟨.inl rfl,rfl⟩
theorem zwL{N p:Nat}{k:Kn}{i:Ins}{ks:List Kn}(hn:k.next=(p:Int))(hl:ztq N p i)(hb:∀ z∈k.behind,InC N z)(hf:k.behind.length≤15)(h:za7 i k=some ks):∀ k'∈ks,InC N k'.next∧(∀ z∈k'.behind,InC N z)∧k'.behind.length≤15:=by
 have c:p+1<N→InC N (k.next+1):=fun h=>⟨p+1,by omega,h⟩
 have d:∀(f g:Nat→Rg) (z:Int),InC N z→∀ k'∈[({ k with regs:=f,cells:=g }:Kn).goTo z],InC N k'.next∧(∀ z∈k'.behind,InC N z)∧k'.behind.length≤15:=fun f g z hz k' a=>by
  rw [List.mem_singleton.1 a];exact⟨hz,hb,hf⟩
 cases i with
 | set r n=>simp only [za7,Option.some.injEq] at h;subst h;exact d _ _ _ (c hl)
 | mov r s=>simp only [za7,Option.some.injEq] at h;subst h;exact d _ _ _ (c hl)
 | alu o r s t=>simp only [za7,Option.some.injEq] at h;subst h;exact d _ _ _ (c hl)
 | inc r n=>simp only [za7,Option.some.injEq] at h;subst h;exact d _ _ _ (c hl)
 | load r s =>
  simp only [za7] at h;split at h
  ·cases h
  ·simp only [Option.some.injEq] at h;subst h;exact d _ _ _ (c hl)
 | store r s =>
  simp only [za7] at h;split at h
  ·cases h
  ·simp only [Option.some.injEq] at h;subst h;exact d _ _ _ (c hl)
 | read r=>simp only [za7,Option.some.injEq] at h;subst h;exact d _ _ _ (c hl)
 | write r=>simp only [za7,Option.some.injEq] at h;subst h;exact d _ _ _ (c hl)
 | jump to=>simp only [za7,Option.some.injEq] at h;subst h;exact d _ _ _ hl
 | less r s to =>
  simp only [za7] at h;split at h
  ·simp only [Option.some.injEq] at h;subst h;exact d _ _ _ (c hl.2)
  ·simp only [Option.some.injEq] at h;subst h;intro k' a;obtain⟨e,m⟩:=zm6 k' a;rw [m];refine⟨?_,hb,hf⟩;rcases e with e|e <;> rw [e]
   ·exact hl.1
   ·exact c hl.2
 | same r s to =>
  simp only [za7] at h;split at h
  ·simp only [Option.some.injEq] at h;subst h;exact d _ _ _ hl.1
  ·simp only [Option.some.injEq] at h;subst h;intro k' a;obtain⟨e,m⟩:=zm6 k' a;rw [m];refine⟨?_,hb,hf⟩;rcases e with e|e <;> rw [e]
   ·exact hl.1
   ·exact c hl.2
 | call to =>
  simp only [za7] at h;split at h
  ·cases h
  ·simp only [Option.some.injEq] at h;subst h;intro k' a;rw [List.mem_singleton.1 a];refine⟨hl.1,fun z hz=>?_,?_⟩
   ·rcases List.mem_append.1 hz with e|e
    ·exact hb z e
    ·rw [List.mem_singleton.1 e];exact c hl.2
   ·show(k.behind++[k.next+1]).length≤15;rw [List.length_append];simp;omega
 | back =>
  simp only [za7] at h;cases hk:k.behind with
  | nil=>rw [hk] at h;simp only [Option.some.injEq] at h;subst h;intro k' a;cases a
  | cons b r =>
   rw [hk] at h;simp only [Option.some.injEq] at h;subst h;intro k' a;rw [List.mem_singleton.1 a];rw [hk] at hb hf;have j:(b :: r)≠[]:=by simp
   refine⟨hb _ ?_,fun z hz=>hb z (List.dropLast_subset _ hz),?_⟩
   ·show(b :: r).getLastD 0∈_;rw [List.getLastD_eq_getLast?,List.getLast?_eq_some_getLast j];exact List.getLast_mem j
   ·show(b :: r).dropLast.length≤15;rw [List.length_dropLast];omega
 | stop=>simp only [za7,Option.some.injEq] at h;subst h;intro k' a;cases a
theorem zp2{C:List (Ins × Int)}(S:CodeSure C){k:Kn}{ks:List Kn}{p:Nat}(hp:p<C.length)(hk:k.next=(p:Int))(K:KnIn C k)(hs:k.steps≠100000)(h:za7 C[p].1 k=some ks):∀ k'∈ks,KnIn C k':=by
 intro k' a;obtain⟨a1,d⟩:=zjX K.ok (S.ok.ok p hp) (S.n64 p hp) h k' a;obtain⟨e,b,c⟩:=zwL hk (S.ok.leads p hp) K.behind K.few h k' a;have:=K.s0;have:=K.s1;exact⟨d,e,b,c,by omega,by omega⟩
theorem RsK.see_ok{R:RsK}{k:Kn}{n:Nat}(h1:R.marked.length≤n)(h2:R.seen≤n):(R.see k).marked.length≤n+1∧(R.see k).seen≤n+1∧(R.see k).steps=R.steps:=by
 refine⟨?_,?_,rfl⟩
 ·show(if zcc R.steps then R.marked++[k] else R.marked).length≤_;split
  ·rw [List.length_append];simp;omega
  ·omega
 ·show R.seen+1≤_;omega
theorem RsK.begin_len(R:RsK)(s:Int):(R.begin s).marked.length≤R.marked.length:=by
 show(if zcc s then [] else R.marked).length≤_;split
 ·simp
 ·exact Nat.le_refl _
theorem RsK.endless_ok{R R':RsK}{k:Kn}{n:Nat}(h1:R.marked.length≤n)(h2:R.seen≤n)(h:R.endless k=some R'):R'.marked.length≤n+1∧R'.seen≤n+1∧R'.steps=k.steps:=by
 unfold RsK.endless at h;split at h
 ·rename_i e;cases h;obtain⟨a,b,c⟩:=RsK.see_ok (k:=k) h1 h2;exact⟨a,b,by rw [c,e]⟩
 ·split at h
  ·cases h
  ·cases h;obtain⟨a,b,c⟩:=RsK.see_ok (R:=R.begin k.steps) (k:=k) (n:=n) (Nat.le_trans (R.begin_len _) h1) (Nat.zero_le _);exact⟨a,b,c⟩
theorem zz7{C:List (Ins × Int)}(S:CodeSure C):GsOk C gs0:=by
 refine⟨fun k hk=>?_,by show 1≤1002;omega,by show 0≤500000;omega,Nat.le_refl _,Nat.le_refl _,Int.le_refl _,by show(0:Int)≤100000;omega,Int.le_refl _,by show(0:Int)≤100000;omega,Int.le_refl _,by show(0:Int)≤16;omega⟩;rw [List.mem_singleton.1 hk];have a:(only 0).Ok:=zi8 (by unfold i64;omega);exact⟨⟨fun _ _=>a,fun _ _=>a⟩,⟨0,rfl,S.ok.some_⟩,fun z hz=>(by cases hz),Nat.zero_le _,Int.le_refl _,by show(0:Int)≤100000;omega⟩
theorem zzO{C:List (Ins × Int)}(S:CodeSure C){G G':Gs}(h:GsOk C G)(r:Rd C G G'):GsOk C G':=by
 obtain⟨k,ys,ks,p,i,l1,l2,l,g,d,f,b,c,hL,hbs,hbf⟩:=r;obtain⟨K,j,hlen,_⟩:=l.1.kn S.ok.few h.kn;obtain⟨e1,e2,e3⟩:=RsK.endless_ok h.mkd h.seen d;have hll:=zm5 b;have a:=c.length_eq;rw [List.length_append] at a;have:=K.s0;have:=K.s1;have:=K.few;have:=h.bf0;have:=h.bf1;refine⟨fun x hx=>?_,by omega,by omega,by omega,by omega,by omega,by omega,by omega,by omega,by omega,by omega⟩;rcases List.mem_append.1 (c.mem_iff.1 hx) with e|e
 ·exact j x e
 ·exact zp2 S i f K g b x e
structure GsT(C:List (Ins × Int))(G:Gs):Prop where
 ok:GsOk C G
 tells:∀ inp:List Int,(∀ x∈inp,i64 x)→ziD C G.W G.bs G.bf inp
 low:∀ k∈G.W,G.bs≤k.steps+1
theorem zzP{C:List (Ins × Int)}(S:CodeSure C):GsT C gs0 :=
 ⟨zz7 S,fun inp hin=>znT S inp hin _ _,fun k hk=>by rw [List.mem_singleton.1 hk];show(0:Int)≤0+1;omega⟩
theorem rd_t{C:List (Ins × Int)}(S:CodeSure C){G G':Gs}(h:GsT C G)(r:Rd C G G'):GsT C G':=by
 refine⟨zzO S h.ok r,?_,?_⟩
 ·obtain⟨k,D,B,p,b,E,z,d,w,v,n,g,m,y,i,c⟩:=r;intro q s;obtain⟨K,u,a,j⟩:=d.1.kn S.ok.few h.ok.kn;clear j;have T:=d.1.tells (h.tells q s);have f:G.bs≤k.steps+1:=by
   have o:=d.1;clear m g v i c w n K u a T d
   induction o with
   | one b g=>exact h.low _ (b.mem_iff.1 List.mem_cons_self)
   | more h1 b hm ih=>exact ih
  rw [i,c];refine zjY (fun x l=>m.mem_iff.2 l) (zrl S b n K.ok f g (fun x l=>?_) T);rcases List.mem_cons.1 l with e|e
  ·exact .inl e
  ·exact .inr e
 ·obtain⟨k,D,B,p,b,E,z,d,w,v,n,g,m,y,i,c⟩:=r;obtain⟨K,u,a,t⟩:=d.1.kn S.ok.few h.ok.kn;intro x l;rw [i];rcases List.mem_append.1 (m.mem_iff.1 l) with e|e
  ·have:=t x e;omega
  ·have:=(zjX K.ok (S.ok.ok p b) (S.n64 p b) g x e).1;omega
theorem GsT.ends{C:List (Ins × Int)}{G:Gs}(h:GsT C G)(h0:G.W=[])(inp:List Int)(hin:∀ x∈inp,i64 x)(N:Nat)(hN:G.bs≤(N:Int)):
  ((runS (zcF C) N (zb0 inp)).fin=1∨(runS (zcF C) N (zb0 inp)).fin=2)∧(runS (zcF C) N (zb0 inp)).steps≤G.bs∧(runS (zcF C) N (zb0 inp)).peak≤G.bf:=by
 have T:=h.tells inp hin;rw [h0] at T;exact zui T N hN
end
section
open Go.RowKit Sp
theorem zu4{w:World}{b:Nat}{bv:Value}{k:Kn}(h:KnM w b bv k)(r:Nat)(hr:r<8)(s:Nat)(hs:s<8)(t:Nat)(ht:t<8)(h0:0≤k.steps)(h1:k.steps≤100000)(n0:0≤k.next)(n1:k.next≤100000):
  qC 233 #[.agg #[.int .i64 (r:Int),.int .i64 (s:Int),.int .i64 (t:Int)],.pointer (some ⟨b,0,none⟩)] w (zbe w b bv ({ k with regs:=updR k.regs r ((k.regs s).plus (k.regs t)) }.goTo (k.next+1))):=by
 have hlt:=h.lt;have r0:(0:Int)≤(r:Int):=by omega
 have r1:(r:Int)<8:=by omega
 have s0:(0:Int)≤(s:Int):=by omega
 have s1:(s:Int)<8:=by omega
 have t0:(0:Int)≤(t:Int):=by omega
 have t1:(t:Int)<8:=by omega
 obtain⟨A,f⟩:∃ A,w.alloc (.cells #[.int .i64 (r:Int),.int .i64 (s:Int),.int .i64 (t:Int)] 171)=A:=⟨_,rfl⟩
 have l:∀ W,qB A W→KnM W b bv k:=fun W a=>by subst f;exact(h.alloc _).below a (by simp;omega)
 have n:∀ W,qB A W→(W.cell? ⟨w.heap.size,0,none⟩=some (.int .i64 (r:Int))∧W.cell? ⟨w.heap.size,1,none⟩=some (.int .i64 (s:Int))∧W.cell? ⟨w.heap.size,2,none⟩=some (.int .i64 (t:Int)))∧(W.cell? ⟨b,s*2,none⟩=some (.int .i64 (k.regs s).lo)∧W.cell? ⟨b,s*2+1,none⟩=some (.int .i64 (k.regs s).hi))∧(W.cell? ⟨b,t*2,none⟩=some (.int .i64 (k.regs t).lo)∧W.cell? ⟨b,t*2+1,none⟩=some (.int .i64 (k.regs t).hi)):=fun W a=>⟨by subst f;exact⟨zaD a 0,zaD a 1,zaD a 2⟩,(l W a).cR s hs,(l W a).cR t ht⟩
 go_enter Tryz.func233,Tryz.ntmps233;go_wp2;refine zaf 20 (fun W=>qB A W) (Below.refl _ _).drew (by kernel_rfl) (by kernel_rfl) ?_;simp only [q2];repeat(refine zab rfl ?_ (fun W a=>?_) ?_;rotate_left 1;· (obtain⟨⟨v,u,x⟩,⟨B,z⟩,⟨q,C⟩⟩:=n W a;go_simp;with_reducible rfl))
 refine zaU rfl 234 #[rv (k.regs s),rv (k.regs t)] (rv ((k.regs s).plus (k.regs t))) (fun W a=>?_) (fun W a=>(zp3 _ _ W).mono (fun e w' hh=>⟨hh.1,a.trans (hh.2.mono a.size)⟩)) ?_
 ·go_simp
 repeat(refine zab rfl ?_ (fun W a=>?_) ?_;rotate_left 1;· (obtain⟨⟨v,u,x⟩,⟨B,z⟩,⟨q,C⟩⟩:=n W a;go_simp;with_reducible rfl))
 refine wpQuiet_nil ?_;intro W a;have c:=l W a;have c0:=(c.cR r hr).1;have c1:=(c.cR r hr).2;have z0:=c.fz (r*2);have z1:=c.fz (r*2+1);have i:=c.putR r hr ((k.regs s).plus (k.regs t));go_wp2_with(go_at_call 227;(with_reducible refine(zc0 i h0 h1 n0 n1).mono ?_);intro e w6 d;have m:=zeU (f▸a) d;clear d;obtain⟨g,rfl,y,p,o,j⟩:=m)
 go_ret;exact⟨g,rfl,y,p,o,j⟩
theorem zu5{w:World}{b:Nat}{bv:Value}{k:Kn}(h:KnM w b bv k)(K:KnOk k)(r:Nat)(hr:r<8)(s:Nat)(hs:s<8)(t:Nat)(ht:t<8)(h0:0≤k.steps)(h1:k.steps≤100000)(n0:0≤k.next)(n1:k.next≤100000):
  qC 244 #[.agg #[.int .i64 (r:Int),.int .i64 (s:Int),.int .i64 (t:Int)],.pointer (some ⟨b,0,none⟩)] w (zbe w b bv ({ k with regs:=updR k.regs r ((k.regs s).times (k.regs t)) }.goTo (k.next+1))):=by
 have hlt:=h.lt;have r0:(0:Int)≤(r:Int):=by omega
 have r1:(r:Int)<8:=by omega
 have s0:(0:Int)≤(s:Int):=by omega
 have s1:(s:Int)<8:=by omega
 have t0:(0:Int)≤(t:Int):=by omega
 have t1:(t:Int)<8:=by omega
 obtain⟨A,f⟩:∃ A,w.alloc (.cells #[.int .i64 (r:Int),.int .i64 (s:Int),.int .i64 (t:Int)] 173)=A:=⟨_,rfl⟩
 have l:∀ W,qB A W→KnM W b bv k:=fun W a=>by subst f;exact(h.alloc _).below a (by simp;omega)
 have n:∀ W,qB A W→(W.cell? ⟨w.heap.size,0,none⟩=some (.int .i64 (r:Int))∧W.cell? ⟨w.heap.size,1,none⟩=some (.int .i64 (s:Int))∧W.cell? ⟨w.heap.size,2,none⟩=some (.int .i64 (t:Int)))∧(W.cell? ⟨b,s*2,none⟩=some (.int .i64 (k.regs s).lo)∧W.cell? ⟨b,s*2+1,none⟩=some (.int .i64 (k.regs s).hi))∧(W.cell? ⟨b,t*2,none⟩=some (.int .i64 (k.regs t).lo)∧W.cell? ⟨b,t*2+1,none⟩=some (.int .i64 (k.regs t).hi)):=fun W a=>⟨by subst f;exact⟨zaD a 0,zaD a 1,zaD a 2⟩,(l W a).cR s hs,(l W a).cR t ht⟩
 go_enter Tryz.func244,Tryz.ntmps244;go_wp2;refine zaf 20 (fun W=>qB A W) (Below.refl _ _).drew (by kernel_rfl) (by kernel_rfl) ?_;simp only [q2];repeat(refine zab rfl ?_ (fun W a=>?_) ?_;rotate_left 1;· (obtain⟨⟨v,u,x⟩,⟨B,z⟩,⟨q,C⟩⟩:=n W a;go_simp;with_reducible rfl))
 refine zaU rfl 245 #[rv (k.regs s),rv (k.regs t)] (rv ((k.regs s).times (k.regs t))) (fun W a=>?_) (fun W a=>(zu3 _ _ W (K.regs s hs) (K.regs t ht)).mono (fun e w' hh=>⟨hh.1,a.trans (hh.2.mono a.size)⟩)) ?_
 ·go_simp
 repeat(refine zab rfl ?_ (fun W a=>?_) ?_;rotate_left 1;· (obtain⟨⟨v,u,x⟩,⟨B,z⟩,⟨q,C⟩⟩:=n W a;go_simp;with_reducible rfl))
 refine wpQuiet_nil ?_;intro W a;have c:=l W a;have c0:=(c.cR r hr).1;have c1:=(c.cR r hr).2;have z0:=c.fz (r*2);have z1:=c.fz (r*2+1);have i:=c.putR r hr ((k.regs s).times (k.regs t));go_wp2_with(go_at_call 227;(with_reducible refine(zc0 i h0 h1 n0 n1).mono ?_);intro e w6 d;have m:=zeU (f▸a) d;clear d;obtain⟨g,rfl,y,p,o,j⟩:=m)
 go_ret;exact⟨g,rfl,y,p,o,j⟩
theorem zu6{w:World}{b:Nat}{bv:Value}{k:Kn}(h:KnM w b bv k)(r:Nat)(hr:r<8)(n:Int)(h0:0≤k.steps)(h1:k.steps≤100000)(n0:0≤k.next)(n1:k.next≤100000):
  qC 250 #[.agg #[.int .i64 (r:Int),.int .i64 n],.pointer (some ⟨b,0,none⟩)] w (zbe w b bv ({ k with regs:=updR k.regs r ((k.regs r).plus (only n)) }.goTo (k.next+1))):=by
 have hlt:=h.lt;have r0:(0:Int)≤(r:Int):=by omega
 have r1:(r:Int)<8:=by omega
 obtain⟨A,j⟩:∃ A,w.alloc (.cells #[.int .i64 (r:Int),.int .i64 n] 174)=A:=⟨_,rfl⟩
 have t:∀ W,qB A W→KnM W b bv k:=fun W a=>by subst j;exact(h.alloc _).below a (by simp;omega)
 have l:∀ W,qB A W→(W.cell? ⟨w.heap.size,0,none⟩=some (.int .i64 (r:Int))∧W.cell? ⟨w.heap.size,1,none⟩=some (.int .i64 n))∧(W.cell? ⟨b,r*2,none⟩=some (.int .i64 (k.regs r).lo)∧W.cell? ⟨b,r*2+1,none⟩=some (.int .i64 (k.regs r).hi)):=fun W a=>⟨by subst j;exact⟨zaD a 0,zaD a 1⟩,(t W a).cR r hr⟩
 go_enter Tryz.func250,Tryz.ntmps250;go_wp2;refine zaf 16 (fun W=>qB A W) (Below.refl _ _).drew (by kernel_rfl) (by kernel_rfl) ?_;simp only [q2];repeat(refine zab rfl ?_ (fun W a=>?_) ?_;rotate_left 1;· (obtain⟨⟨q,o⟩,⟨s,p⟩⟩:=l W a;go_simp;with_reducible rfl))
 refine zaU rfl 226 #[.int .i64 n] (rv (only n)) (fun W a=>?_) (fun W a=>(zhB n W).mono (fun e w' hh=>⟨hh.1,a.trans (hh.2.mono a.size)⟩)) ?_
 ·go_simp
 repeat(refine zab rfl ?_ (fun W a=>?_) ?_;rotate_left 1;· (obtain⟨⟨q,o⟩,⟨s,p⟩⟩:=l W a;go_simp;with_reducible rfl))
 refine zaU rfl 234 #[rv (k.regs r),rv (only n)] (rv ((k.regs r).plus (only n))) (fun W a=>?_) (fun W a=>(zp3 _ _ W).mono (fun e w' hh=>⟨hh.1,a.trans (hh.2.mono a.size)⟩)) ?_
 ·go_simp
 repeat(refine zab rfl ?_ (fun W a=>?_) ?_;rotate_left 1;· (obtain⟨⟨q,o⟩,⟨s,p⟩⟩:=l W a;go_simp;with_reducible rfl))
 refine wpQuiet_nil ?_;intro W a;have c:=t W a;have c0:=(c.cR r hr).1;have c1:=(c.cR r hr).2;have z0:=c.fz (r*2);have z1:=c.fz (r*2+1);have f:=c.putR r hr ((k.regs r).plus (only n));go_wp2_with(go_at_call 227;(with_reducible refine(zc0 f h0 h1 n0 n1).mono ?_);intro e w6 d;have m:=zeU (j▸a) d;clear d;obtain⟨g,rfl,x,v,u,i⟩:=m)
 go_ret;exact⟨g,rfl,x,v,u,i⟩
theorem zr0{w:World}{b:Nat}{bv:Value}{k:Kn}(h:KnM w b bv k)(r:Nat)(hr:r<8)(h0:0≤k.steps)(h1:k.steps≤100000)(n0:0≤k.next)(n1:k.next≤100000):
  qC 260 #[.agg #[.int .i64 (r:Int)],.pointer (some ⟨b,0,none⟩)] w (zbe w b bv ({ k with regs:=updR k.regs r (anyR) }.goTo (k.next+1))):=by
 have hlt:=h.lt;have r0:(0:Int)≤(r:Int):=by omega
 have r1:(r:Int)<8:=by omega
 obtain⟨A,j⟩:∃ A,w.alloc (.cells #[.int .i64 (r:Int)] 180)=A:=⟨_,rfl⟩
 have s:∀ W,qB A W→KnM W b bv k:=fun W a=>by subst j;exact(h.alloc _).below a (by simp;omega)
 have m:∀ W,qB A W→(W.cell? ⟨w.heap.size,0,none⟩=some (.int .i64 (r:Int))):=fun W a=>(by subst j;exact zaD a 0)
 go_enter Tryz.func260,Tryz.ntmps260;go_wp2;refine zaf 6 (fun W=>qB A W) (Below.refl _ _).drew (by kernel_rfl) (by kernel_rfl) ?_;simp only [q2];repeat(refine zab rfl ?_ (fun W a=>?_) ?_;rotate_left 1;· (obtain p:=m W a;go_simp;with_reducible rfl))
 refine zaU rfl 238 #[] (rv anyR) (fun W a=>?_) (fun W a=>(zi9 W).mono (fun e w' hh=>⟨hh.1,a.trans (hh.2.mono a.size)⟩)) ?_
 ·go_simp
 repeat(refine zab rfl ?_ (fun W a=>?_) ?_;rotate_left 1;· (obtain p:=m W a;go_simp;with_reducible rfl))
 refine wpQuiet_nil ?_;intro W a;have c:=s W a;have c0:=(c.cR r hr).1;have c1:=(c.cR r hr).2;have z0:=c.fz (r*2);have z1:=c.fz (r*2+1);have f:=c.putR r hr (anyR);go_wp2_with(go_at_call 227;(with_reducible refine(zc0 f h0 h1 n0 n1).mono ?_);intro e w6 d;have l:=zeU (j▸a) d;clear d;obtain⟨g,rfl,q,o,n,i⟩:=l)
 go_ret;exact⟨g,rfl,q,o,n,i⟩
theorem zu7{w:World}{b:Nat}{bv:Value}{k:Kn}(h:KnM w b bv k)(r:Nat)(hr:r<8)(s:Nat)(hs:s<8)(h0:0≤k.steps)(h1:k.steps≤100000)(n0:0≤k.next)(n1:k.next≤100000):
  qC 231 #[.agg #[.int .i64 (r:Int),.int .i64 (s:Int)],.pointer (some ⟨b,0,none⟩)] w (zbe w b bv ({ k with regs:=updR k.regs r (k.regs s) }.goTo (k.next+1))):=by
 have hlt:=h.lt;have r0:(0:Int)≤(r:Int):=by omega
 have r1:(r:Int)<8:=by omega
 have s0:(0:Int)≤(s:Int):=by omega
 have s1:(s:Int)<8:=by omega
 obtain⟨A,j⟩:∃ A,w.alloc (.cells #[.int .i64 (r:Int),.int .i64 (s:Int)] 169)=A:=⟨_,rfl⟩
 have m:∀ W,qB A W→KnM W b bv k:=fun W a=>by subst j;exact(h.alloc _).below a (by simp;omega)
 have q:∀ W,qB A W→(W.cell? ⟨w.heap.size,0,none⟩=some (.int .i64 (r:Int))∧W.cell? ⟨w.heap.size,1,none⟩=some (.int .i64 (s:Int)))∧(W.cell? ⟨b,s*2,none⟩=some (.int .i64 (k.regs s).lo)∧W.cell? ⟨b,s*2+1,none⟩=some (.int .i64 (k.regs s).hi)):=fun W a=>⟨by subst j;exact⟨zaD a 0,zaD a 1⟩,(m W a).cR s hs⟩
 go_enter Tryz.func231,Tryz.ntmps231;go_wp2;refine zaf 12 (fun W=>qB A W) (Below.refl _ _).drew (by kernel_rfl) (by kernel_rfl) ?_;simp only [q2];repeat(refine zab rfl ?_ (fun W a=>?_) ?_;rotate_left 1;· (obtain⟨⟨f0,f1⟩,⟨gs,es⟩⟩:=q W a;go_simp;with_reducible rfl))
 refine wpQuiet_nil ?_;intro W a;have c:=m W a;have c0:=(c.cR r hr).1;have c1:=(c.cR r hr).2;have z0:=c.fz (r*2);have z1:=c.fz (r*2+1);have f:=c.putR r hr (k.regs s);go_wp2_with(go_at_call 227;(with_reducible refine(zc0 f h0 h1 n0 n1).mono ?_);intro e w6 d;have l:=zeU (j▸a) d;clear d;obtain⟨g,rfl,p,o,n,i⟩:=l)
 go_ret;exact⟨g,rfl,p,o,n,i⟩
end
end Go.Proofs.YtfpgjkbjbbgciaaGreatDoor
