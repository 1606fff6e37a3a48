import Derived.Test.YtfpgjkbjbbgciaaGreatDoorMk22
import Derived.Test.YtfpgjkbjbbgciaaGreatDoorMk25
set_option maxRecDepth 100000
set_option maxHeartbeats 8000000
namespace Go.Proofs.YtfpgjkbjbbgciaaGreatDoor
open Sp
structure RsK where
 marked:List Kn
 steps:Int
 seen:Nat
 covers:Bool
def RsK.begin(R:RsK)(s:Int):RsK:=⟨if zbn s then [] else R.marked,s,0,true⟩
def RsK.see(R:RsK)(k:Kn):RsK :=
 ⟨if zbn R.steps then R.marked++[k] else R.marked,R.steps,R.seen+1,R.covers&&(!zbn R.steps&&(decide (R.seen<R.marked.length)&&zb9 k (R.marked.getD R.seen kn0)))⟩
def RsK.endless(R:RsK)(k:Kn):Option RsK :=
 if k.steps=R.steps then some (R.see k) else if R.covers&&decide (R.seen=R.marked.length) then none else some ((R.begin k.steps).see k)
def rsk0:RsK:=⟨[],0,0,false⟩
structure Gs where
 W:List Kn
 looks:Nat
 R:RsK
 bs:Int
 bf:Int
def gs0:Gs:=⟨[kn0],0,rsk0,0,0⟩
def Meet(y k:Kn):Prop:=y.next=k.next∧y.behind=k.behind∧y.steps=k.steps
inductive TakeR(W:List Kn):Kn→List Kn→Prop
 | one {k:Kn} {ys:List Kn}:(k :: ys).Perm W→(∀ y∈ys,keyK k≤keyK y)→TakeR W k ys
 | more {k y:Kn} {ys zs:List Kn}:TakeR W k ys→(y :: zs).Perm ys→Meet y k→TakeR W (zf3 k y) zs
def TakeD(W:List Kn)(k:Kn)(ys:List Kn):Prop:=TakeR W k ys∧∀ y∈ys,¬Meet y k
def Rd(C:List (Ins × Int))(G G':Gs):Prop:=∃(k:Kn) (ys ks:List Kn) (p:Nat) (hp:p<C.length),G.looks<500000∧G.W.length≤1000∧TakeD G.W k ys∧k.steps≠100000∧G.R.endless k=some G'.R∧k.next=(p:Int)∧zam C[p].1 k=some ks∧G'.W.Perm (ys++ks)∧G'.looks=G.looks+1∧G'.bs=k.steps+1∧G'.bf=max G.bf ((k.behind.length:Int)+1)
def Rf(C:List (Ins × Int))(G:Gs):Prop:=G.W≠[]∧(500000≤G.looks∨1000<G.W.length∨∃(k:Kn) (ys:List Kn),TakeD G.W k ys∧(k.steps=100000∨G.R.endless k=none∨∃(p:Nat) (hp:p<C.length),k.next=(p:Int)∧zam C[p].1 k=none))
structure KnIn(C:List (Ins × Int))(k:Kn):Prop where
 ok:KnOk k
 next:InC C.length k.next
 behind:∀ z∈k.behind,InC C.length z
 few:k.behind.length≤15
 s0:0≤k.steps
 s1:k.steps≤100000
theorem KnIn.key{C:List (Ins × Int)}{k:Kn}(h:KnIn C k)(hC:C.length≤300):KeyOk k:=by
 refine⟨?_,h.few,fun z hz=>?_⟩
 ·obtain⟨p,b,a⟩:=h.next;omega
 ·obtain⟨p,b,a⟩:=h.behind z hz;omega
structure GsOk(C:List (Ins × Int))(G:Gs):Prop where
 kn:∀ k∈G.W,KnIn C k
 few:G.W.length≤1002
 looks:G.looks≤500000
 mkd:G.R.marked.length≤G.looks
 seen:G.R.seen≤G.looks
 rs0:0≤G.R.steps
 rs1:G.R.steps≤100000
 bs0:0≤G.bs
 bs1:G.bs≤100000
 bf0:0≤G.bf
 bf1:G.bf≤16
theorem TakeR.kn{C:List (Ins × Int)}{W ys:List Kn}{k:Kn}(h:TakeR W k ys)(hC:C.length≤300)(hW:∀ x∈W,KnIn C x):KnIn C k∧(∀ y∈ys,KnIn C y)∧ys.length<W.length∧∀ y∈ys,k.steps≤y.steps:=by
 induction h with
 | one hp hl =>
  have b:=hp.length_eq;have d:=hW _ (hp.mem_iff.1 List.mem_cons_self);refine⟨d,fun y a=>hW _ (hp.mem_iff.1 (List.mem_cons_of_mem _ a)),?_,fun y a=>ztW (d.key hC) ((hW y (hp.mem_iff.1 (List.mem_cons_of_mem _ a))).key hC) (hl y a)⟩;rw [List.length_cons] at b;omega
 | more h1 hp hm ih =>
  obtain⟨c,e,i3,f⟩:=ih;have b:=hp.length_eq;rw [List.length_cons] at b;have a:=e _ (hp.mem_iff.1 List.mem_cons_self);exact⟨⟨zyR c.ok a.ok,c.next,c.behind,c.few,c.s0,c.s1⟩,fun y a=>e _ (hp.mem_iff.1 (List.mem_cons_of_mem _ a)),by omega,fun y a=>f y (hp.mem_iff.1 (List.mem_cons_of_mem _ a))⟩
theorem TakeR.tells{C:List (Ins × Int)}{W ys:List Kn}{k:Kn}{bs bf:Int}{inp:List Int}(h:TakeR W k ys)(T:ziI C W bs bf inp):ziI C (k :: ys) bs bf inp:=by
 induction h with
 | one hp hl=>exact zkd (fun x hx=>hp.mem_iff.2 hx) T
 | more h1 hp hm ih =>
  refine zrk hm.1 hm.2.1 hm.2.2 (fun x hx=>?_) ih;rcases List.mem_cons.1 hx with e|e
  ·exact .inl e
  ·rcases List.mem_cons.1 (hp.mem_iff.2 e) with e|e
   ·exact .inr (.inl e)
   ·exact .inr (.inr e)
theorem zrs{k:Kn}{l r:Nat}{f g:Rg→Rg→Option (Rg × Rg)}{z:Int}:(zaX k l r f g z).length≤2:=by
 unfold zaX;split <;> simp
theorem zm2{k:Kn}{i:Ins}{ks:List Kn}(h:zam i k=some ks):ks.length≤2:=by
 have a:=fun(l r:Nat) (f g:Rg→Rg→Option (Rg × Rg)) (z:Int)=>zrs (k:=k) (l:=l) (r:=r) (f:=f) (g:=g) (z:=z);unfold zam at h;split at h;all_goals(try split at h)
 all_goals first
  | (simp only [Option.some.injEq] at h;subst h;first|exact a _ _ _ _ _|simp)
  | cases h
theorem zm3{k:Kn}{l r:Nat}{f g:Rg→Rg→Option (Rg × Rg)}{z:Int}:∀ k'∈zaX k l r f g z,(k'.next=z∨k'.next=k.next+1)∧k'.behind=k.behind:=by
 intro k' a;unfold zaX at a;split at a
 ·rcases List.mem_cons.1 a with rfl|h
  ·exact⟨.inl rfl,rfl⟩
  ·rw [List.mem_singleton.1 h];exact⟨.inr rfl,rfl⟩
 ·rw [List.mem_singleton.1 a];exact⟨.inl rfl,rfl⟩
 ·rw [List.mem_singleton.1 a];exact⟨.inr rfl,rfl⟩
 ·rw [List.mem_singleton.1 a];exact⟨.inl rfl,rfl⟩
theorem zwR{N p:Nat}{k:Kn}{i:Ins}{ks:List Kn}(hn:k.next=(p:Int))(hl:ztm N p i)(hb:∀ z∈k.behind,InC N z)(hf:k.behind.length≤15)(h:zam i k=some ks):∀ k'∈ks,InC N k'.next∧(∀ z∈k'.behind,InC N z)∧k'.behind.length≤15:=by
 have c:p+1<N→InC N (k.next+1):=fun h=>⟨p+1,by omega,h⟩
 have d:∀(f g:Nat→Rg) (z:Int),InC N z→∀ k'∈[({ k with regs:=f,cells:=g }:Kn).goTo z],InC N k'.next∧(∀ z∈k'.behind,InC N z)∧k'.behind.length≤15:=fun f g z hz k' a=>by
  rw [List.mem_singleton.1 a];exact⟨hz,hb,hf⟩
 cases i with
 | set r n=>simp only [zam,Option.some.injEq] at h;subst h;exact d _ _ _ (c hl)
 | mov r s=>simp only [zam,Option.some.injEq] at h;subst h;exact d _ _ _ (c hl)
 | alu o r s t=>simp only [zam,Option.some.injEq] at h;subst h;exact d _ _ _ (c hl)
 | inc r n=>simp only [zam,Option.some.injEq] at h;subst h;exact d _ _ _ (c hl)
 | load r s =>
  simp only [zam] at h;split at h
  ·cases h
  ·simp only [Option.some.injEq] at h;subst h;exact d _ _ _ (c hl)
 | store r s =>
  simp only [zam] at h;split at h
  ·cases h
  ·simp only [Option.some.injEq] at h;subst h;exact d _ _ _ (c hl)
 | read r=>simp only [zam,Option.some.injEq] at h;subst h;exact d _ _ _ (c hl)
 | write r=>simp only [zam,Option.some.injEq] at h;subst h;exact d _ _ _ (c hl)
 | jump to=>simp only [zam,Option.some.injEq] at h;subst h;exact d _ _ _ hl
 | less r s to =>
  simp only [zam] at h;split at h
  ·simp only [Option.some.injEq] at h;subst h;exact d _ _ _ (c hl.2)
  ·simp only [Option.some.injEq] at h;subst h;intro k' a;obtain⟨e,m⟩:=zm3 k' a;rw [m];refine⟨?_,hb,hf⟩;rcases e with e|e <;> rw [e]
   ·exact hl.1
   ·exact c hl.2
 | same r s to =>
  simp only [zam] at h;split at h
  ·simp only [Option.some.injEq] at h;subst h;exact d _ _ _ hl.1
  ·simp only [Option.some.injEq] at h;subst h;intro k' a;obtain⟨e,m⟩:=zm3 k' a;rw [m];refine⟨?_,hb,hf⟩;rcases e with e|e <;> rw [e]
   ·exact hl.1
   ·exact c hl.2
 | call to =>
  simp only [zam] at h;split at h
  ·cases h
  ·simp only [Option.some.injEq] at h;subst h;intro k' a;rw [List.mem_singleton.1 a];refine⟨hl.1,fun z hz=>?_,?_⟩
   ·rcases List.mem_append.1 hz with e|e
    ·exact hb z e
    ·rw [List.mem_singleton.1 e];exact c hl.2
   ·show(k.behind++[k.next+1]).length≤15;rw [List.length_append];simp;omega
 | back =>
  simp only [zam] at h;cases hk:k.behind with
  | nil=>rw [hk] at h;simp only [Option.some.injEq] at h;subst h;intro k' a;cases a
  | cons b r =>
   rw [hk] at h;simp only [Option.some.injEq] at h;subst h;intro k' a;rw [List.mem_singleton.1 a];rw [hk] at hb hf;have j:(b :: r)≠[]:=by simp
   refine⟨hb _ ?_,fun z hz=>hb z (List.dropLast_subset _ hz),?_⟩
   ·show(b :: r).getLastD 0∈_;rw [List.getLastD_eq_getLast?,List.getLast?_eq_some_getLast j];exact List.getLast_mem j
   ·show(b :: r).dropLast.length≤15;rw [List.length_dropLast];omega
 | stop=>simp only [zam,Option.some.injEq] at h;subst h;intro k' a;cases a
theorem zpD{C:List (Ins × Int)}(S:CodeSure C){k:Kn}{ks:List Kn}{p:Nat}(hp:p<C.length)(hk:k.next=(p:Int))(K:KnIn C k)(hs:k.steps≠100000)(h:zam C[p].1 k=some ks):∀ k'∈ks,KnIn C k':=by
 intro k' a;obtain⟨a1,b⟩:=zcx K.ok (S.ok.ok p hp) (S.n64 p hp) h k' a;obtain⟨c,d,e⟩:=zwR hk (S.ok.leads p hp) K.behind K.few h k' a;have:=K.s0;have:=K.s1;exact⟨b,c,d,e,by omega,by omega⟩
theorem RsK.see_ok{R:RsK}{k:Kn}{n:Nat}(h1:R.marked.length≤n)(h2:R.seen≤n):(R.see k).marked.length≤n+1∧(R.see k).seen≤n+1∧(R.see k).steps=R.steps:=by
 refine⟨?_,?_,rfl⟩
 ·show(if zbn R.steps then R.marked++[k] else R.marked).length≤_;split
  ·rw [List.length_append];simp;omega
  ·omega
 ·show R.seen+1≤_;omega
theorem RsK.begin_len(R:RsK)(s:Int):(R.begin s).marked.length≤R.marked.length:=by
 show(if zbn s then [] else R.marked).length≤_;split
 ·simp
 ·exact Nat.le_refl _
theorem RsK.endless_ok{R R':RsK}{k:Kn}{n:Nat}(h1:R.marked.length≤n)(h2:R.seen≤n)(h:R.endless k=some R'):R'.marked.length≤n+1∧R'.seen≤n+1∧R'.steps=k.steps:=by
 unfold RsK.endless at h;split at h
 ·rename_i e;cases h;obtain⟨a,b,c⟩:=RsK.see_ok (k:=k) h1 h2;exact⟨a,b,by rw [c,e]⟩
 ·split at h
  ·cases h
  ·cases h;obtain⟨a,b,c⟩:=RsK.see_ok (R:=R.begin k.steps) (k:=k) (n:=n) (Nat.le_trans (R.begin_len _) h1) (Nat.zero_le _);exact⟨a,b,c⟩
theorem zAi{C:List (Ins × Int)}(S:CodeSure C):GsOk C gs0:=by
 refine⟨fun k hk=>?_,by show 1≤1002;omega,by show 0≤500000;omega,Nat.le_refl _,Nat.le_refl _,Int.le_refl _,by show(0:Int)≤100000;omega,Int.le_refl _,by show(0:Int)≤100000;omega,Int.le_refl _,by show(0:Int)≤16;omega⟩;rw [List.mem_singleton.1 hk];have a:(only 0).Ok:=ziB (by unfold i64;omega);exact⟨⟨fun _ _=>a,fun _ _=>a⟩,⟨0,rfl,S.ok.some_⟩,fun z hz=>(by cases hz),Nat.zero_le _,Int.le_refl _,by show(0:Int)≤100000;omega⟩
theorem zAA{C:List (Ins × Int)}(S:CodeSure C){G G':Gs}(h:GsOk C G)(r:Rd C G G'):GsOk C G':=by
 obtain⟨k,ys,ks,p,i,l1,l2,l,j,f,g,c,b,hL,hbs,hbf⟩:=r;obtain⟨K,d,hlen,_⟩:=l.1.kn S.ok.few h.kn;obtain⟨e1,e2,e3⟩:=RsK.endless_ok h.mkd h.seen f;have hll:=zm2 c;have a:=b.length_eq;rw [List.length_append] at a;have:=K.s0;have:=K.s1;have:=K.few;have:=h.bf0;have:=h.bf1;refine⟨fun x hx=>?_,by omega,by omega,by omega,by omega,by omega,by omega,by omega,by omega,by omega,by omega⟩;rcases List.mem_append.1 (b.mem_iff.1 hx) with e|e
 ·exact d x e
 ·exact zpD S i g K j c x e
structure GsT(C:List (Ins × Int))(G:Gs):Prop where
 ok:GsOk C G
 tells:∀ inp:List Int,(∀ x∈inp,i64 x)→ziI C G.W G.bs G.bf inp
 low:∀ k∈G.W,G.bs≤k.steps+1
theorem zAB{C:List (Ins × Int)}(S:CodeSure C):GsT C gs0 :=
 ⟨zAi S,fun inp hin=>zoi S inp hin _ _,fun k hk=>by rw [List.mem_singleton.1 hk];show(0:Int)≤0+1;omega⟩
theorem rd_t{C:List (Ins × Int)}(S:CodeSure C){G G':Gs}(h:GsT C G)(r:Rd C G G'):GsT C G':=by
 refine⟨zAA S h.ok r,?_,?_⟩
 ·obtain⟨k,D,z,p,c,A,B,d,w,v,o,g,m,y,f,b⟩:=r;intro t n;obtain⟨K,u,a,i⟩:=d.1.kn S.ok.few h.ok.kn;clear i;have T:=d.1.tells (h.tells t n);have j:G.bs≤k.steps+1:=by
   have s:=d.1;clear m g v f b w o K u a T d
   induction s with
   | one c g=>exact h.low _ (c.mem_iff.1 List.mem_cons_self)
   | more h1 c hm ih=>exact ih
  rw [f,b];refine zkd (fun x l=>m.mem_iff.2 l) (zri S c o K.ok j g (fun x l=>?_) T);rcases List.mem_cons.1 l with e|e
  ·exact .inl e
  ·exact .inr e
 ·obtain⟨k,D,z,p,c,A,B,d,w,v,o,g,m,y,f,b⟩:=r;obtain⟨K,u,a,q⟩:=d.1.kn S.ok.few h.ok.kn;intro x l;rw [f];rcases List.mem_append.1 (m.mem_iff.1 l) with e|e
  ·have:=q x e;omega
  ·have:=(zcx K.ok (S.ok.ok p c) (S.n64 p c) g x e).1;omega
theorem GsT.ends{C:List (Ins × Int)}{G:Gs}(h:GsT C G)(h0:G.W=[])(inp:List Int)(hin:∀ x∈inp,i64 x)(N:Nat)(hN:G.bs≤(N:Int)):
  ((runS (zce C) N (zaY inp)).fin=1∨(runS (zce C) N (zaY inp)).fin=2)∧(runS (zce C) N (zaY inp)).steps≤G.bs∧(runS (zce C) N (zaY inp)).peak≤G.bf:=by
 have T:=h.tells inp hin;rw [h0] at T;exact ztP T N hN
inductive Pj:(Kn→Int)→Prop
 | rlo (r:Nat):Pj fun k=>(k.regs r).lo
 | rhi (r:Nat):Pj fun k=>-(k.regs r).hi
 | clo (c:Nat):Pj fun k=>(k.cells c).lo
 | chi (c:Nat):Pj fun k=>-(k.cells c).hi
theorem Pj.join{f:Kn→Int}(h:Pj f)(k o:Kn):f (zf3 k o)=min (f k) (f o):=by
 cases h with
 | rlo r=>rfl
 | rhi r=>show -(max (k.regs r).hi (o.regs r).hi)=min (-(k.regs r).hi) (-(o.regs r).hi);omega
 | clo c=>rfl
 | chi c=>show -(max (k.cells c).hi (o.cells c).hi)=min (-(k.cells c).hi) (-(o.cells c).hi);omega
theorem Rg.ext'{a b:Rg}(h1:a.lo=b.lo)(h2:a.hi=b.hi):a=b:=by cases a;cases b;simp_all
theorem zAj{k o:Kn}(h:∀ f,Pj f→f k=f o)(m:Meet k o):k=o:=by
 have a:k.regs=o.regs:=funext fun r=>Rg.ext' (h _ (.rlo r)) (by have:=h _ (.rhi r);omega);have b:k.cells=o.cells:=funext fun r=>Rg.ext' (h _ (.clo r)) (by have:=h _ (.chi r);omega);obtain⟨c,d,e⟩:=m;cases k;cases o;simp only at a b c d e;subst a;subst b;subst c;subst d;subst e;rfl
theorem Meet.key{y k:Kn}(h:Meet y k):keyK y=keyK k:=by unfold keyK;rw [h.1,h.2.1,h.2.2]
theorem zkQ{y k:Kn}(hy:KeyOk y)(hk:KeyOk k)(h:keyK y=keyK k):Meet y k:=by
 obtain⟨a,b,c⟩:=zol hy hk;by_cases d:cmpK y k=0
 ·exact b d
 ·by_cases e:cmpK y k<0
  ·have:=a e;omega
  ·have:=c (by omega);omega
structure TakeC(W:List Kn)(k:Kn)(ys zs:List Kn):Prop where
 perm:(zs++ys).Perm W
 ne:∃ z,z∈zs
 meet:∀ z∈zs,Meet z k
 pj:∀ f,Pj f→(∀ z∈zs,f k≤f z)∧∃ z∈zs,f k=f z
 least:∀ y∈ys,keyK k≤keyK y
theorem TakeR.cls{W ys:List Kn}{k:Kn}(h:TakeR W k ys):∃ zs,TakeC W k ys zs:=by
 induction h with
 | one hp hl =>
  rename_i k ys;exact⟨[k],hp,⟨k,zb8 _⟩,fun z hz=>by rw [List.mem_singleton.1 hz];exact⟨rfl,rfl,rfl⟩,fun f _=>⟨fun z hz=>by rw [List.mem_singleton.1 hz];exact Int.le_refl _,k,zb8 _,rfl⟩,hl⟩
 | more h1 hp hm ih =>
  rename_i k y ys zs;obtain⟨b,c⟩:=ih;have hkey:keyK (zf3 k y)=keyK k:=rfl;refine⟨y :: b,?_,⟨y,List.mem_cons_self⟩,fun z hz=>?_,fun f hf=>?_,fun x hx=>?_⟩
  ·refine List.Perm.trans ?_ c.perm;show(y :: (b++zs)).Perm _;exact(List.perm_middle (l₁:=b) (a:=y) (l₂:=zs)).symm.trans (List.Perm.append_left b hp)
  ·rcases List.mem_cons.1 hz with e|e
   ·rw [e];exact hm
   ·exact c.meet z e
  ·obtain⟨g,i,d,p2⟩:=c.pj f hf;rw [hf.join];refine⟨fun z hz=>?_,?_⟩
   ·rcases List.mem_cons.1 hz with e|e
    ·rw [e];omega
    ·have:=g z e;omega
   ·by_cases hle:f k≤f y
    ·exact⟨i,List.mem_cons_of_mem _ d,by omega⟩
    ·exact⟨y,List.mem_cons_self,by omega⟩
  ·rw [hkey];exact c.least x (hp.mem_iff.1 (List.mem_cons_of_mem _ hx))
theorem zeM{α:Type}{p:α→Bool}{l:List α}(h:∀ x∈l,p x=true):l.filter p=l:=List.filter_eq_self.2 h
theorem zeb{α:Type}{p:α→Bool}{l:List α}(h:∀ x∈l,p x=false):l.filter p=[]:=List.filter_eq_nil_iff.2 fun x hx=>by rw [h x hx];simp
theorem TakeD.unique{W W' ys ys':List Kn}{k k':Kn}(hW:∀ x∈W,KeyOk x)(hP:W.Perm W')(h:TakeD W k ys)(h':TakeD W' k' ys'):k=k'∧ys.Perm ys':=by
 obtain⟨m,c⟩:=h.1.cls;obtain⟨d,g⟩:=h'.1.cls;have C:∀ x,x∈m++ys→KeyOk x:=fun x hx=>hW x (c.perm.mem_iff.1 hx);have o:∀ x,x∈d++ys'→KeyOk x:=fun x hx=>hW x (hP.mem_iff.2 (g.perm.mem_iff.1 hx));obtain⟨z,u⟩:=c.ne;obtain⟨p,i⟩:=g.ne;have w:=c.meet z u;have l:=g.meet p i;have A:KeyOk k:=by have q:=C z (List.mem_append_left _ u);exact⟨by rw [←w.1];exact q.next,by rw [←w.2.1];exact q.behind⟩
 have n:KeyOk k':=by have q:=o p (List.mem_append_left _ i);exact⟨by rw [←l.1];exact q.next,by rw [←l.2.1];exact q.behind⟩
 have v:∀ y∈ys,keyK k<keyK y:=fun y hy=>by
  have F:=c.least y hy;by_cases e:keyK y=keyK k
  ·exact absurd (zkQ (C y (List.mem_append_right _ hy)) A e) (h.2 y hy)
  ·omega
 have j:∀ y∈ys',keyK k'<keyK y:=fun y hy=>by
  have F:=g.least y hy;by_cases e:keyK y=keyK k'
  ·exact absurd (zkQ (o y (List.mem_append_right _ hy)) n e) (h'.2 y hy)
  ·omega
 have E:keyK k=keyK k':=by
  have a1:keyK k≤keyK k':=by
   have t:p∈m++ys:=c.perm.mem_iff.2 (hP.mem_iff.2 (g.perm.mem_iff.1 (List.mem_append_left _ i)));rw [←l.key];rcases List.mem_append.1 t with e|e
   ·rw [(c.meet p e).key];exact Int.le_refl _
   ·have:=v p e;omega
  have a2:keyK k'≤keyK k:=by
   have t:z∈d++ys':=g.perm.mem_iff.2 (hP.mem_iff.1 (c.perm.mem_iff.1 (List.mem_append_left _ u)));rw [←w.key];rcases List.mem_append.1 t with e|e
   ·rw [(g.meet z e).key];exact Int.le_refl _
   ·have:=j z e;omega
  omega
 have f1:((m++ys).filter fun x=>decide (keyK x=keyK k))=m:=by
  rw [List.filter_append,zeM (fun x hx=>by simpa using (c.meet x hx).key),zeb (fun x hx=>by have:=v x hx;simp;omega),List.append_nil]
 have f2:((m++ys).filter fun x=>!decide (keyK x=keyK k))=ys:=by
  rw [List.filter_append,zeb (fun x hx=>by simp [(c.meet x hx).key]),zeM (fun x hx=>by have:=v x hx;simp;omega),List.nil_append]
 have r:((d++ys').filter fun x=>decide (keyK x=keyK k))=d:=by
  rw [E,List.filter_append,zeM (fun x hx=>by simpa using (g.meet x hx).key),zeb (fun x hx=>by have:=j x hx;simp;omega),List.append_nil]
 have s:((d++ys').filter fun x=>!decide (keyK x=keyK k))=ys':=by
  rw [E,List.filter_append,zeb (fun x hx=>by simp [(g.meet x hx).key]),zeM (fun x hx=>by have:=j x hx;simp;omega),List.nil_append]
 have B:(m++ys).Perm (d++ys'):=c.perm.trans (hP.trans g.perm.symm);have D:m.Perm d:=by have:=B.filter fun x=>decide (keyK x=keyK k);rwa [f1,r] at this
 have J:ys.Perm ys':=by have:=B.filter fun x=>!decide (keyK x=keyK k);rwa [f2,s] at this
 refine⟨zAj (fun f hf=>?_) (zkQ A n E),J⟩;obtain⟨I,a,G,p2⟩:=c.pj f hf;obtain⟨K,b,H,q2⟩:=g.pj f hf;have:=I b (D.mem_iff.2 H);have:=K a (D.mem_iff.1 G);omega
structure Gq(G G':Gs):Prop where
 W:G.W.Perm G'.W
 looks:G.looks=G'.looks
 R:G.R=G'.R
 bs:G.bs=G'.bs
 bf:G.bf=G'.bf
theorem zuc{C:List (Ins × Int)}(hC:C.length≤300){G G' H H':Gs}(hG:GsOk C G)(q:Gq G G')(r:Rd C G H)(r':Rd C G' H'):Gq H H':=by
 obtain⟨k,ys,m,p,hp,l1,l2,l,hs,h,hk,hl,j,hL,hbs,hbf⟩:=r;obtain⟨k',ys',ks',n,hp',l1',l2',g,hs',f,hk',c,e,d,b,a⟩:=r';obtain⟨rfl,o⟩:=TakeD.unique (fun x hx=>(hG.kn x hx).key hC) q.W l g;have i:p=n:=by omega
 subst i;rw [hl] at c;cases c;refine⟨j.trans ((List.Perm.append_right m o).trans e.symm),by rw [hL,d,q.looks],?_,by rw [hbs,b],by rw [hbf,a,q.bf]⟩;rw [q.R,f] at h;simpa using h.symm
theorem zud{C:List (Ins × Int)}(hC:C.length≤300){G G' H:Gs}(hG:GsOk C G)(q:Gq G G')(r:Rd C G H)(r':Rf C G'):False:=by
 obtain⟨k,ys,ks,p,hp,l1,l2,f,e,d,hk,hl,hW,hL,hbs,hbf⟩:=r;obtain⟨_,h|h|⟨k',ys',b,h⟩⟩:=r'
 ·have:=q.looks;omega
 ·have:=q.W.length_eq;omega
 ·obtain⟨rfl,py⟩:=TakeD.unique (fun x hx=>(hG.kn x hx).key hC) q.W f b;rcases h with h|h|⟨g,hp',hk',a⟩
  ·exact e h
  ·rw [←q.R,d] at h;cases h
  ·have c:p=g:=by omega
   subst c;rw [hl] at a;cases a
theorem zwS{W ys:List Kn}{k:Kn}(h:TakeD W k ys):W≠[]:=by
 obtain⟨zs,c⟩:=h.1.cls;obtain⟨z,a⟩:=c.ne;intro e;have:=c.perm.mem_iff.1 (List.mem_append_left ys a);rw [e] at this;cases this
theorem zyW{C:List (Ins × Int)}{G H:Gs}(r:Rd C G H):G.W≠[]:=by
 obtain⟨k,ys,ks,p,hp,l1,l2,a,_⟩:=r;exact zwS a
inductive Reach(C:List (Ins × Int)):Gs→Prop
 | zero:Reach C gs0
 | step {G G':Gs}:Reach C G→Rd C G G'→Reach C G'
theorem Reach.t{C:List (Ins × Int)}(S:CodeSure C){G:Gs}(h:Reach C G):GsT C G:=by
 induction h with
 | zero=>exact zAB S
 | step _ r ih=>exact rd_t S ih r
theorem zgd{C:List (Ins × Int)}{G H:Gs}(r:Rd C G H):H.looks=G.looks+1:=by
 obtain⟨k,ys,ks,p,hp,l1,l2,ht,hs,he,hk,hl,hW,a,hbs,hbf⟩:=r;exact a
theorem Reach.unique{C:List (Ins × Int)}(S:CodeSure C){G G':Gs}(h:Reach C G)(h':Reach C G')(e:G.looks=G'.looks):Gq G G':=by
 induction h generalizing G' with
 | zero =>
  cases h' with
  | zero=>exact⟨List.Perm.refl _,rfl,rfl,rfl,rfl⟩
  | step _ r=>have:=zgd r;have a:(gs0).looks=0:=rfl;omega
 | step h r ih =>
  cases h' with
  | zero=>have:=zgd r;have a:(gs0).looks=0:=rfl;omega
  | step h2 r2 =>
   have e1:=zgd r;have a:=zgd r2;exact zuc S.ok.few (h.t S).ok (ih h2 (by omega)) r r2
theorem Reach.way{C:List (Ins × Int)}{G:Gs}(h:Reach C G)(n:Nat)(hn:n<G.looks):∃ G1 G2,Reach C G1∧Rd C G1 G2∧G1.looks=n:=by
 induction h with
 | zero=>exact absurd hn (by show ¬n<0;omega)
 | step h r ih =>
  rename_i G G';have e:=zgd r;by_cases a:n=G.looks
  ·exact⟨G,G',h,r,a.symm⟩
  ·exact ih (by omega)
def Verd(C:List (Ins × Int)):Option (Int × Int)→Prop
 | none=>∃ G,Reach C G∧Rf C G
 | some b=>∃ G,Reach C G∧G.W=[]∧G.bs=b.1∧G.bf=b.2
theorem Verd.unique{C:List (Ins × Int)}(S:CodeSure C){a b:Option (Int × Int)}(ha:Verd C a)(hb:Verd C b):a=b:=by
 have o:∀{G d:Gs},Reach C G→Reach C d→G.W=[]→Rf C d→False:=fun{G d} h c g l=>by
  rcases Nat.lt_trichotomy G.looks d.looks with i|i|i
  ·obtain⟨p,r,f,j,e⟩:=c.way _ i;have q:=h.unique S f e.symm;exact zyW j (List.perm_nil.1 (by rw [←g];exact q.W.symm))
  ·have q:=h.unique S c i;exact l.1 (List.perm_nil.1 (by rw [←g];exact q.W.symm))
  ·obtain⟨p,r,f,j,e⟩:=h.way _ i;exact zud S.ok.few (f.t S).ok (f.unique S c e) j l
 cases a with
 | none =>
  cases b with
  | none=>rfl
  | some b =>
   obtain⟨G,h,l⟩:=ha;obtain⟨d,c,g,_⟩:=hb;exact(o c h g l).elim
 | some a =>
  obtain⟨G,h,g,u,v⟩:=ha;cases b with
  | none =>
   obtain⟨d,c,l⟩:=hb;exact(o h c g l).elim
  | some b =>
   obtain⟨d,c,s,m,n⟩:=hb;have w:G.looks=d.looks:=by
    rcases Nat.lt_trichotomy G.looks d.looks with i|i|i
    ·obtain⟨p,r,f,j,e⟩:=c.way _ i;have q:=h.unique S f e.symm;exact(zyW j (List.perm_nil.1 (by rw [←g];exact q.W.symm))).elim
    ·exact i
    ·obtain⟨p,r,f,j,e⟩:=h.way _ i;have q:=c.unique S f e.symm;exact(zyW j (List.perm_nil.1 (by rw [←s];exact q.W.symm))).elim
   have q:=h.unique S c w;obtain⟨a1,a2⟩:=a;obtain⟨b1,b2⟩:=b;simp only at u v m n;rw [←u,←v,←m,←n,q.bs,q.bf]
theorem Verd.ends{C:List (Ins × Int)}(S:CodeSure C){b:Int × Int}(h:Verd C (some b))(inp:List Int)(hin:∀ x∈inp,i64 x)(N:Nat)(hN:b.1≤(N:Int)):
  ((runS (zce C) N (zaY inp)).fin=1∨(runS (zce C) N (zaY inp)).fin=2)∧(runS (zce C) N (zaY inp)).steps≤b.1∧(runS (zce C) N (zaY inp)).peak≤b.2:=by
 obtain⟨G,e,d,a,c⟩:=h;rw [←a,←c];exact(e.t S).ends d inp hin N (by rw [a];exact hN)
theorem Verd.bound{C:List (Ins × Int)}(S:CodeSure C){b:Int × Int}(h:Verd C (some b)):1≤b.1∧b.1≤100000∧1≤b.2∧b.2≤16:=by
 obtain⟨G,a,d,e,f⟩:=h;have ok:=(a.t S).ok;rw [←e,←f];cases a with
 | zero=>cases d
 | step a r =>
  have c:=(a.t S).ok;obtain⟨k,ys,ks,p,hp,l1,l2,g,hs,he,hk,hl,d,hL,hbs,hbf⟩:=r;have K:=(g.1.kn S.ok.few c.kn).1;have:=K.s0;have:=ok.bs1;have:=ok.bf1;omega
section
def Stp(C:List (Ins × Int))(k k':Kn):Prop:=∃(p:Nat) (hp:p<C.length),k.next=(p:Int)∧zam C[p].1 k=some [k']
inductive Tr(C:List (Ins × Int)):Kn→List Kn→Kn→Prop
 | nil (k:Kn):Tr C k [] k
 | cons {k k1 k':Kn} {l:List Kn} (h:Stp C k k1) (t:Tr C k1 l k'):Tr C k (k :: l) k'
variable {C:List (Ins × Int)} {k k1 k' s t:Kn} {l l1 l2:List Kn} {p q:Nat}
theorem Tr.app(h:Tr C k l k1)(h2:Tr C k1 l2 k'):Tr C k (l++l2) k':=by
 induction h with
 | nil=>exact h2
 | cons a _ ih=>exact .cons a (ih h2)
theorem Tr.one(h:Stp C k k'):Tr C k [k] k':=.cons h (.nil _)
def Sep(s t:Kn):Prop:=¬(s.next=t.next∧s.behind=t.behind)∨∃ r a b,r<8∧s.regs r=only a∧t.regs r=only b∧¬a=b
theorem zzx{f g:Nat→Rg}{n:Nat}(h:covB f g n=true){r:Nat}(hr:r<n):(g r).within (f r)=true:=by
 induction n with
 | zero=>omega
 | succ n ih =>
  rw [covB,Bool.and_eq_true] at h;by_cases e:r=n
  ·rw [e];exact h.2
  ·exact ih h.1 (by omega)
theorem Sep.not_cov(h:Sep s t):zb9 t s=false:=by
 cases e:zb9 t s with
 | false=>rfl
 | true =>
  exfalso;unfold zb9 at e;simp only [Bool.and_eq_true,decide_eq_true_eq] at e;obtain⟨c,d,f,_⟩:=e;rcases h with h|⟨r,a,b,i,ha,g,hne⟩
  ·exact h ⟨c.symm,d.symm⟩
  ·have:=zzx f i;rw [ha,g] at this;unfold Rg.within at this;rw [Bool.and_eq_true] at this;have t1:b≤a:=of_decide_eq_true this.1;have t2:a≤b:=of_decide_eq_true this.2;omega
def Loc(p q:Nat)(β:List Int)(s:Kn):Prop:=(s.behind=β∧∃ x:Nat,s.next=(x:Int)∧p≤x∧x<q)∨∃(x:Nat) (rest:List Int),s.behind=β++(x:Int) :: rest∧p<x∧x≤q
theorem Loc.mono{p' q':Nat}{β:List Int}(h:Loc p q β s)(hp:p'≤p)(hq:q≤q'):Loc p' q' β s:=by
 rcases h with ⟨a,x,b,c,h4⟩|⟨x,r,a,b,c⟩
 ·exact .inl ⟨a,x,b,by omega,by omega⟩
 ·exact .inr ⟨x,r,a,by omega,by omega⟩
theorem Loc.sep{p' q':Nat}{β:List Int}(h:Loc p q β s)(h':Loc p' q' β t)(hq:q≤p'):Sep s t:=by
 left;rintro⟨d,a⟩;rcases h with ⟨f,x,g,i,h4⟩|⟨x,r,f,g,i⟩ <;> rcases h' with ⟨b,y,c,e,g4⟩|⟨y,r',b,c,e⟩
 ·rw [g,c] at d;omega
 ·rw [f,b] at a;have:=congrArg List.length a;simp at this
 ·rw [f,b] at a;have:=congrArg List.length a;simp at this
 ·rw [f,b] at a;have:=List.append_cancel_left a;simp only [List.cons.injEq] at this;omega
structure Known(k:Kn)(H:Nat→Bool)(Cn:List Nat):Prop where
 ok:KnOk k
 ex:∀ r,H r=true→∃ a,k.regs r=only a
 ct:∀ c∈Cn,H c=true∧∃ a,k.regs c=only a∧0≤a∧a≤15
structure RunOf(p q:Nat)(H Gv:Nat→Bool)(Fr:Nat)(k:Kn)(l:List Kn)(k':Kn):Prop where
 next:k'.next=(q:Int)
 behind:k'.behind=k.behind
 ok:KnOk k'
 keep:∀ r,H r=true∨Gv r=false→k'.regs r=k.regs r
 loc:∀ s∈l,Loc p q k.behind s
 held:∀ s∈l,∀ r,H r=true∨Gv r=false→s.regs r=k.regs r
 sep:l.Pairwise Sep
 deep:∀ s∈l,s.behind.length+1≤k.behind.length+Fr
def Sem(C:List (Ins × Int))(p q:Nat)(H:Nat→Bool)(Cn:List Nat)(wt:Nat)(Gv:Nat→Bool)(Fr:Nat):Prop :=
 ∀ k:Kn,k.next=(p:Int)→Known k H Cn→k.behind.length+Fr≤16→∃ l k',Tr C k l k'∧RunOf p q H Gv Fr k l k'∧l.length≤wt
variable {H Gv Gv':Nat→Bool} {Cn:List Nat} {wt wt' Fr Fr':Nat}
theorem Sem.mono(h:Sem C p q H Cn wt Gv Fr)(hw:wt≤wt')(hG:∀ r,Gv r=true→Gv' r=true)(hF:Fr≤Fr'):Sem C p q H Cn wt' Gv' Fr':=by
 intro k a K hd;obtain⟨l,b,t,R,hl⟩:=h k a K (by omega);have g:∀ r,H r=true∨Gv' r=false→H r=true∨Gv r=false:=fun r hr=>by
  rcases hr with e|e
  ·exact .inl e
  ·right;cases e2:Gv r with
   | false=>rfl
   | true=>rw [hG r e2] at e;cases e
 exact⟨l,b,t,⟨R.next,R.behind,R.ok,fun r hr=>R.keep r (g r hr),R.loc,fun s hs r hr=>R.held s hs r (g r hr),R.sep,fun s hs=>by have:=R.deep s hs;omega⟩,by omega⟩
theorem RunOf.known(R:RunOf p q H Gv Fr k l k')(K:Known k H Cn):Known k' H Cn:=by
 refine⟨R.ok,fun r hr=>?_,fun c hc=>?_⟩
 ·rw [R.keep r (.inl hr)];exact K.ex r hr
 ·obtain⟨a,b⟩:=K.ct c hc;rw [R.keep c (.inl a)];exact⟨a,b⟩
theorem Sem.nil(p:Nat):Sem C p p H Cn 0 Gv 1:=fun k hk K _=>⟨[],k,.nil _,⟨hk,rfl,K.ok,fun _ _=>rfl,fun s hs=>(by cases hs),fun s hs=>(by cases hs),List.Pairwise.nil,fun s hs=>(by cases hs)⟩,Nat.le_refl _⟩
theorem Sem.app{m:Nat}{w1 w2:Nat}(h:Sem C p m H Cn w1 Gv Fr)(h2:Sem C m q H Cn w2 Gv Fr)(hp:p≤m)(hm:m≤q):Sem C p q H Cn (w1+w2) Gv Fr:=by
 intro k d K b;obtain⟨l,g,t,R,hl⟩:=h k d K b;obtain⟨i,f,j,a,hl2⟩:=h2 g R.next (R.known K) (by rw [R.behind];exact b);refine⟨l++i,f,t.app j,⟨a.next,a.behind.trans R.behind,a.ok,fun r hr=>(a.keep r hr).trans (R.keep r hr),fun s hs=>?_,fun s hs r hr=>?_,?_,fun s hs=>?_⟩,by rw [List.length_append];omega⟩
 ·rcases List.mem_append.1 hs with e|e
  ·exact(R.loc s e).mono (Nat.le_refl _) hm
  ·have:=a.loc s e;rw [R.behind] at this;exact this.mono hp (Nat.le_refl _)
 ·rcases List.mem_append.1 hs with e|e
  ·exact R.held s e r hr
  ·exact(a.held s e r hr).trans (R.keep r hr)
 ·rw [List.pairwise_append];refine⟨R.sep,a.sep,fun s hs t ht=>(R.loc s hs).sep (q':=q) (p':=m) ?_ (Nat.le_refl _)⟩;have:=a.loc t ht;rwa [R.behind] at this
 ·rcases List.mem_append.1 hs with e|e
  ·exact R.deep s e
  ·have:=a.deep s e;rwa [R.behind] at this
theorem Sem.ins(S:CodeSure C)(hp:p<C.length)(h:∀ k:Kn,k.next=(p:Int)→Known k H Cn→∃ k',zam C[p].1 k=some [k']∧k'.next=((p+1:Nat):Int)∧k'.behind=k.behind∧∀ r,H r=true∨Gv r=false→k'.regs r=k.regs r):Sem C p (p+1) H Cn 1 Gv 1:=by
 intro k a K hd;obtain⟨k',b,c,d,e⟩:=h k a K;have f:=zcx K.ok (S.ok.ok p hp) (S.n64 p hp) b k' (List.mem_singleton.2 rfl);refine⟨[k],k',.one ⟨p,hp,a,b⟩,⟨c,d,f.2,e,fun s hs=>?_,fun s hs r _=>?_,List.pairwise_singleton _ _,fun s hs=>?_⟩,Nat.le_refl _⟩
 ·rw [List.mem_singleton.1 hs];exact .inl ⟨rfl,p,a,Nat.le_refl _,by omega⟩
 ·rw [List.mem_singleton.1 hs]
 ·rw [List.mem_singleton.1 hs];exact Nat.le_refl _
def zcb(C:List (Ins × Int))(p:Nat)(i:Ins):Prop:=∃ hp:p<C.length,C[p].1=i
theorem ze6{f:Nat→Rg}{r:Nat}{v:Rg}{x:Nat}(h:¬x=r):updR f r v x=f x:=if_neg h
theorem zlf(f:Nat→Rg)(r:Nat)(v:Rg):updR f r v r=v:=if_pos rfl
theorem zc0{r x:Nat}(h1:H r=false)(h2:Gv r=true)(h:H x=true∨Gv x=false):¬x=r:=fun e=>by
 rw [e] at h;rcases h with h|h
 ·rw [h1] at h;cases h
 ·rw [h2] at h;cases h
theorem Sem.gives(S:CodeSure C){i:Ins}(h:zcb C p i){r:Nat}(h1:H r=false)(h2:Gv r=true)(v:Kn→Rg)(hl:∀ k:Kn,zam i k=some [{ k with regs:=updR k.regs r (v k) }.goTo (k.next+1)]):Sem C p (p+1) H Cn 1 Gv 1:=by
 obtain⟨a,rfl⟩:=h;refine Sem.ins S a fun k hk _=>⟨_,hl k,by show k.next+1=_;omega,rfl,fun x hx=>ze6 (zc0 h1 h2 hx)⟩
theorem Sem.set(S:CodeSure C){r:Nat}{n:Int}(h:zcb C p (.set r n))(h1:H r=false)(h2:Gv r=true):Sem C p (p+1) H Cn 1 Gv 1:=.gives S h h1 h2 (fun _=>only n) (fun _=>rfl)
theorem Sem.mov(S:CodeSure C){r x:Nat}(h:zcb C p (.mov r x))(h1:H r=false)(h2:Gv r=true):Sem C p (p+1) H Cn 1 Gv 1:=.gives S h h1 h2 (fun k=>k.regs x) (fun _=>rfl)
theorem Sem.alu(S:CodeSure C){o r x y:Nat}(h:zcb C p (.alu o r x y))(h1:H r=false)(h2:Gv r=true):Sem C p (p+1) H Cn 1 Gv 1:=.gives S h h1 h2 _ (fun _=>rfl)
theorem Sem.inc(S:CodeSure C){r:Nat}{n:Int}(h:zcb C p (.inc r n))(h1:H r=false)(h2:Gv r=true):Sem C p (p+1) H Cn 1 Gv 1:=.gives S h h1 h2 (fun k=>(k.regs r).plus (only n)) (fun _=>rfl)
theorem Sem.read(S:CodeSure C){r:Nat}(h:zcb C p (.read r))(h1:H r=false)(h2:Gv r=true):Sem C p (p+1) H Cn 1 Gv 1:=.gives S h h1 h2 (fun _=>anyR) (fun _=>rfl)
theorem Sem.write(S:CodeSure C){r:Nat}(h:zcb C p (.write r)):Sem C p (p+1) H Cn 1 Gv 1:=by
 obtain⟨a,he⟩:=h;refine Sem.ins S a fun k hk _=>⟨k.goTo (k.next+1),by rw [he];rfl,by show k.next+1=_;omega,rfl,fun x _=>rfl⟩
theorem zhn{a:Int}(h0:0≤a)(h1:a≤15):zbm (only a)=some (a.toNat,a.toNat):=if_pos ⟨h0,h1⟩
theorem zmV(r c:Nat){k:Kn}{a:Int}(ha:k.regs c=only a)(h0:0≤a)(h1:a≤15):zam (.load r c) k=some [{ k with regs:=updR k.regs r (zbz k.cells a.toNat (a.toNat-a.toNat)) }.goTo (k.next+1)]:=by
 have e:zam (.load r c) k=(match zbm (k.regs c) with|none=>none|some (a,b)=>some [{ k with regs:=updR k.regs r (zbz k.cells a (b-a)) }.goTo (k.next+1)]):=rfl;rw [e,ha,zhn h0 h1]
theorem zkq(c r:Nat){k:Kn}{a:Int}(ha:k.regs c=only a)(h0:0≤a)(h1:a≤15):zam (.store c r) k=some [{ k with cells:=zaw k.cells a.toNat a.toNat (k.regs r) }.goTo (k.next+1)]:=by
 have e:zam (.store c r) k=(match zbm (k.regs c) with|none=>none|some (a,b)=>some [{ k with cells:=zaw k.cells a b (k.regs r) }.goTo (k.next+1)]):=rfl;rw [e,ha,zhn h0 h1]
theorem Sem.load(S:CodeSure C){r c:Nat}(h:zcb C p (.load r c))(hc:c∈Cn)(h1:H r=false)(h2:Gv r=true):Sem C p (p+1) H Cn 1 Gv 1:=by
 obtain⟨f,he⟩:=h;refine Sem.ins S f fun k hk K=>?_;obtain⟨_,a,e,b,d⟩:=K.ct c hc;refine⟨{ k with regs:=updR k.regs r (zbz k.cells a.toNat (a.toNat-a.toNat)) }.goTo (k.next+1),by rw [he];exact zmV r c e b d,by show k.next+1=_;omega,rfl,fun x hx=>ze6 (zc0 h1 h2 hx)⟩
theorem Sem.store(S:CodeSure C){r c:Nat}(h:zcb C p (.store c r))(hc:c∈Cn):Sem C p (p+1) H Cn 1 Gv 1:=by
 obtain⟨f,he⟩:=h;refine Sem.ins S f fun k hk K=>?_;obtain⟨_,a,e,b,d⟩:=K.ct c hc;refine⟨{ k with cells:=zaw k.cells a.toNat a.toNat (k.regs r) }.goTo (k.next+1),by rw [he];exact zkq c r e b d,by show k.next+1=_;omega,rfl,fun x _=>rfl⟩
theorem Sem.two(S:CodeSure C){x:Nat}{n:Int}{i:Ins}(h:zcb C p (.set x n))(g:zcb C (p+1) i)(hx:H x=false)(gx:Gv x=true)
  (hl:∀ k:Kn,k.next=((p+1:Nat):Int)→k.regs x=only n→∃ k',zam i k=some [k']∧k'.next=((p+1+1:Nat):Int)∧k'.behind=k.behind∧∀ r,H r=true∨Gv r=false→k'.regs r=k.regs r):Sem C p (p+2) H Cn 2 Gv 1:=by
 intro k q K hd;obtain⟨d,he⟩:=h;obtain⟨e,rfl⟩:=g;have c:zam C[p].1 k=some [{ k with regs:=updR k.regs x (only n) }.goTo (k.next+1)]:=by rw [he];rfl
 have u:=zcx K.ok (S.ok.ok p d) (S.n64 p d) c _ (List.mem_singleton.2 rfl);generalize a:({ k with regs:=updR k.regs x (only n) }.goTo (k.next+1):Kn)=k1 at c u;have f:k1.next=((p+1:Nat):Int):=by rw [←a];show k.next+1=_;omega
 have m:k1.behind=k.behind:=by rw [←a];rfl
 have t:∀ r,H r=true∨Gv r=false→k1.regs r=k.regs r:=fun r hr=>by rw [←a];exact ze6 (zc0 hx gx hr)
 obtain⟨k',o,w,v,y⟩:=hl k1 f (by rw [←a];exact zlf _ _ _);have z:=zcx u.2 (S.ok.ok (p+1) e) (S.n64 (p+1) e) o k' (List.mem_singleton.2 rfl);have j:Loc p (p+1) k.behind k:=.inl ⟨rfl,p,q,Nat.le_refl _,by omega⟩;have l:Loc (p+1) (p+2) k.behind k1:=.inl ⟨m,p+1,f,Nat.le_refl _,by omega⟩;refine⟨[k,k1],k',.cons ⟨p,d,q,c⟩ (.one ⟨p+1,e,f,o⟩),⟨w,v.trans m,z.2,fun r hr=>(y r hr).trans (t r hr),fun s hs=>?_,fun s hs r hr=>?_,?_,fun s hs=>?_⟩,Nat.le_refl _⟩
 ·simp only [List.mem_cons,List.not_mem_nil,or_false] at hs;rcases hs with rfl|rfl
  ·exact j.mono (Nat.le_refl _) (by omega)
  ·exact l.mono (by omega) (Nat.le_refl _)
 ·simp only [List.mem_cons,List.not_mem_nil,or_false] at hs;rcases hs with rfl|rfl
  ·rfl
  ·exact t r hr
 ·rw [List.pairwise_cons];refine⟨fun s hs=>?_,List.pairwise_singleton _ _⟩;rw [List.mem_singleton.1 hs];exact j.sep l (Nat.le_refl _)
 ·simp only [List.mem_cons,List.not_mem_nil,or_false] at hs;rcases hs with rfl|rfl
  ·exact Nat.le_refl _
  ·rw [m];exact Nat.le_refl _
theorem Sem.loadN(S:CodeSure C){x r:Nat}{n:Int}(h:zcb C p (.set x n))(g:zcb C (p+1) (.load r x))(n0:0≤n)(n1:n≤15)(hx:H x=false)(gx:Gv x=true)(h1:H r=false)(h2:Gv r=true):Sem C p (p+2) H Cn 2 Gv 1 :=
 .two S h g hx gx fun k hk ha=>⟨{ k with regs:=updR k.regs r (zbz k.cells n.toNat (n.toNat-n.toNat)) }.goTo (k.next+1),zmV r x ha n0 n1,by show k.next+1=_;omega,rfl,fun x hx=>ze6 (zc0 h1 h2 hx)⟩
theorem Sem.storeN(S:CodeSure C){x r:Nat}{n:Int}(h:zcb C p (.set x n))(g:zcb C (p+1) (.store x r))(n0:0≤n)(n1:n≤15)(hx:H x=false)(gx:Gv x=true):Sem C p (p+2) H Cn 2 Gv 1 :=
 .two S h g hx gx fun k hk ha=>⟨{ k with cells:=zaw k.cells n.toNat n.toNat (k.regs r) }.goTo (k.next+1),zkq x r ha n0 n1,by show k.next+1=_;omega,rfl,fun _ _=>rfl⟩
end
end Go.Proofs.YtfpgjkbjbbgciaaGreatDoor
