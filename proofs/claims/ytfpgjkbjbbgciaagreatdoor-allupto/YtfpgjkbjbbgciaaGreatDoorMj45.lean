import Derived.Test.YtfpgjkbjbbgciaaGreatDoorMj37
import Derived.Test.YtfpgjkbjbbgciaaGreatDoorMj43
import Derived.Test.YtfpgjkbjbbgciaaGreatDoorMj44
set_option maxRecDepth 100000
set_option maxHeartbeats 8000000
namespace Go.Proofs.YtfpgjkbjbbgciaaGreatDoor
section
open Sp
inductive Pj:(Kn→Int)→Prop
 | rlo (r:Nat):Pj fun k=>(k.regs r).lo
 | rhi (r:Nat):Pj fun k=>-(k.regs r).hi
 | clo (c:Nat):Pj fun k=>(k.cells c).lo
 | chi (c:Nat):Pj fun k=>-(k.cells c).hi
theorem Pj.join{f:Kn→Int}(h:Pj f)(k o:Kn):f (zfJ k o)=min (f k) (f o):=by
 cases h with
 | rlo r=>rfl
 | rhi r=>show -(max (k.regs r).hi (o.regs r).hi)=min (-(k.regs r).hi) (-(o.regs r).hi);omega
 | clo c=>rfl
 | chi c=>show -(max (k.cells c).hi (o.cells c).hi)=min (-(k.cells c).hi) (-(o.cells c).hi);omega
theorem Rg.ext'{a b:Rg}(h1:a.lo=b.lo)(h2:a.hi=b.hi):a=b:=by cases a;cases b;simp_all
theorem zz8{k o:Kn}(h:∀ f,Pj f→f k=f o)(m:Meet k o):k=o:=by
 have a:k.regs=o.regs:=funext fun r=>Rg.ext' (h _ (.rlo r)) (by have:=h _ (.rhi r);omega);have d:k.cells=o.cells:=funext fun r=>Rg.ext' (h _ (.clo r)) (by have:=h _ (.chi r);omega);obtain⟨c,b,e⟩:=m;cases k;cases o;simp only at a d c b e;subst a;subst d;subst c;subst b;subst e;rfl
theorem Meet.key{y k:Kn}(h:Meet y k):keyK y=keyK k:=by unfold keyK;rw [h.1,h.2.1,h.2.2]
theorem zkQ{y k:Kn}(hy:KeyOk y)(hk:KeyOk k)(h:keyK y=keyK k):Meet y k:=by
 obtain⟨a,d,e⟩:=znW hy hk;by_cases c:cmpK y k=0
 ·exact d c
 ·by_cases b:cmpK y k<0
  ·have:=a b;omega
  ·have:=e (by omega);omega
structure TakeC(W:List Kn)(k:Kn)(ys zs:List Kn):Prop where
 perm:(zs++ys).Perm W
 ne:∃ z,z∈zs
 meet:∀ z∈zs,Meet z k
 pj:∀ f,Pj f→(∀ z∈zs,f k≤f z)∧∃ z∈zs,f k=f z
 least:∀ y∈ys,keyK k≤keyK y
theorem TakeR.cls{W ys:List Kn}{k:Kn}(h:TakeR W k ys):∃ zs,TakeC W k ys zs:=by
 induction h with
 | one hp hl =>
  rename_i k ys;exact⟨[k],hp,⟨k,zbV _⟩,fun z hz=>by rw [List.mem_singleton.1 hz];exact⟨rfl,rfl,rfl⟩,fun f _=>⟨fun z hz=>by rw [List.mem_singleton.1 hz];exact Int.le_refl _,k,zbV _,rfl⟩,hl⟩
 | more h1 hp hm ih =>
  rename_i k y ys zs;obtain⟨b,c⟩:=ih;have hkey:keyK (zfJ k y)=keyK k:=rfl;refine⟨y :: b,?_,⟨y,List.mem_cons_self⟩,fun z hz=>?_,fun f hf=>?_,fun x hx=>?_⟩
  ·refine List.Perm.trans ?_ c.perm;show(y :: (b++zs)).Perm _;exact(List.perm_middle (l₁:=b) (a:=y) (l₂:=zs)).symm.trans (List.Perm.append_left b hp)
  ·rcases List.mem_cons.1 hz with e|e
   ·rw [e];exact hm
   ·exact c.meet z e
  ·obtain⟨j,i,d,p2⟩:=c.pj f hf;rw [hf.join];refine⟨fun z hz=>?_,?_⟩
   ·rcases List.mem_cons.1 hz with e|e
    ·rw [e];omega
    ·have:=j z e;omega
   ·by_cases hle:f k≤f y
    ·exact⟨i,List.mem_cons_of_mem _ d,by omega⟩
    ·exact⟨y,List.mem_cons_self,by omega⟩
  ·rw [hkey];exact c.least x (hp.mem_iff.1 (List.mem_cons_of_mem _ hx))
theorem zfr{α:Type}{p:α→Bool}{l:List α}(h:∀ x∈l,p x=true):l.filter p=l:=List.filter_eq_self.2 h
theorem ze5{α:Type}{p:α→Bool}{l:List α}(h:∀ x∈l,p x=false):l.filter p=[]:=List.filter_eq_nil_iff.2 fun x hx=>by rw [h x hx];simp
theorem TakeD.unique{W W' ys ys':List Kn}{k k':Kn}(hW:∀ x∈W,KeyOk x)(hP:W.Perm W')(h:TakeD W k ys)(h':TakeD W' k' ys'):k=k'∧ys.Perm ys':=by
 obtain⟨l,c⟩:=h.1.cls;obtain⟨d,g⟩:=h'.1.cls;have B:∀ x,x∈l++ys→KeyOk x:=fun x hx=>hW x (c.perm.mem_iff.1 hx);have p:∀ x,x∈d++ys'→KeyOk x:=fun x hx=>hW x (hP.mem_iff.2 (g.perm.mem_iff.1 hx));obtain⟨z,s⟩:=c.ne;obtain⟨o,i⟩:=g.ne;have r:=c.meet z s;have m:=g.meet o i;have A:KeyOk k:=by have q:=B z (List.mem_append_left _ s);exact⟨by rw [←r.1];exact q.next,by rw [←r.2.1];exact q.behind⟩
 have n:KeyOk k':=by have q:=p o (List.mem_append_left _ i);exact⟨by rw [←m.1];exact q.next,by rw [←m.2.1];exact q.behind⟩
 have v:∀ y∈ys,keyK k<keyK y:=fun y hy=>by
  have H:=c.least y hy;by_cases e:keyK y=keyK k
  ·exact absurd (zkQ (B y (List.mem_append_right _ hy)) A e) (h.2 y hy)
  ·omega
 have j:∀ y∈ys',keyK k'<keyK y:=fun y hy=>by
  have H:=g.least y hy;by_cases e:keyK y=keyK k'
  ·exact absurd (zkQ (p y (List.mem_append_right _ hy)) n e) (h'.2 y hy)
  ·omega
 have J:keyK k=keyK k':=by
  have a1:keyK k≤keyK k':=by
   have w:o∈l++ys:=c.perm.mem_iff.2 (hP.mem_iff.2 (g.perm.mem_iff.1 (List.mem_append_left _ i)));rw [←m.key];rcases List.mem_append.1 w with e|e
   ·rw [(c.meet o e).key];exact Int.le_refl _
   ·have:=v o e;omega
  have a2:keyK k'≤keyK k:=by
   have w:z∈d++ys':=g.perm.mem_iff.2 (hP.mem_iff.1 (c.perm.mem_iff.1 (List.mem_append_left _ s)));rw [←r.key];rcases List.mem_append.1 w with e|e
   ·rw [(g.meet z e).key];exact Int.le_refl _
   ·have:=j z e;omega
  omega
 have f1:((l++ys).filter fun x=>decide (keyK x=keyK k))=l:=by
  rw [List.filter_append,zfr (fun x hx=>by simpa using (c.meet x hx).key),ze5 (fun x hx=>by have:=v x hx;simp;omega),List.append_nil]
 have f2:((l++ys).filter fun x=>!decide (keyK x=keyK k))=ys:=by
  rw [List.filter_append,ze5 (fun x hx=>by simp [(c.meet x hx).key]),zfr (fun x hx=>by have:=v x hx;simp;omega),List.nil_append]
 have u:((d++ys').filter fun x=>decide (keyK x=keyK k))=d:=by
  rw [J,List.filter_append,zfr (fun x hx=>by simpa using (g.meet x hx).key),ze5 (fun x hx=>by have:=j x hx;simp;omega),List.append_nil]
 have t:((d++ys').filter fun x=>!decide (keyK x=keyK k))=ys':=by
  rw [J,List.filter_append,ze5 (fun x hx=>by simp [(g.meet x hx).key]),zfr (fun x hx=>by have:=j x hx;simp;omega),List.nil_append]
 have C:(l++ys).Perm (d++ys'):=c.perm.trans (hP.trans g.perm.symm);have D:l.Perm d:=by have:=C.filter fun x=>decide (keyK x=keyK k);rwa [f1,u] at this
 have K:ys.Perm ys':=by have:=C.filter fun x=>!decide (keyK x=keyK k);rwa [f2,t] at this
 refine⟨zz8 (fun f hf=>?_) (zkQ A n J),K⟩;obtain⟨I,a,L,p2⟩:=c.pj f hf;obtain⟨E,b,F,q2⟩:=g.pj f hf;have:=I b (D.mem_iff.2 F);have:=E a (D.mem_iff.1 L);omega
structure Gq(G G':Gs):Prop where
 W:G.W.Perm G'.W
 looks:G.looks=G'.looks
 R:G.R=G'.R
 bs:G.bs=G'.bs
 bf:G.bf=G'.bf
theorem zuv{C:List (Ins × Int)}(hC:C.length≤300){G G' H H':Gs}(hG:GsOk C G)(q:Gq G G')(r:Rd C G H)(r':Rd C G' H'):Gq H H':=by
 obtain⟨k,ys,l,p,hp,l1,l2,o,hs,h,hk,hl,m,hL,hbs,hbf⟩:=r;obtain⟨k',ys',ks',n,hp',l1',l2',f,hs',g,hk',c,d,e,b,a⟩:=r';obtain⟨rfl,j⟩:=TakeD.unique (fun x hx=>(hG.kn x hx).key hC) q.W o f;have i:p=n:=by omega
 subst i;rw [hl] at c;cases c;refine⟨m.trans ((List.Perm.append_right l j).trans d.symm),by rw [hL,e,q.looks],?_,by rw [hbs,b],by rw [hbf,a,q.bf]⟩;rw [q.R,g] at h;simpa using h.symm
theorem zuw{C:List (Ins × Int)}(hC:C.length≤300){G G' H:Gs}(hG:GsOk C G)(q:Gq G G')(r:Rd C G H)(r':Rf C G'):False:=by
 obtain⟨k,ys,ks,p,hp,l1,l2,g,f,d,hk,hl,hW,hL,hbs,hbf⟩:=r;obtain⟨_,h|h|⟨k',ys',b,h⟩⟩:=r'
 ·have:=q.looks;omega
 ·have:=q.W.length_eq;omega
 ·obtain⟨rfl,py⟩:=TakeD.unique (fun x hx=>(hG.kn x hx).key hC) q.W g b;rcases h with h|h|⟨i,hp',hk',a⟩
  ·exact f h
  ·rw [←q.R,d] at h;cases h
  ·have c:p=i:=by omega
   subst c;rw [hl] at a;cases a
theorem zwM{W ys:List Kn}{k:Kn}(h:TakeD W k ys):W≠[]:=by
 obtain⟨zs,c⟩:=h.1.cls;obtain⟨z,a⟩:=c.ne;intro e;have:=c.perm.mem_iff.1 (List.mem_append_left ys a);rw [e] at this;cases this
theorem zyD{C:List (Ins × Int)}{G H:Gs}(r:Rd C G H):G.W≠[]:=by
 obtain⟨k,ys,ks,p,hp,l1,l2,a,_⟩:=r;exact zwM a
inductive Reach(C:List (Ins × Int)):Gs→Prop
 | zero:Reach C gs0
 | step {G G':Gs}:Reach C G→Rd C G G'→Reach C G'
theorem Reach.t{C:List (Ins × Int)}(S:CodeSure C){G:Gs}(h:Reach C G):GsT C G:=by
 induction h with
 | zero=>exact zzP S
 | step _ r ih=>exact rd_t S ih r
theorem zgw{C:List (Ins × Int)}{G H:Gs}(r:Rd C G H):H.looks=G.looks+1:=by
 obtain⟨k,ys,ks,p,hp,l1,l2,ht,hs,he,hk,hl,hW,a,hbs,hbf⟩:=r;exact a
theorem Reach.unique{C:List (Ins × Int)}(S:CodeSure C){G G':Gs}(h:Reach C G)(h':Reach C G')(e:G.looks=G'.looks):Gq G G':=by
 induction h generalizing G' with
 | zero =>
  cases h' with
  | zero=>exact⟨List.Perm.refl _,rfl,rfl,rfl,rfl⟩
  | step _ r=>have:=zgw r;have a:(gs0).looks=0:=rfl;omega
 | step h r ih =>
  cases h' with
  | zero=>have:=zgw r;have a:(gs0).looks=0:=rfl;omega
  | step h2 r2 =>
   have e1:=zgw r;have a:=zgw r2;exact zuv S.ok.few (h.t S).ok (ih h2 (by omega)) r r2
theorem Reach.way{C:List (Ins × Int)}{G:Gs}(h:Reach C G)(n:Nat)(hn:n<G.looks):∃ G1 G2,Reach C G1∧Rd C G1 G2∧G1.looks=n:=by
 induction h with
 | zero=>exact absurd hn (by show ¬n<0;omega)
 | step h r ih =>
  rename_i G G';have e:=zgw r;by_cases a:n=G.looks
  ·exact⟨G,G',h,r,a.symm⟩
  ·exact ih (by omega)
def Verd(C:List (Ins × Int)):Option (Int × Int)→Prop
 | none=>∃ G,Reach C G∧Rf C G
 | some b=>∃ G,Reach C G∧G.W=[]∧G.bs=b.1∧G.bf=b.2
theorem Verd.unique{C:List (Ins × Int)}(S:CodeSure C){a b:Option (Int × Int)}(ha:Verd C a)(hb:Verd C b):a=b:=by
 have m:∀{G d:Gs},Reach C G→Reach C d→G.W=[]→Rf C d→False:=fun{G d} h c j l=>by
  rcases Nat.lt_trichotomy G.looks d.looks with k|k|k
  ·obtain⟨p,s,f,i,e⟩:=c.way _ k;have q:=h.unique S f e.symm;exact zyD i (List.perm_nil.1 (by rw [←j];exact q.W.symm))
  ·have q:=h.unique S c k;exact l.1 (List.perm_nil.1 (by rw [←j];exact q.W.symm))
  ·obtain⟨p,s,f,i,e⟩:=h.way _ k;exact zuw S.ok.few (f.t S).ok (f.unique S c e) i l
 cases a with
 | none =>
  cases b with
  | none=>rfl
  | some b =>
   obtain⟨G,h,l⟩:=ha;obtain⟨d,c,j,_⟩:=hb;exact(m c h j l).elim
 | some a =>
  obtain⟨G,h,j,u,v⟩:=ha;cases b with
  | none =>
   obtain⟨d,c,l⟩:=hb;exact(m h c j l).elim
  | some b =>
   obtain⟨d,c,r,o,n⟩:=hb;have w:G.looks=d.looks:=by
    rcases Nat.lt_trichotomy G.looks d.looks with k|k|k
    ·obtain⟨p,s,f,i,e⟩:=c.way _ k;have q:=h.unique S f e.symm;exact(zyD i (List.perm_nil.1 (by rw [←j];exact q.W.symm))).elim
    ·exact k
    ·obtain⟨p,s,f,i,e⟩:=h.way _ k;have q:=c.unique S f e.symm;exact(zyD i (List.perm_nil.1 (by rw [←r];exact q.W.symm))).elim
   have q:=h.unique S c w;obtain⟨a1,a2⟩:=a;obtain⟨b1,b2⟩:=b;simp only at u v o n;rw [←u,←v,←o,←n,q.bs,q.bf]
theorem Verd.ends{C:List (Ins × Int)}(S:CodeSure C){b:Int × Int}(h:Verd C (some b))(inp:List Int)(hin:∀ x∈inp,i64 x)(N:Nat)(hN:b.1≤(N:Int)):
  ((runS (zcF C) N (zb0 inp)).fin=1∨(runS (zcF C) N (zb0 inp)).fin=2)∧(runS (zcF C) N (zb0 inp)).steps≤b.1∧(runS (zcF C) N (zb0 inp)).peak≤b.2:=by
 obtain⟨G,e,a,c,d⟩:=h;rw [←c,←d];exact(e.t S).ends a inp hin N (by rw [c];exact hN)
theorem Verd.bound{C:List (Ins × Int)}(S:CodeSure C){b:Int × Int}(h:Verd C (some b)):1≤b.1∧b.1≤100000∧1≤b.2∧b.2≤16:=by
 obtain⟨G,a,d,e,f⟩:=h;have ok:=(a.t S).ok;rw [←e,←f];cases a with
 | zero=>cases d
 | step a r =>
  have c:=(a.t S).ok;obtain⟨k,ys,ks,p,hp,l1,l2,g,hs,he,hk,hl,d,hL,hbs,hbf⟩:=r;have K:=(g.1.kn S.ok.few c.kn).1;have:=K.s0;have:=ok.bs1;have:=ok.bf1;omega
end
section
open Go.RowKit Sp
theorem SO.hperm{w:World}{B S g:Nat}{C:List (Ins × Int)}{v mv:Value}{xs hs hs':List Wy}{ms:List Mk}(h:SO w B S g C v mv xs hs ms)(hp:hs.Perm hs'):SO w B S g C v mv xs hs' ms:=by
 have d:(hs++xs).Perm (hs'++xs):=List.Perm.append_right xs hp;have c:∀ z,z∈hs'++xs→z∈hs++xs:=fun z hz=>d.mem_iff.2 hz;exact⟨h.code,h.gB,h.SB,h.SL,h.hp,h.ord,fun x hx=>h.hand x (hp.mem_iff.2 hx),h.mkr,h.mbh,h.vS,h.mS,h.vm,(d.map Wy.b).nodup_iff.1 h.nod,fun x hx=>by
  obtain⟨i,f,e⟩:=h.far x (c x hx);exact⟨i,f,fun a ha=>⟨(e a ha).1,fun z hz=>(e a ha).2 z (c z hz)⟩⟩,fun m hm a ha=>⟨(h.mfar m hm a ha).1,fun z hz=>(h.mfar m hm a ha).2 z (c z hz)⟩⟩
def zkR(w:World)(S:Nat):Nat:=match w.cell? ⟨S,1,none⟩ with|some (.slice _ n _)=>n|_=>0
theorem zka{w:World}{S n cap:Nat}{ao:Option Addr}(h:w.cell? ⟨S,1,none⟩=some (.slice ao n cap)):zkR w S=n:=by unfold zkR;rw [h]
theorem zm7{w:World}{B:Nat}{v:Value}{xs:List Wy}(h:HeapM w B v xs)(hp:0<xs.length):∃ H cap,v=.slice (some ⟨H,0,none⟩) xs.length cap:=by
 obtain⟨g,cap,e,_⟩:=h.row.form hp;exact⟨g,cap,e⟩
theorem zoe{W ys:List Kn}{k:Kn}(h:TakeR W k ys):∀ y∈ys,keyK k≤keyK y:=by
 obtain⟨zs,c⟩:=h.cls;exact c.least
theorem zwN{W:List Kn}{k:Kn}{ys:List Wy}(h:TakeR W k (ys.map Wy.k))(hA:HpAll (stp ys) ys.length)(hk:KeyOk k)(hy:∀ y∈ys,KeyOk y.k)(h0:0<ys.length→¬Meet (ys.getD 0 wy0).k k):TakeD W k (ys.map Wy.k):=by
 refine⟨h,fun y hm hM=>?_⟩;obtain⟨x,e,rfl⟩:=List.mem_map.1 hm;obtain⟨i,c,a⟩:=List.mem_iff_getElem.1 e;have d:0<ys.length:=by omega
 have h1:=hA.least i c;have e1:stp ys 0=keyK (ys.getD 0 wy0).k:=rfl;have e2:stp ys i=keyK x.k:=by unfold stp;rw [←a];simp [List.getD,c]
 have b:ys.getD 0 wy0∈ys:=by simp [List.getD,d]
 have h2:=zoe h _ (List.mem_map_of_mem b);have h3:=hM.key;exact h0 d (zkQ (hy _ b) hk (by omega))
def ziN(w:World)(B S g:Nat)(C:List (Ins × Int))(cv mv:Value)(R:Rs)(looks:Nat)(bs bf:Int)(W:List Kn):Ending→World→Prop:=fun e w'=>∃(v:Value) (ys:List Wy) (x:Wy),e=.returned (.pointer (some ⟨x.b,0,none⟩))∧SO w' B S g C v mv ys [x] R.marked∧SC w' S cv v mv R looks bs bf∧TakeD W x.k (ys.map Wy.k)∧Below B w w'
theorem ziO{w w0:World}{B S g H cap:Nat}{C:List (Ins × Int)}{cv mv:Value}{R:Rs}{looks:Nat}{bs bf:Int}{xs hs:List Wy}(O:SO w B S g C (.slice (some ⟨H,0,none⟩) xs.length cap) mv xs hs R.marked)(c:SC w S cv (.slice (some ⟨H,0,none⟩) xs.length cap) mv R looks bs bf)(hb:Below B w0 w)(hne:0<xs.length)(hlen:xs.length≤100000):
  qC 139 #[.pointer (some ⟨S,1,none⟩)] w fun e w'=>∃ ys:List Wy,e=.returned (.pointer (some ⟨(xs.getD 0 wy0).b,0,none⟩))∧(xs.getD 0 wy0 :: ys).Perm xs∧SO w' B S g C (.slice (some ⟨H,0,none⟩) ys.length cap) mv ys (xs.getD 0 wy0 :: hs) R.marked∧SC w' S cv (.slice (some ⟨H,0,none⟩) ys.length cap) mv R looks bs bf∧Below B w0 w':=by
 have f:¬S=H:=fun e=>O.vS (by rw [e];rfl);have h:B≤w.heap.size:=by have:=O.SB;have:=O.SL;omega
 refine(zus (B:=B) c.c1 (c.fz 1) O.hp O.ord hne hlen f (fun y hy=>?_)).mono ?_
 ·obtain⟨_,i,k⟩:=O.far y (List.mem_append_right _ hy);exact⟨i.1,fun a ha=>(k a ha).1.1⟩
 ·rintro e w' ⟨rfl,ys,hp,j,n,l,m,d⟩;refine⟨ys,rfl,hp,O.took d hp n l m,(c.one (o:=1) d.cell d.fz j).1 rfl,hb.trans (ziM d O.SB h (fun q hq=>?_))⟩;cases hq;exact(O.hp.row.lt H rfl).1
theorem zyE{w w0:World}{B S g:Nat}{C:List (Ins × Int)}{cv v mv:Value}{R:Rs}{looks:Nat}{bs bf:Int}{xs:List Wy}{x y:Wy}(O:SO w B S g C v mv xs [y,x] R.marked)(c:SC w S cv v mv R looks bs bf)(hb:Below B w0 w):
  qC 142 #[.pointer (some ⟨x.b,0,none⟩),.pointer (some ⟨y.b,0,none⟩)] w fun e w'=>e=.returned (.tuple #[])∧SO w' B S g C v mv xs [⟨x.b,x.ao,x.cap,zfJ x.k y.k⟩] R.marked∧SC w' S cv v mv R looks bs bf∧Below B w0 w':=by
 have d:SO w B S g C v mv xs [x,y] R.marked:=O.hperm (List.Perm.swap x y []);have X:=d.hand x (by simp);have Y:=d.hand y (by simp);have i:¬y.b=x.b:=by
  have j:=d.nod;have l:=(List.nodup_cons.1 (show(x.b :: ([y]++xs).map Wy.b).Nodup from j)).1;intro e;exact l (by rw [←e];simp)
 have far:=d.far x (by simp);have h:B≤w.heap.size:=by have:=O.SB;have:=O.SL;omega
 refine(zuj X.kn Y.kn i).mono ?_;rintro e w' ⟨rfl,n,f⟩;have p:WyM w' ⟨x.b,x.ao,x.cap,zfJ x.k y.k⟩:=⟨⟨X.key.next,X.key.behind⟩,n,X.bh.grown f (fun a ha=>(far.2.2 a ha).2 x (by simp))⟩
 have o:=d.turn (rs:=[⟨x.b,x.ao,x.cap,zfJ x.k y.k⟩]) f (fun z hz=>by rw [List.mem_singleton.1 hz];exact p) (fun z hz=>by rw [List.mem_singleton.1 hz];exact .inl rfl) (by simp) (fun z hz a ha=>by
  rw [List.mem_singleton.1 hz] at ha;exact⟨.inl ha,fun u hu=>by rw [List.mem_singleton.1 hu];exact(far.2.2 a ha).2 x (by simp)⟩)
 have m:SO w' B S g C v mv xs [y,⟨x.b,x.ao,x.cap,zfJ x.k y.k⟩] R.marked:=o.hperm (List.Perm.swap y ⟨x.b,x.ao,x.cap,zfJ x.k y.k⟩ []);refine⟨rfl,m.drop,c.block (f.block S O.SL (fun e=>far.2.1.1 (by cases e;rfl))),hb.grown f h (fun q hq=>by cases hq;exact far.1)⟩
theorem zkb{w wr:World}{B S g:Nat}{C:List (Ins × Int)}{cv v mv:Value}{R:Rs}{looks:Nat}{bs bf:Int}{W:List Kn}{ys:List Wy}{x:Wy}(O:SO wr B S g C v mv ys [x] R.marked)(c:SC wr S cv v mv R looks bs bf)(ht:TakeR W x.k (ys.map Wy.k))(hb:Below B w wr)(h0:0<ys.length→¬Meet (ys.getD 0 wy0).k x.k):
  ziN w B S g C cv mv R looks bs bf W (.returned (.pointer (some ⟨x.b,0,none⟩))) wr :=
 ⟨v,ys,x,rfl,O,c,zwN ht O.ord (O.hand x (by simp)).key (fun y hy=>(O.hp.wy y hy).key) h0,hb⟩
theorem zwO{w:World}{B S g:Nat}{C:List (Ins × Int)}{cv v mv:Value}{R:Rs}{looks:Nat}{bs bf:Int}{xs:List Wy}(O:SO w B S g C v mv xs [] R.marked)(c:SC w S cv v mv R looks bs bf)(hne:0<xs.length)(hlen:xs.length≤100000):
  qC 117 #[.pointer (some ⟨S,0,none⟩)] w (ziN w B S g C cv mv R looks bs bf (xs.map Wy.k)):=by
 obtain⟨H,cap,rfl⟩:=zm7 O.hp hne;have L:=ziO (w0:=w) O c (Below.refl _ _) hne hlen;have M:Hid (∀ a:List Wy,(xs.getD 0 wy0 :: a).Perm xs→TakeR (xs.map Wy.k) (xs.getD 0 wy0).k (a.map Wy.k)∧a.length≤100000):=fun a hp=>by
  refine⟨.one (hp.map Wy.k) (fun y hy=>?_),by have:=hp.length_eq;rw [List.length_cons] at this;omega⟩;obtain⟨z,hz,rfl⟩:=List.mem_map.1 hy;obtain⟨i,hi,N⟩:=List.mem_iff_getElem.1 (hp.mem_iff.1 (List.mem_cons_of_mem _ hz));have L:=O.ord.least i hi;have e2:stp xs i=keyK z.k:=by unfold stp;rw [←N];simp [List.getD,hi]
  have e1:stp xs 0=keyK (xs.getD 0 wy0).k:=rfl;omega
 generalize T:xs.getD 0 wy0=x0 at L M;clear T;generalize xs.map Wy.k=W0 at M ⊢;clear O c;go_enter Tryz.func117,Tryz.ntmps117;go_wp2_with(go_at_call 139;(with_reducible refine L.mono ?_);rintro e w1 ⟨E,rfl,J,O1,c1,I⟩)
 obtain⟨t1,l1⟩:=M.out E J;clear L M J hne hlen
 go_loopw [] (fun wr=>∃(v:Value) (a:List Wy) (ao:Option Addr) (cap:Nat) (k:Kn),SO wr B S g C v mv a [⟨x0.b,ao,cap,k⟩] R.marked∧SC wr S cv v mv R looks bs bf∧TakeR W0 k (a.map Wy.k)∧Below B w wr∧a.length≤100000) (fun wr=>zkR wr S)
 case atStart=>exact⟨_,E,x0.ao,x0.cap,x0.k,O1,c1,t1,I,l1⟩
 case round =>
  obtain⟨v,a,ao,f,k,j,t,K,p,lr⟩:=hrel;clear O1 c1 t1 I l1;by_cases h0:a.length=0
  ·obtain⟨ab,d,rfl,_,_,_⟩:=zdV j.hp.row;have G:=zkb (x:=⟨x0.b,ao,f,k⟩) j t K p (fun h=>absurd h (by omega));have cc:=t.c1;rw [h0] at cc;have Z:=fun W=>zgp W ab 0 d (by omega);clear j t K p;go_wp2_with(go_at_call 114;(with_reducible refine(Z _).mono ?_);rintro e wx ⟨rfl,o⟩;have r:=o.symm;subst r)
   go_ret;exact G
  ·obtain⟨V,d,rfl⟩:=zm7 j.hp (by omega);have cc:=t.c1;have Z:=fun W=>zgp W (some ⟨V,0,none⟩) a.length d (by omega);have hpos:(0:Int)<(a.length:Int):=by omega
   have l:=(j.hp.hp.1.at' (i:=0) (by omega))
   have F:=zrq (n:=a.length) (cap:=d) (by omega) l.1;have X:=j.hand ⟨x0.b,ao,f,k⟩ (by simp);have A:=zro l.2.kn X.kn l.2.bh X.bh l.2.key X.key;have s:Hid (∀ W,qB wr W→¬Meet (a.getD 0 wy0).k k→ziN w B S g C cv mv R looks bs bf W0 (.returned (.pointer (some ⟨x0.b,0,none⟩))) W):=fun W hW hn=>zkb (x:=⟨x0.b,ao,f,k⟩) (j.below hW) (t.block (hW.block S j.SL)) K (p.trans (hW.mono (by have:=j.SB;have:=j.SL;omega))) (fun _=>hn);have D:Hid (∀ W,qB wr W→qC 139 #[.pointer (some ⟨S,1,none⟩)] W fun e w'=>∃ m:List Wy,e=.returned (.pointer (some ⟨(a.getD 0 wy0).b,0,none⟩))∧(a.getD 0 wy0 :: m).Perm a∧SO w' B S g C (.slice (some ⟨V,0,none⟩) m.length d) mv m (a.getD 0 wy0 :: [⟨x0.b,ao,f,k⟩]) R.marked∧SC w' S cv (.slice (some ⟨V,0,none⟩) m.length d) mv R looks bs bf∧Below B w w'):=fun W hW=>ziO (j.below hW) (t.block (hW.block S j.SL)) (p.trans (hW.mono (by have:=j.SB;have:=j.SL;omega))) (by omega) lr;have q:Hid (∀ m:List Wy,(a.getD 0 wy0 :: m).Perm a→Meet (a.getD 0 wy0).k k→TakeR W0 (zfJ k (a.getD 0 wy0).k) (m.map Wy.k)∧m.length<a.length):=fun m hp hm=>⟨.more K (hp.map Wy.k) hm,by have:=hp.length_eq;rw [List.length_cons] at this;omega⟩
   have U:Hid (zkR wr S=a.length):=zka t.c1;generalize a.getD 0 wy0=y0 at l F A s D q;obtain⟨at1,ac⟩:=l;clear j t K p X ac;go_wp2_with(first
    | (go_at_call 114;(with_reducible refine(Z _).mono ?_);rintro e wx ⟨rfl,o⟩;have r:=o.symm;subst r)
    | (go_at_call 140;(with_reducible refine F.mono ?_);rintro e wx ⟨rfl,o⟩;have r:=o.symm;subst r)
    | (go_at_call 141;(with_reducible refine A.mono ?_);rintro e wm ⟨bb,rfl,u,mt,mf⟩;have Y:=D.out wm u)
    | (go_at_call 139;(with_reducible refine Y.mono ?_);rintro e wt ⟨m,rfl,P,Oz,cz,Q⟩;have aa:=zyE Oz cz Q)
    | (go_at_call 142;(with_reducible refine aa.mono ?_);rintro e wj ⟨rfl,Oj,cj,ad⟩))
   ·rename_i hx;obtain⟨t2,l2⟩:=q.out m P (mt (by simpa using hx));exact⟨⟨_,m,ao,f,_,Oj,cj,t2,ad,by omega⟩,by rw [zka cj.c1,U.out];exact l2⟩
   ·rename_i hx;go_ret;exact s.out wm u (mf (by simpa using hx))
end
end Go.Proofs.YtfpgjkbjbbgciaaGreatDoor
