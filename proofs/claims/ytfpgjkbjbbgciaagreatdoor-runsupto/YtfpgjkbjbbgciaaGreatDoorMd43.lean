import Derived.Test.YtfpgjkbjbbgciaaGreatDoorMd41
set_option maxRecDepth 100000
set_option maxHeartbeats 8000000
namespace Go.Proofs.YtfpgjkbjbbgciaaGreatDoor
open Sp
inductive Pj:(Kn→Int)→Prop
 | rlo (r:Nat):Pj fun k=>(k.regs r).lo
 | rhi (r:Nat):Pj fun k=>-(k.regs r).hi
 | clo (c:Nat):Pj fun k=>(k.cells c).lo
 | chi (c:Nat):Pj fun k=>-(k.cells c).hi
theorem Pj.join{f:Kn→Int}(h:Pj f)(k o:Kn):f (zf1 k o)=min (f k) (f o):=by
 cases h with
 | rlo r=>rfl
 | rhi r=>show -(max (k.regs r).hi (o.regs r).hi)=min (-(k.regs r).hi) (-(o.regs r).hi);omega
 | clo c=>rfl
 | chi c=>show -(max (k.cells c).hi (o.cells c).hi)=min (-(k.cells c).hi) (-(o.cells c).hi);omega
theorem Rg.ext'{a b:Rg}(h1:a.lo=b.lo)(h2:a.hi=b.hi):a=b:=by cases a;cases b;simp_all
theorem zyx{k o:Kn}(h:∀ f,Pj f→f k=f o)(m:Meet k o):k=o:=by
 have e1:k.regs=o.regs:=funext fun r=>Rg.ext' (h _ (.rlo r)) (by have:=h _ (.rhi r);omega)
 have e2:k.cells=o.cells:=funext fun r=>Rg.ext' (h _ (.clo r)) (by have:=h _ (.chi r);omega)
 obtain⟨m1,m2,m3⟩:=m
 cases k;cases o
 simp only at e1 e2 m1 m2 m3
 subst e1;subst e2;subst m1;subst m2;subst m3;rfl
theorem Meet.key{y k:Kn}(h:Meet y k):keyK y=keyK k:=by unfold keyK;rw [h.1,h.2.1,h.2.2]
theorem zkr{y k:Kn}(hy:KeyOk y)(hk:KeyOk k)(h:keyK y=keyK k):Meet y k:=by
 obtain⟨c1,c2,c3⟩:=zns hy hk
 by_cases h0:cmpK y k=0
 ·exact c2 h0
 ·by_cases h1:cmpK y k<0
  ·have:=c1 h1;omega
  ·have:=c3 (by omega);omega
structure TakeC(W:List Kn)(k:Kn)(ys zs:List Kn):Prop where
 perm:(zs++ys).Perm W
 ne:∃ z,z∈zs
 meet:∀ z∈zs,Meet z k
 pj:∀ f,Pj f→(∀ z∈zs,f k≤f z)∧∃ z∈zs,f k=f z
 least:∀ y∈ys,keyK k≤keyK y
theorem TakeR.cls{W ys:List Kn}{k:Kn}(h:TakeR W k ys):∃ zs,TakeC W k ys zs:=by
 induction h with
 | one hp hl =>
  rename_i k ys
  exact⟨[k],hp,⟨k,zbL _⟩,fun z hz=>by rw [List.mem_singleton.1 hz];exact⟨rfl,rfl,rfl⟩,fun f _=>⟨fun z hz=>by rw [List.mem_singleton.1 hz];exact Int.le_refl _,k,zbL _,rfl⟩,hl⟩
 | more h1 hp hm ih =>
  rename_i k y ys zs
  obtain⟨cs,c⟩:=ih
  have hkey:keyK (zf1 k y)=keyK k:=rfl
  refine⟨y :: cs,?_,⟨y,List.mem_cons_self⟩,fun z hz=>?_,fun f hf=>?_,fun x hx=>?_⟩
  ·refine List.Perm.trans ?_ c.perm
   show(y :: (cs++zs)).Perm _
   exact(List.perm_middle (l₁:=cs) (a:=y) (l₂:=zs)).symm.trans (List.Perm.append_left cs hp)
  ·rcases List.mem_cons.1 hz with e|e
   ·rw [e];exact hm
   ·exact c.meet z e
  ·obtain⟨p1,z0,hz0,p2⟩:=c.pj f hf
   rw [hf.join]
   refine⟨fun z hz=>?_,?_⟩
   ·rcases List.mem_cons.1 hz with e|e
    ·rw [e];omega
    ·have:=p1 z e;omega
   ·by_cases hle:f k≤f y
    ·exact⟨z0,List.mem_cons_of_mem _ hz0,by omega⟩
    ·exact⟨y,List.mem_cons_self,by omega⟩
  ·rw [hkey];exact c.least x (hp.mem_iff.1 (List.mem_cons_of_mem _ hx))
theorem zfc{α:Type}{p:α→Bool}{l:List α}(h:∀ x∈l,p x=true):l.filter p=l:=List.filter_eq_self.2 h
theorem zem{α:Type}{p:α→Bool}{l:List α}(h:∀ x∈l,p x=false):l.filter p=[]:=List.filter_eq_nil_iff.2 fun x hx=>by rw [h x hx];simp
theorem TakeD.unique{W W' ys ys':List Kn}{k k':Kn}(hW:∀ x∈W,KeyOk x)(hP:W.Perm W')(h:TakeD W k ys)(h':TakeD W' k' ys'):k=k'∧ys.Perm ys':=by
 obtain⟨zs,c⟩:=h.1.cls
 obtain⟨zs',c'⟩:=h'.1.cls
 have kk:∀ x,x∈zs++ys→KeyOk x:=fun x hx=>hW x (c.perm.mem_iff.1 hx)
 have kk':∀ x,x∈zs'++ys'→KeyOk x:=fun x hx=>hW x (hP.mem_iff.2 (c'.perm.mem_iff.1 hx))
 obtain⟨z,hz⟩:=c.ne
 obtain⟨z',hz'⟩:=c'.ne
 have mz:=c.meet z hz
 have mz':=c'.meet z' hz'
 have hk:KeyOk k:=by have q:=kk z (List.mem_append_left _ hz);exact⟨by rw [←mz.1];exact q.next,by rw [←mz.2.1];exact q.behind⟩
 have hk':KeyOk k':=by have q:=kk' z' (List.mem_append_left _ hz');exact⟨by rw [←mz'.1];exact q.next,by rw [←mz'.2.1];exact q.behind⟩
 have lt:∀ y∈ys,keyK k<keyK y:=fun y hy=>by
  have h1:=c.least y hy
  by_cases e:keyK y=keyK k
  ·exact absurd (zkr (kk y (List.mem_append_right _ hy)) hk e) (h.2 y hy)
  ·omega
 have lt':∀ y∈ys',keyK k'<keyK y:=fun y hy=>by
  have h1:=c'.least y hy
  by_cases e:keyK y=keyK k'
  ·exact absurd (zkr (kk' y (List.mem_append_right _ hy)) hk' e) (h'.2 y hy)
  ·omega
 have ek:keyK k=keyK k':=by
  have a1:keyK k≤keyK k':=by
   have hm:z'∈zs++ys:=c.perm.mem_iff.2 (hP.mem_iff.2 (c'.perm.mem_iff.1 (List.mem_append_left _ hz')))
   rw [←mz'.key]
   rcases List.mem_append.1 hm with e|e
   ·rw [(c.meet z' e).key];exact Int.le_refl _
   ·have:=lt z' e;omega
  have a2:keyK k'≤keyK k:=by
   have hm:z∈zs'++ys':=c'.perm.mem_iff.2 (hP.mem_iff.1 (c.perm.mem_iff.1 (List.mem_append_left _ hz)))
   rw [←mz.key]
   rcases List.mem_append.1 hm with e|e
   ·rw [(c'.meet z e).key];exact Int.le_refl _
   ·have:=lt' z e;omega
  omega
 have f1:((zs++ys).filter fun x=>decide (keyK x=keyK k))=zs:=by
  rw [List.filter_append,zfc (fun x hx=>by simpa using (c.meet x hx).key),zem (fun x hx=>by have:=lt x hx;simp;omega),List.append_nil]
 have f2:((zs++ys).filter fun x=>!decide (keyK x=keyK k))=ys:=by
  rw [List.filter_append,zem (fun x hx=>by simp [(c.meet x hx).key]),zfc (fun x hx=>by have:=lt x hx;simp;omega),List.nil_append]
 have f1':((zs'++ys').filter fun x=>decide (keyK x=keyK k))=zs':=by
  rw [ek,List.filter_append,zfc (fun x hx=>by simpa using (c'.meet x hx).key),zem (fun x hx=>by have:=lt' x hx;simp;omega),List.append_nil]
 have f2':((zs'++ys').filter fun x=>!decide (keyK x=keyK k))=ys':=by
  rw [ek,List.filter_append,zem (fun x hx=>by simp [(c'.meet x hx).key]),zfc (fun x hx=>by have:=lt' x hx;simp;omega),List.nil_append]
 have hp:(zs++ys).Perm (zs'++ys'):=c.perm.trans (hP.trans c'.perm.symm)
 have pz:zs.Perm zs':=by have:=hp.filter fun x=>decide (keyK x=keyK k);rwa [f1,f1'] at this
 have py:ys.Perm ys':=by have:=hp.filter fun x=>!decide (keyK x=keyK k);rwa [f2,f2'] at this
 refine⟨zyx (fun f hf=>?_) (zkr hk hk' ek),py⟩
 obtain⟨p1,a,ha,p2⟩:=c.pj f hf
 obtain⟨q1,b,hb,q2⟩:=c'.pj f hf
 have:=p1 b (pz.mem_iff.2 hb)
 have:=q1 a (pz.mem_iff.1 ha)
 omega
structure Gq(G G':Gs):Prop where
 W:G.W.Perm G'.W
 looks:G.looks=G'.looks
 R:G.R=G'.R
 bs:G.bs=G'.bs
 bf:G.bf=G'.bf
theorem zt0{C:List (Ins × Int)}(hC:C.length≤300){G G' H H':Gs}(hG:GsOk C G)(q:Gq G G')(r:Rd C G H)(r':Rd C G' H'):Gq H H':=by
 obtain⟨k,ys,ks,p,hp,l1,l2,ht,hs,he,hk,hl,hW,hL,hbs,hbf⟩:=r
 obtain⟨k',ys',ks',p',hp',l1',l2',ht',hs',he',hk',hl',hW',hL',hbs',hbf'⟩:=r'
 obtain⟨rfl,py⟩:=TakeD.unique (fun x hx=>(hG.kn x hx).key hC) q.W ht ht'
 have ep:p=p':=by omega
 subst ep
 rw [hl] at hl'
 cases hl'
 refine⟨hW.trans ((List.Perm.append_right ks py).trans hW'.symm),by rw [hL,hL',q.looks],?_,by rw [hbs,hbs'],by rw [hbf,hbf',q.bf]⟩
 rw [q.R,he'] at he
 simpa using he.symm
theorem zt1{C:List (Ins × Int)}(hC:C.length≤300){G G' H:Gs}(hG:GsOk C G)(q:Gq G G')(r:Rd C G H)(r':Rf C G'):False:=by
 obtain⟨k,ys,ks,p,hp,l1,l2,ht,hs,he,hk,hl,hW,hL,hbs,hbf⟩:=r
 obtain⟨_,h|h|⟨k',ys',ht',h⟩⟩:=r'
 ·have:=q.looks;omega
 ·have:=q.W.length_eq;omega
 ·obtain⟨rfl,py⟩:=TakeD.unique (fun x hx=>(hG.kn x hx).key hC) q.W ht ht'
  rcases h with h|h|⟨p',hp',hk',hl'⟩
  ·exact hs h
  ·rw [←q.R,he] at h;cases h
  ·have ep:p=p':=by omega
   subst ep
   rw [hl] at hl';cases hl'
theorem zvJ{W ys:List Kn}{k:Kn}(h:TakeD W k ys):W≠[]:=by
 obtain⟨zs,c⟩:=h.1.cls
 obtain⟨z,hz⟩:=c.ne
 intro e
 have:=c.perm.mem_iff.1 (List.mem_append_left ys hz)
 rw [e] at this;cases this
theorem zx4{C:List (Ins × Int)}{G H:Gs}(r:Rd C G H):G.W≠[]:=by
 obtain⟨k,ys,ks,p,hp,l1,l2,ht,_⟩:=r
 exact zvJ ht
inductive Reach(C:List (Ins × Int)):Gs→Prop
 | zero:Reach C gs0
 | step {G G':Gs}:Reach C G→Rd C G G'→Reach C G'
theorem Reach.t{C:List (Ins × Int)}(S:CodeSure C){G:Gs}(h:Reach C G):GsT C G:=by
 induction h with
 | zero=>exact zyE S
 | step _ r ih=>exact rd_t S ih r
theorem zgc{C:List (Ins × Int)}{G H:Gs}(r:Rd C G H):H.looks=G.looks+1:=by
 obtain⟨k,ys,ks,p,hp,l1,l2,ht,hs,he,hk,hl,hW,hL,hbs,hbf⟩:=r
 exact hL
theorem Reach.unique{C:List (Ins × Int)}(S:CodeSure C){G G':Gs}(h:Reach C G)(h':Reach C G')(e:G.looks=G'.looks):Gq G G':=by
 induction h generalizing G' with
 | zero =>
  cases h' with
  | zero=>exact⟨List.Perm.refl _,rfl,rfl,rfl,rfl⟩
  | step _ r=>have:=zgc r;have e2:(gs0).looks=0:=rfl;omega
 | step h r ih =>
  cases h' with
  | zero=>have:=zgc r;have e2:(gs0).looks=0:=rfl;omega
  | step h2 r2 =>
   have e1:=zgc r
   have e2:=zgc r2
   exact zt0 S.ok.few (h.t S).ok (ih h2 (by omega)) r r2
theorem Reach.way{C:List (Ins × Int)}{G:Gs}(h:Reach C G)(n:Nat)(hn:n<G.looks):∃ G1 G2,Reach C G1∧Rd C G1 G2∧G1.looks=n:=by
 induction h with
 | zero=>exact absurd hn (by show ¬n<0;omega)
 | step h r ih =>
  rename_i G G'
  have e:=zgc r
  by_cases hl:n=G.looks
  ·exact⟨G,G',h,r,hl.symm⟩
  ·exact ih (by omega)
def Verd(C:List (Ins × Int)):Option (Int × Int)→Prop
 | none=>∃ G,Reach C G∧Rf C G
 | some b=>∃ G,Reach C G∧G.W=[]∧G.bs=b.1∧G.bf=b.2
theorem Verd.unique{C:List (Ins × Int)}(S:CodeSure C){a b:Option (Int × Int)}(ha:Verd C a)(hb:Verd C b):a=b:=by
 have key:∀{G G':Gs},Reach C G→Reach C G'→G.W=[]→Rf C G'→False:=fun{G G'} h h' hW hR=>by
  rcases Nat.lt_trichotomy G.looks G'.looks with hl|hl|hl
  ·obtain⟨G1,G2,r1,r2,e⟩:=h'.way _ hl
   have q:=h.unique S r1 e.symm
   exact zx4 r2 (List.perm_nil.1 (by rw [←hW];exact q.W.symm))
  ·have q:=h.unique S h' hl
   exact hR.1 (List.perm_nil.1 (by rw [←hW];exact q.W.symm))
  ·obtain⟨G1,G2,r1,r2,e⟩:=h.way _ hl
   exact zt1 S.ok.few (r1.t S).ok (r1.unique S h' e) r2 hR
 cases a with
 | none =>
  cases b with
  | none=>rfl
  | some b =>
   obtain⟨G,h,hR⟩:=ha
   obtain⟨G',h',hW,_⟩:=hb
   exact(key h' h hW hR).elim
 | some a =>
  obtain⟨G,h,hW,h1,h2⟩:=ha
  cases b with
  | none =>
   obtain⟨G',h',hR⟩:=hb
   exact(key h h' hW hR).elim
  | some b =>
   obtain⟨G',h',hW',h1',h2'⟩:=hb
   have eL:G.looks=G'.looks:=by
    rcases Nat.lt_trichotomy G.looks G'.looks with hl|hl|hl
    ·obtain⟨G1,G2,r1,r2,e⟩:=h'.way _ hl
     have q:=h.unique S r1 e.symm
     exact(zx4 r2 (List.perm_nil.1 (by rw [←hW];exact q.W.symm))).elim
    ·exact hl
    ·obtain⟨G1,G2,r1,r2,e⟩:=h.way _ hl
     have q:=h'.unique S r1 e.symm
     exact(zx4 r2 (List.perm_nil.1 (by rw [←hW'];exact q.W.symm))).elim
   have q:=h.unique S h' eL
   obtain⟨a1,a2⟩:=a
   obtain⟨b1,b2⟩:=b
   simp only at h1 h2 h1' h2'
   rw [←h1,←h2,←h1',←h2',q.bs,q.bf]
theorem Verd.bound{C:List (Ins × Int)}(S:CodeSure C){b:Int × Int}(h:Verd C (some b)):1≤b.1∧b.1≤100000∧1≤b.2∧b.2≤16:=by
 obtain⟨G,hr,hW,h1,h2⟩:=h
 have ok:=(hr.t S).ok
 rw [←h1,←h2]
 cases hr with
 | zero=>cases hW
 | step hr r =>
  have ok0:=(hr.t S).ok
  obtain⟨k,ys,ks,p,hp,l1,l2,ht,hs,he,hk,hl,hW,hL,hbs,hbf⟩:=r
  have K:=(ht.1.kn S.ok.few ok0.kn).1
  have:=K.s0
  have:=ok.bs1
  have:=ok.bf1
  omega
end Go.Proofs.YtfpgjkbjbbgciaaGreatDoor
namespace Go.Proofs.YtfpgjkbjbbgciaaGreatDoor
open Go.RowKit Sp
theorem zn0{w W:World}{S o B cap:Nat}{ao:Option Addr}{R:Rs}{m:Mk}(h:RsC w S o (.slice ao R.marked.length cap) R)(M:w.ownsRow B 217 51 (.slice ao R.marked.length cap) R.marked.length (zbs R.marked))(hm:zbR R.steps=false)(hmS:(Value.slice ao R.marked.length cap).ownBlock≠some S)(hW:Below w.heap.size w W)(c:Bool)(hc:(R.covers&&(decide (R.seen<R.marked.length)&&zcu m.k (R.marked.getD R.seen mk0).k))=c):
  zdn w S o B (.slice ao R.marked.length cap) (R.see m) (.returned (.tuple #[])) ((W.setCell ⟨S,o+3,none⟩ (.bool c)).setCell ⟨S,o+2,none⟩ (.int .i64 ((R.seen:Int)+1))):=by
 have hS5:S<w.heap.size:=World.block_lt_of_cell? _ _ h.cM
 have q:=h.below hW
 have q1:RsC (W.setCell ⟨S,o+3,none⟩ (.bool c)) S o (.slice ao R.marked.length cap) ⟨R.marked,R.steps,R.seen,c⟩:=q.set (o+3) _ _ q.cC (by rw [if_neg (by omega)]) (by rw [if_neg (by omega)]) (by rw [if_neg (by omega)]) (by rw [if_pos rfl])
 have q2:RsC ((W.setCell ⟨S,o+3,none⟩ (.bool c)).setCell ⟨S,o+2,none⟩ (.int .i64 ((R.seen:Int)+1))) S o (.slice ao R.marked.length cap) ⟨R.marked,R.steps,R.seen+1,c⟩:=q1.set (o+2) _ _ q1.cN (by rw [if_neg (by omega)]) (by rw [if_neg (by omega)]) (by rw [if_pos rfl];go_num) (by rw [if_neg (by omega)])
 have eR:R.see m=⟨R.marked,R.steps,R.seen+1,c⟩:=by unfold Rs.see;rw [hm,←hc];simp
 refine⟨rfl,.slice ao R.marked.length cap,by rw [eR];exact q2,?_,fun q hq=>.inl hq,(zcL hS5 hW).trans ((zcx q.cC (by omega)).trans (zcx q1.cN (by omega)))⟩
 rw [eR]
 refine zcr M (fun g hg=>?_)
 have hgS:¬g=S:=fun e=>hmS (by rw [hg,e])
 exact(Below.heap_setCell _ _ _ g hgS).trans ((Below.heap_setCell _ _ _ g hgS).trans (hW.block g (M.lt g hg).2))
theorem zq9{w:World}{S o B cap:Nat}{ao:Option Addr}{R:Rs}{x:Wy}(h:RsC w S o (.slice ao R.marked.length cap) R)(fz:∀ j,w.frozen? ⟨S,j,none⟩=false)(hm:zbR R.steps=false)(s0:0≤R.steps)(s1:R.steps≤100000)(M:w.ownsRow B 217 51 (.slice ao R.marked.length cap) R.marked.length (zbs R.marked))(hmS:(Value.slice ao R.marked.length cap).ownBlock≠some S)(hl:R.marked.length≤500000)(hn:R.seen≤500000)(hcv:R.covers=false):
  Calls Tryz.prog 152 #[.pointer (some ⟨S,o,none⟩),.pointer (some ⟨x.b,0,none⟩)] w (zdn w S o B (.slice ao R.marked.length cap) (R.see ⟨x.ao,x.cap,x.k⟩)):=by
 have eC:(R.covers&&(decide (R.seen<R.marked.length)&&zcu x.k (R.marked.getD R.seen mk0).k))=false:=by rw [hcv];rfl
 have hS:S<w.heap.size:=World.block_lt_of_cell? w _ h.cM
 have hmk0:Calls Tryz.prog 167 #[.pointer (some ⟨S,o,none⟩)] w fun e w'=>e=.returned (.bool false)∧Below w.heap.size w w':=by
  have:=zcK h.cS s0 s1
  rw [hm] at this;exact this
 have hmk:∀ W,Below w.heap.size w W→Calls Tryz.prog 167 #[.pointer (some ⟨S,o,none⟩)] W fun e w'=>e=.returned (.bool false)∧Below w.heap.size w w':=fun W hW=>by
  have:=zcK (h.below hW).cS s0 s1
  rw [hm] at this
  exact this.mono fun e w' hh=>⟨hh.1,hW.trans (hh.2.mono hW.size)⟩
 have HE:∀ W,Below w.heap.size w W→RsC W S o (.slice ao R.marked.length cap) R∧∀ j,W.frozen? ⟨S,j,none⟩=false:=fun W hW=>⟨h.below hW,fun j=>(World.frozen?_of_block (a:=⟨S,j,none⟩) (hW.block S hS)).trans (fz j)⟩
 have HEND:∀ W,Below w.heap.size w W→zdn w S o B (.slice ao R.marked.length cap) (R.see ⟨x.ao,x.cap,x.k⟩) (.returned (.tuple #[])) ((W.setCell ⟨S,o+3,none⟩ (.bool false)).setCell ⟨S,o+2,none⟩ (.int .i64 ((R.seen:Int)+1))):=fun W hW=>zn0 h M hm hmS hW false eC
 have hn0:(0:Int)≤(R.seen:Int):=by omega
 have hn1:(R.seen:Int)≤500000:=by omega
 have hl1:(R.marked.length:Int)≤500000:=by omega
 have HF:∀ W,Below w.heap.size w W→W.cell? ⟨S,o,none⟩=some (.slice ao R.marked.length cap)∧W.cell? ⟨S,o+2,none⟩=some (.int .i64 (R.seen:Int))∧W.cell? ⟨S,o+3,none⟩=some (.bool false):=fun W hW=>by
  have q:=h.below hW
  exact⟨q.cM,q.cN,by rw [←hcv];exact q.cC⟩
 go_enter Tryz.func152,Tryz.ntmps152
 go_wp2_with(go_at_call 167;(with_reducible refine hmk0.mono ?_);rintro e wx ⟨rfl,hbx⟩)
 refine zaf 35 (fun W=>Below w.heap.size w W) hbx.drew (by kernel_rfl) (by kernel_rfl) ?_
 simp only [List.take,List.drop]
 iterate 6 (refine zab rfl ?_ (fun W hW=>?_) ?_;rotate_left 1;· (obtain⟨q0,q2,q3⟩:=HF W hW;go_simp;with_reducible rfl))
 simp only [Act.put,List.setIfInBounds_toArray,List.set_cons_zero,List.set_cons_succ]
 iterate 3 go_big_quiet_skip
 iterate 2 (refine zab rfl ?_ (fun W hW=>?_) ?_;rotate_left 1;· (obtain⟨q0,q2,q3⟩:=HF W hW;go_simp;with_reducible rfl))
 simp only [Act.put,List.setIfInBounds_toArray,List.set_cons_zero,List.set_cons_succ]
 iterate 10 go_big_quiet_skip
 iterate 2 (refine zab rfl ?_ (fun W hW=>?_) ?_;rotate_left 1;· (obtain⟨q0,q2,q3⟩:=HF W hW;go_simp;with_reducible rfl))
 simp only [Act.put,List.setIfInBounds_toArray,List.set_cons_zero,List.set_cons_succ]
 iterate 11 go_big_quiet_skip
 iterate 1 (refine zab rfl ?_ (fun W hW=>?_) ?_;rotate_left 1;· (obtain⟨q0,q2,q3⟩:=HF W hW;go_simp;with_reducible rfl))
 simp only [Act.put,List.setIfInBounds_toArray,List.set_cons_zero,List.set_cons_succ]
 refine wpQuiet_nil ?_
 intro W hW
 obtain⟨⟨d0,d1,d2,d3⟩,zz⟩:=HE W hW
 have z2:=zz (o+2)
 have z3:=zz (o+3)
 have hfin:=HEND W hW
 clear HE HEND HF hmk
 go_wp2
 exact bodyPost_end (results_none rfl _ _ _) rfl hfin
theorem zqA{w:World}{S o B cap:Nat}{ao:Option Addr}{R:Rs}{x:Wy}(h:RsC w S o (.slice ao R.marked.length cap) R)(fz:∀ j,w.frozen? ⟨S,j,none⟩=false)(hm:zbR R.steps=false)(s0:0≤R.steps)(s1:R.steps≤100000)(M:w.ownsRow B 217 51 (.slice ao R.marked.length cap) R.marked.length (zbs R.marked))(hmS:(Value.slice ao R.marked.length cap).ownBlock≠some S)(hl:R.marked.length≤500000)(hn:R.seen≤500000)(hcv:R.covers=true)(hge:¬R.seen<R.marked.length):
  Calls Tryz.prog 152 #[.pointer (some ⟨S,o,none⟩),.pointer (some ⟨x.b,0,none⟩)] w (zdn w S o B (.slice ao R.marked.length cap) (R.see ⟨x.ao,x.cap,x.k⟩)):=by
 have eC:(R.covers&&(decide (R.seen<R.marked.length)&&zcu x.k (R.marked.getD R.seen mk0).k))=false:=by rw [hcv];simp [hge]
 have hS:S<w.heap.size:=World.block_lt_of_cell? w _ h.cM
 have hmk0:Calls Tryz.prog 167 #[.pointer (some ⟨S,o,none⟩)] w fun e w'=>e=.returned (.bool false)∧Below w.heap.size w w':=by
  have:=zcK h.cS s0 s1
  rw [hm] at this;exact this
 have hmk:∀ W,Below w.heap.size w W→Calls Tryz.prog 167 #[.pointer (some ⟨S,o,none⟩)] W fun e w'=>e=.returned (.bool false)∧Below w.heap.size w w':=fun W hW=>by
  have:=zcK (h.below hW).cS s0 s1
  rw [hm] at this
  exact this.mono fun e w' hh=>⟨hh.1,hW.trans (hh.2.mono hW.size)⟩
 have HE:∀ W,Below w.heap.size w W→RsC W S o (.slice ao R.marked.length cap) R∧∀ j,W.frozen? ⟨S,j,none⟩=false:=fun W hW=>⟨h.below hW,fun j=>(World.frozen?_of_block (a:=⟨S,j,none⟩) (hW.block S hS)).trans (fz j)⟩
 have HEND:∀ W,Below w.heap.size w W→zdn w S o B (.slice ao R.marked.length cap) (R.see ⟨x.ao,x.cap,x.k⟩) (.returned (.tuple #[])) ((W.setCell ⟨S,o+3,none⟩ (.bool false)).setCell ⟨S,o+2,none⟩ (.int .i64 ((R.seen:Int)+1))):=fun W hW=>zn0 h M hm hmS hW false eC
 have hn0:(0:Int)≤(R.seen:Int):=by omega
 have hn1:(R.seen:Int)≤500000:=by omega
 have hl1:(R.marked.length:Int)≤500000:=by omega
 have tl:decide ((R.seen:Int)<(R.marked.length:Int))=false:=by simpa using hge
 have HF:∀ W,Below w.heap.size w W→W.cell? ⟨S,o,none⟩=some (.slice ao R.marked.length cap)∧W.cell? ⟨S,o+2,none⟩=some (.int .i64 (R.seen:Int))∧W.cell? ⟨S,o+3,none⟩=some (.bool true):=fun W hW=>by
  have q:=h.below hW
  exact⟨q.cM,q.cN,by rw [←hcv];exact q.cC⟩
 go_enter Tryz.func152,Tryz.ntmps152
 go_wp2_with(go_at_call 167;(with_reducible refine hmk0.mono ?_);rintro e wx ⟨rfl,hbx⟩)
 refine zaf 35 (fun W=>Below w.heap.size w W) hbx.drew (by kernel_rfl) (by kernel_rfl) ?_
 simp only [List.take,List.drop]
 iterate 6 (refine zab rfl ?_ (fun W hW=>?_) ?_;rotate_left 1;· (obtain⟨q0,q2,q3⟩:=HF W hW;go_simp;with_reducible rfl))
 simp only [Act.put,List.setIfInBounds_toArray,List.set_cons_zero,List.set_cons_succ]
 iterate 1 (go_big_quiet_want;rename_i K hK;refine⟨?_,fun W hW=>?_,hK _ ?_⟩;rotate_left 1;(· (obtain⟨q0,q2,q3⟩:=HF W hW;unfold Oper.quietAt;go_simp;with_reducible rfl));clear hK K;simp only [Act.put,List.setIfInBounds_toArray,List.set_cons_zero,List.set_cons_succ])
 go_big_quiet_want;rename_i K hK;refine⟨.bool false,fun W hW=>?_,hK _ ?_⟩
 ·unfold Oper.quietAt;go_simp
 clear hK K
 simp only [Act.put,List.setIfInBounds_toArray,List.set_cons_zero,List.set_cons_succ]
 iterate 1 (go_big_quiet_want;rename_i K hK;refine⟨?_,fun W hW=>?_,hK _ ?_⟩;rotate_left 1;(· (obtain⟨q0,q2,q3⟩:=HF W hW;unfold Oper.quietAt;go_simp;with_reducible rfl));clear hK K;simp only [Act.put,List.setIfInBounds_toArray,List.set_cons_zero,List.set_cons_succ])
 iterate 2 (refine zab rfl ?_ (fun W hW=>?_) ?_;rotate_left 1;· (obtain⟨q0,q2,q3⟩:=HF W hW;go_simp;with_reducible rfl))
 simp only [Act.put,List.setIfInBounds_toArray,List.set_cons_zero,List.set_cons_succ]
 iterate 10 (go_big_quiet_want;rename_i K hK;refine⟨?_,fun W hW=>?_,hK _ ?_⟩;rotate_left 1;(· (obtain⟨q0,q2,q3⟩:=HF W hW;unfold Oper.quietAt;go_simp;with_reducible rfl));clear hK K;simp only [Act.put,List.setIfInBounds_toArray,List.set_cons_zero,List.set_cons_succ])
 iterate 2 (refine zab rfl ?_ (fun W hW=>?_) ?_;rotate_left 1;· (obtain⟨q0,q2,q3⟩:=HF W hW;go_simp;with_reducible rfl))
 simp only [Act.put,List.setIfInBounds_toArray,List.set_cons_zero,List.set_cons_succ]
 iterate 11 go_big_quiet_skip
 iterate 1 (refine zab rfl ?_ (fun W hW=>?_) ?_;rotate_left 1;· (obtain⟨q0,q2,q3⟩:=HF W hW;go_simp;with_reducible rfl))
 simp only [Act.put,List.setIfInBounds_toArray,List.set_cons_zero,List.set_cons_succ]
 refine wpQuiet_nil ?_
 intro W hW
 obtain⟨⟨d0,d1,d2,d3⟩,zz⟩:=HE W hW
 have z2:=zz (o+2)
 have z3:=zz (o+3)
 have hfin:=HEND W hW
 clear HE HEND HF hmk
 go_wp2
 exact bodyPost_end (results_none rfl _ _ _) rfl hfin
theorem zqB{w:World}{S o B cap:Nat}{ao:Option Addr}{R:Rs}{x:Wy}(h:RsC w S o (.slice ao R.marked.length cap) R)(fz:∀ j,w.frozen? ⟨S,j,none⟩=false)(hm:zbR R.steps=false)(s0:0≤R.steps)(s1:R.steps≤100000)(M:w.ownsRow B 217 51 (.slice ao R.marked.length cap) R.marked.length (zbs R.marked))(hmS:(Value.slice ao R.marked.length cap).ownBlock≠some S)(hl:R.marked.length≤500000)(hn:R.seen≤500000)(hcv:R.covers=true)(hlt:R.seen<R.marked.length)(c:Bool)(hcc:zcu x.k (R.marked.getD R.seen mk0).k=c)(hK:∀ g,ao=some ⟨g,0,none⟩→∀ W,Below w.heap.size w W→Calls Tryz.prog 168 #[.pointer (some ⟨x.b,0,none⟩),.pointer (some ⟨g,R.seen*51,none⟩)] W fun e w'=>e=.returned (.bool c)∧Below w.heap.size w w'):
  Calls Tryz.prog 152 #[.pointer (some ⟨S,o,none⟩),.pointer (some ⟨x.b,0,none⟩)] w (zdn w S o B (.slice ao R.marked.length cap) (R.see ⟨x.ao,x.cap,x.k⟩)):=by
 have eC:(R.covers&&(decide (R.seen<R.marked.length)&&zcu x.k (R.marked.getD R.seen mk0).k))=c:=by rw [hcv,hcc];simp [hlt]
 have hS:S<w.heap.size:=World.block_lt_of_cell? w _ h.cM
 have hmk0:Calls Tryz.prog 167 #[.pointer (some ⟨S,o,none⟩)] w fun e w'=>e=.returned (.bool false)∧Below w.heap.size w w':=by
  have:=zcK h.cS s0 s1
  rw [hm] at this;exact this
 have hmk:∀ W,Below w.heap.size w W→Calls Tryz.prog 167 #[.pointer (some ⟨S,o,none⟩)] W fun e w'=>e=.returned (.bool false)∧Below w.heap.size w w':=fun W hW=>by
  have:=zcK (h.below hW).cS s0 s1
  rw [hm] at this
  exact this.mono fun e w' hh=>⟨hh.1,hW.trans (hh.2.mono hW.size)⟩
 have HE:∀ W,Below w.heap.size w W→RsC W S o (.slice ao R.marked.length cap) R∧∀ j,W.frozen? ⟨S,j,none⟩=false:=fun W hW=>⟨h.below hW,fun j=>(World.frozen?_of_block (a:=⟨S,j,none⟩) (hW.block S hS)).trans (fz j)⟩
 have HEND:∀ W,Below w.heap.size w W→zdn w S o B (.slice ao R.marked.length cap) (R.see ⟨x.ao,x.cap,x.k⟩) (.returned (.tuple #[])) ((W.setCell ⟨S,o+3,none⟩ (.bool c)).setCell ⟨S,o+2,none⟩ (.int .i64 ((R.seen:Int)+1))):=fun W hW=>zn0 h M hm hmS hW c eC
 have hn0:(0:Int)≤(R.seen:Int):=by omega
 have hn1:(R.seen:Int)≤500000:=by omega
 have hl1:(R.marked.length:Int)≤500000:=by omega
 have tl:(R.seen:Int)<(R.marked.length:Int):=by omega
 obtain⟨g,cap2,hv,_,_⟩:=M.form (by omega)
 simp only [Value.slice.injEq,true_and] at hv
 obtain⟨rfl,rfl⟩:=hv
 have hK2:=hK g rfl
 clear hK hcc eC
 have HF:∀ W,Below w.heap.size w W→W.cell? ⟨S,o,none⟩=some (.slice (some ⟨g,0,none⟩) R.marked.length cap)∧W.cell? ⟨S,o+2,none⟩=some (.int .i64 (R.seen:Int))∧W.cell? ⟨S,o+3,none⟩=some (.bool true):=fun W hW=>by
  have q:=h.below hW
  exact⟨q.cM,q.cN,by rw [←hcv];exact q.cC⟩
 go_enter Tryz.func152,Tryz.ntmps152
 go_wp2_with(go_at_call 167;(with_reducible refine hmk0.mono ?_);rintro e wx ⟨rfl,hbx⟩)
 refine zaf 35 (fun W=>Below w.heap.size w W) hbx.drew (by kernel_rfl) (by kernel_rfl) ?_
 simp only [List.take,List.drop]
 iterate 6 (refine zab rfl ?_ (fun W hW=>?_) ?_;rotate_left 1;· (obtain⟨q0,q2,q3⟩:=HF W hW;go_simp;with_reducible rfl))
 simp only [Act.put,List.setIfInBounds_toArray,List.set_cons_zero,List.set_cons_succ]
 iterate 1 (go_big_quiet_want;rename_i K hK;refine⟨?_,fun W hW=>?_,hK _ ?_⟩;rotate_left 1;(· (obtain⟨q0,q2,q3⟩:=HF W hW;unfold Oper.quietAt;go_simp;with_reducible rfl));clear hK K;simp only [Act.put,List.setIfInBounds_toArray,List.set_cons_zero,List.set_cons_succ])
 go_big_quiet_want;rename_i K hK;refine⟨.bool false,fun W hW=>?_,hK _ ?_⟩
 ·unfold Oper.quietAt;go_simp
 clear hK K
 simp only [Act.put,List.setIfInBounds_toArray,List.set_cons_zero,List.set_cons_succ]
 iterate 1 (go_big_quiet_want;rename_i K hK;refine⟨?_,fun W hW=>?_,hK _ ?_⟩;rotate_left 1;(· (obtain⟨q0,q2,q3⟩:=HF W hW;unfold Oper.quietAt;go_simp;with_reducible rfl));clear hK K;simp only [Act.put,List.setIfInBounds_toArray,List.set_cons_zero,List.set_cons_succ])
 iterate 2 (refine zab rfl ?_ (fun W hW=>?_) ?_;rotate_left 1;· (obtain⟨q0,q2,q3⟩:=HF W hW;go_simp;with_reducible rfl))
 simp only [Act.put,List.setIfInBounds_toArray,List.set_cons_zero,List.set_cons_succ]
 iterate 10 (go_big_quiet_want;rename_i K hK;refine⟨?_,fun W hW=>?_,hK _ ?_⟩;rotate_left 1;(· (obtain⟨q0,q2,q3⟩:=HF W hW;unfold Oper.quietAt;go_simp;with_reducible rfl));clear hK K;simp only [Act.put,List.setIfInBounds_toArray,List.set_cons_zero,List.set_cons_succ])
 iterate 2 (refine zab rfl ?_ (fun W hW=>?_) ?_;rotate_left 1;· (obtain⟨q0,q2,q3⟩:=HF W hW;go_simp;with_reducible rfl))
 simp only [Act.put,List.setIfInBounds_toArray,List.set_cons_zero,List.set_cons_succ]
 iterate 10 (go_big_quiet_want;rename_i K hK;refine⟨?_,fun W hW=>?_,hK _ ?_⟩;rotate_left 1;(· (obtain⟨q0,q2,q3⟩:=HF W hW;unfold Oper.quietAt;go_simp;with_reducible rfl));clear hK K;simp only [Act.put,List.setIfInBounds_toArray,List.set_cons_zero,List.set_cons_succ])
 go_big_quiet_want;rename_i K hK;refine⟨.bool c,fun W hW=>?_,hK _ ?_⟩
 ·unfold Oper.quietAt;go_simp
 clear hK K
 simp only [Act.put,List.setIfInBounds_toArray,List.set_cons_zero,List.set_cons_succ]
 iterate 1 (refine zab rfl ?_ (fun W hW=>?_) ?_;rotate_left 1;· (obtain⟨q0,q2,q3⟩:=HF W hW;go_simp;with_reducible rfl))
 simp only [Act.put,List.setIfInBounds_toArray,List.set_cons_zero,List.set_cons_succ]
 refine wpQuiet_nil ?_
 intro W hW
 obtain⟨⟨d0,d1,d2,d3⟩,zz⟩:=HE W hW
 have z2:=zz (o+2)
 have z3:=zz (o+3)
 have hfin:=HEND W hW
 clear HE HEND HF hmk
 go_wp2
 exact bodyPost_end (results_none rfl _ _ _) rfl hfin
end Go.Proofs.YtfpgjkbjbbgciaaGreatDoor
