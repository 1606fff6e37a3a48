import Derived.Test.YtfpgjkbjbbgciaaGreatDoorMj43
import Derived.Test.YtfpgjkbjbbgciaaGreatDoorMj44
import Derived.Test.YtfpgjkbjbbgciaaGreatDoorMj46
set_option maxRecDepth 100000
set_option maxHeartbeats 8000000
namespace Go.Proofs.YtfpgjkbjbbgciaaGreatDoor
open Go.RowKit Sp
theorem zyG{w:World}{B g cap:Nat}{ms:List Mk}(M:w.ownsRow B 217 51 (.slice (some ⟨g,0,none⟩) ms.length cap) ms.length (zb1 ms)){i:Nat}(hi:i<ms.length):KnR w g (i*51) (.slice (ms.getD i mk0).ao (ms.getD i mk0).k.behind.length (ms.getD i mk0).cap) (ms.getD i mk0).k:=by
 have e:ms[i]?=some (ms.getD i mk0):=by simp [List.getD,hi]
 refine ziL fun j hj=>?_;have a:=zrt e j hj;have c:j<(ms.getD i mk0).cells.length:=by rw [show(ms.getD i mk0).cells.length=51 from zdF _ _];exact hj
 have b:(ms.getD i mk0).cells[j]?=some (ms.getD i mk0).cells[j]:=List.getElem?_eq_getElem c;rw [b] at a;have:=zgt M (51*i+j) _ a;rw [show i*51+j=51*i+j by omega,this];exact b.symm
theorem zux{w:World}{S o B:Nat}{mv:Value}{R:Rs}{x:Wy}(h:RsC w S o mv R)(fz:∀ j,w.frozen? ⟨S,j,none⟩=false)(s0:0≤R.steps)(s1:R.steps≤100000)(M:w.ownsRow B 217 51 mv R.marked.length (zb1 R.marked))(mbh:∀ m∈R.marked,BhM w m.ao m.cap m.k.behind)(X:WyM w x)(hB:B≤w.heap.size)(hmS:mv.ownBlock≠some S)(hl:R.marked.length≤500000)(hn:R.seen≤500000):
  qC 152 #[.pointer (some ⟨S,o,none⟩),.pointer (some ⟨x.b,0,none⟩)] w (zdx w S o B mv (R.see ⟨x.ao,x.cap,x.k⟩)):=by
 obtain⟨ao,cap,rfl,_,_,_⟩:=zdV M;cases hm:zcc R.steps with
 | true=>exact zwP h fz hm s0 s1 M X hB hmS hl hn
 | false =>
  cases hcv:R.covers with
  | false=>exact zrw h fz hm s0 s1 M hmS hl hn hcv
  | true =>
   by_cases a:R.seen<R.marked.length
   ·refine zry h fz hm s0 s1 M hmS hl hn hcv a _ rfl (fun g hg W hW=>?_);subst hg;have c:R.marked.getD R.seen mk0∈R.marked:=by simp [List.getD,a]
    have f:W.ownsRow B 217 51 (.slice (some ⟨g,0,none⟩) R.marked.length cap) R.marked.length (zb1 R.marked):=zc1 M (fun q hq=>hW.block q (M.lt q hq).2);have d:=X.below hW;exact(znZ d.kn (zyG f a) d.bh ((mbh _ c).below hW)).mono fun e w' hh=>⟨hh.1,hW.trans (hh.2.mono hW.size)⟩
   ·exact zrx h fz hm s0 s1 M hmS hl hn hcv a
def Rs.kn(R:Rs):RsK:=⟨R.marked.map Mk.k,R.steps,R.seen,R.covers⟩
theorem zx2(R:Rs)(m:Mk):(R.see m).kn=R.kn.see m.k:=by
 unfold Rs.see Rs.kn RsK.see;simp only [RsK.mk.injEq,true_and];refine⟨?_,?_⟩
 ·split <;> simp
 ·have e:(R.marked.map Mk.k).getD R.seen kn0=(R.marked.getD R.seen mk0).k:=by
   simp only [List.getD,List.getElem?_map];cases R.marked[R.seen]? <;> rfl
  rw [e,List.length_map]
theorem zwQ(R:Rs)(s:Int):(R.begin s).kn=R.kn.begin s:=by
 unfold Rs.begin Rs.kn RsK.begin;simp only [RsK.mk.injEq,and_true];split <;> simp
def Rs.endless(R:Rs)(m:Mk):Option Rs :=
 if m.k.steps=R.steps then some (R.see m) else if R.covers&&decide (R.seen=R.marked.length) then none else some ((R.begin m.k.steps).see m)
theorem zrz(R:Rs)(m:Mk):R.kn.endless m.k=(R.endless m).map Rs.kn:=by
 unfold Rs.endless RsK.endless;show(if m.k.steps=R.steps then _ else if R.covers&&decide (R.seen=(R.marked.map Mk.k).length) then _ else _)=_;rw [List.length_map];split
 ·rw [Option.map_some,zx2]
 ·split
  ·rfl
  ·rw [Option.map_some,zx2,zwQ]
theorem zwR{w:World}{B e size n cap:Nat}{ao:Option Addr}{l:List Value}(h:w.ownsRow B e size (.slice ao n cap) n l):w.ownsRow B e size (.slice ao 0 cap) 0 []:=by
 refine⟨by simp,?_⟩;rcases h.2 with ⟨a,e2⟩|⟨g,c,b,a,d,i,h1,f,j,h4⟩
 ·cases a;exact .inl ⟨rfl,rfl⟩
 ·cases a;exact .inr ⟨g,cap,b,rfl,d,i,Nat.zero_le _,f,j,by simp⟩
def zyH(w:World)(B S g:Nat)(C:List (Ins × Int))(v mv:Value)(xs hs:List Wy):Option Rs→Ending→World→Prop
 | none=>fun e w'=>e=.returned (.bool true)∧qB w w'
 | some R=>fun e w'=>e=.returned (.bool false)∧∃ mv',RsC w' S 2 mv' R∧SO w' B S g C v mv' xs hs R.marked∧Kept4 w w' S 2 mv.ownBlock
theorem zm8(R:Rs)(s:Int):∀ m∈(R.begin s).marked,m∈R.marked:=by
 intro m a;have h:m∈(if zcc s then [] else R.marked):=a;split at h
 ·cases h
 ·exact h
theorem begin_len(R:Rs)(s:Int):(R.begin s).marked.length=begN s R.marked.length:=by
 show(if zcc s then [] else R.marked).length=if zcc s then 0 else R.marked.length
 split <;> rfl
theorem zyI(R:Rs)(m:Mk):∀ q∈(R.see m).marked,q∈R.marked∨q=m:=by
 intro q a;have h:q∈(if zcc R.steps then R.marked++[m] else R.marked):=a;split at h
 ·rcases List.mem_append.1 h with e|e
  ·exact .inl e
  ·exact .inr (List.mem_singleton.1 e)
 ·exact .inl h
theorem zm9{w w':World}{S o:Nat}{hb:Option Nat}(h:Kept4 w w' S o hb)(fz:∀ j,w.frozen? ⟨S,j,none⟩=false):∀ j,w'.frozen? ⟨S,j,none⟩=false:=fun j=>(h.fz j).trans (fz j)
theorem zx3{w w0:World}{B S g:Nat}{C:List (Ins × Int)}{v mv:Value}{x:Wy}{xs hs:List Wy}{R:Rs}(O:SO w B S g C v mv xs (x :: hs) R.marked){hb:Option Nat}(h0:Kept4 w0 w S 2 hb)(hbb:∀ q,mv.ownBlock=some q→hb=some q∨w0.heap.size≤q){e:Ending}{w':World}(h:zdx w S 2 B mv (R.see ⟨x.ao,x.cap,x.k⟩) e w'):
  e=.returned (.tuple #[])∧∃ mv',RsC w' S 2 mv' (R.see ⟨x.ao,x.cap,x.k⟩)∧SO w' B S g C v mv' xs (x :: hs) (R.see ⟨x.ao,x.cap,x.k⟩).marked∧Kept4 w0 w' S 2 hb:=by
 obtain⟨rfl,mv',i,l,o,f⟩:=h;refine⟨rfl,mv',i,O.remark f l o (fun m hm=>?_),⟨f.os.trans h0.os,f.tape.trans h0.tape,f.output.trans h0.output,Nat.le_trans h0.size f.size,fun q hq h5 h6=>?_,fun j a b c d=>(f.cell j a b c d).trans (h0.cell j a b c d),fun j=>(f.fz j).trans (h0.fz j)⟩⟩
 ·rcases zyI R _ m hm with e|e
  ·exact .inl e
  ·subst e;exact .inr ⟨x,by simp,rfl,rfl,rfl⟩
 ·refine(f.block q (Nat.lt_of_lt_of_le hq h0.size) h5 (fun e=>?_)).trans (h0.block q hq h5 h6);rcases hbb q e.symm with n|n
  ·exact h6 n.symm
  ·omega
theorem zhs{w:World}{B S g:Nat}{C:List (Ins × Int)}{v mv:Value}{x:Wy}{xs hs:List Wy}{R:Rs}(h:RsC w S 2 mv R)(fz:∀ j,w.frozen? ⟨S,j,none⟩=false)(O:SO w B S g C v mv xs (x :: hs) R.marked)(s0:0≤R.steps)(s1:R.steps≤100000)(k0:0≤x.k.steps)(k1:x.k.steps≤100000)(hl:R.marked.length≤500000)(hn:R.seen≤500000):
  qC 135 #[.pointer (some ⟨S,2,none⟩),.pointer (some ⟨x.b,0,none⟩)] w (zyH w B S g C v mv xs (x :: hs) (R.endless ⟨x.ao,x.cap,x.k⟩)):=by
 obtain⟨ao,cap,rfl,u,z,y⟩:=zdV O.mkr;have X:=O.hand x List.mem_cons_self;have G:B≤w.heap.size:=by have:=O.SB;have:=O.SL;omega
 have hrefl:Kept4 w w S 2 (Value.slice ao R.marked.length cap).ownBlock:=zcW O.SL (Below.refl _ _);by_cases n:x.k.steps=R.steps
 ·have E:R.endless ⟨x.ao,x.cap,x.k⟩=some (R.see ⟨x.ao,x.cap,x.k⟩):=if_pos n;rw [E];refine zuy h X.kn n _ (fun W hW=>?_);have i:=O.below hW;have H:=O.SL;have l:∀ j,W.frozen? ⟨S,j,none⟩=false:=fun j=>(World.frozen?_of_block (a:=⟨S,j,none⟩) (hW.block S H)).trans (fz j);refine(zux (h.below hW) l s0 s1 i.mkr i.mbh (i.hand x List.mem_cons_self) (Nat.le_trans G hW.size) i.mS hl hn).mono fun e d hh=>?_;exact zx3 i (zcW O.SL hW) (fun q f=>.inl f) hh
 ·by_cases o:R.covers=true∧R.seen=R.marked.length
  ·have E:R.endless ⟨x.ao,x.cap,x.k⟩=none:=by
    unfold Rs.endless;rw [if_neg n,o.1,o.2];simp
   rw [E];exact zwS h X.kn n o.1 o.2 hl
  ·have E:R.endless ⟨x.ao,x.cap,x.k⟩=some ((R.begin x.k.steps).see ⟨x.ao,x.cap,x.k⟩):=by
    unfold Rs.endless;rw [if_neg n,if_neg];simpa using o
   rw [E];have F:∀ W,qB w W→qC 151 #[.pointer (some ⟨S,2,none⟩),.int .i64 x.k.steps] W fun e d=>e=.returned (.tuple #[])∧RsC d S 2 (.slice ao (R.begin x.k.steps).marked.length cap) (R.begin x.k.steps)∧SO d B S g C v (.slice ao (R.begin x.k.steps).marked.length cap) xs (x :: hs) (R.begin x.k.steps).marked∧Kept4 w d S 2 (Value.slice ao R.marked.length cap).ownBlock:=fun W hW=>by
    have i:=O.below hW;have l:∀ j,W.frozen? ⟨S,j,none⟩=false:=fun j=>(World.frozen?_of_block (a:=⟨S,j,none⟩) (hW.block S O.SL)).trans (fz j);refine(zru (h.below hW) l u z y x.k.steps k0 k1).mono ?_;rintro e d ⟨rfl,s,c⟩;rw [←begin_len] at s;have p:Kept4 W d S 2 (Value.slice ao R.marked.length cap).ownBlock:=⟨c.os,c.tape,c.output,c.size,fun q f h1 _=>c.block q f h1 (by simp),c.cell,c.fz⟩
    refine⟨rfl,s,i.remark (mv':=.slice ao (R.begin x.k.steps).marked.length cap) p ?_ ?_ (fun m t=>.inl (zm8 R _ m t)),(zcW O.SL hW).trans p⟩
    ·have D:d.ownsRow B 217 51 (.slice ao R.marked.length cap) R.marked.length (zb1 R.marked):=zc1 i.mkr (fun q f=>c.block q (i.mkr.lt q f).2 (fun e=>i.mS (by rw [f,e])) (by simp));by_cases t:zcc x.k.steps=true
     ·have I:(R.begin x.k.steps).marked=[]:=if_pos t;rw [I];exact zwR D
     ·have I:(R.begin x.k.steps).marked=R.marked:=if_neg t;rw [I];exact D
    ·intro q f;left;cases ao with
     | none=>cases f
     | some a=>exact f
   have r:∀ W,(RsC W S 2 (.slice ao (R.begin x.k.steps).marked.length cap) (R.begin x.k.steps)∧SO W B S g C v (.slice ao (R.begin x.k.steps).marked.length cap) xs (x :: hs) (R.begin x.k.steps).marked∧Kept4 w W S 2 (Value.slice ao R.marked.length cap).ownBlock)→qC 152 #[.pointer (some ⟨S,2,none⟩),.pointer (some ⟨x.b,0,none⟩)] W fun e d=>e=.returned (.tuple #[])∧∃ mv',RsC d S 2 mv' ((R.begin x.k.steps).see ⟨x.ao,x.cap,x.k⟩)∧SO d B S g C v mv' xs (x :: hs) ((R.begin x.k.steps).see ⟨x.ao,x.cap,x.k⟩).marked∧Kept4 w d S 2 (Value.slice ao R.marked.length cap).ownBlock:=fun W ⟨s,c,r3⟩=>by
    have A:(R.begin x.k.steps).marked.length≤500000:=by
     rw [begin_len];unfold begN;split <;> omega
    refine(zux s (zm9 r3 fz) k0 k1 c.mkr c.mbh (c.hand x List.mem_cons_self) (by have:=c.SB;have:=c.SL;omega) c.mS A (Nat.zero_le _)).mono fun e d hh=>?_;refine zx3 c r3 (fun q f=>.inl ?_) hh;cases ao with
    | none=>cases f
    | some a=>exact f
   cases hcv:R.covers with
   | false=>exact zu0 h X.kn n hcv _ _ F r
   | true=>exact zuz h X.kn n hcv (fun e=>o ⟨hcv,e⟩) hl hn _ _ F r
section
section
variable {P:Program} {md:Region.Mode} {ops:Array Oper} {Q:Exit→Act→World→Prop} {fuel:Nat} {listed:Array Bool} {a:Act} {w:World}
theorem zwW(i:Nat){o:Oper}(hr:Region.ready md ops listed=[i])(ho:ops[i]?=some o)(hg:o.guard=none)(f:FuncId)(args:Array Value)(v:Value)(h:(execOp a.eval o).run P w=.ok (.enter f args) w)(hc:Calls P f args w fun e w''=>e=.returned v∧w''=w)(rest:wpAny P md ops Q fuel (listed.setIfInBounds i true) (a.put o.dst v) w):wpAny P md ops Q (fuel+1) listed a w :=
 wpAny_ready hr (by simp) (AllReady.cons ho (fun K hK=>by
  have hw:Region.wanted o (yielded ops a.tmps)=true:=by simp [Region.wanted,hg]
  rw [if_pos hw];unfold Oper.wp;rw [h,Oper.upon_enter];refine hc.mono fun e w'' hh=>?_;obtain⟨rfl,rfl⟩:=hh;exact hK _ _ rest) AllReady.nil)
theorem zmK(i j:Nat){o p:Oper}(hr:Region.ready md ops listed=[i,j])(ho:ops[i]?=some o)(hg:o.guard=none)(v:Value)(h:(execOp a.eval o).run P w=.ok (.value v) w)(rest:wpAny P md ops Q fuel (listed.setIfInBounds i true) (a.put o.dst v) w)
  (hp:ops[j]?=some p) (hg2:p.guard=none) (f:FuncId) (args:Array Value) (u:Value) (h2:(execOp a.eval p).run P w=.ok (.enter f args) w) (hc:Calls P f args w fun e w''=>e=.returned u∧w''=w) (rest2:wpAny P md ops Q fuel (listed.setIfInBounds j true) (a.put p.dst u) w):wpAny P md ops Q (fuel+1) listed a w :=
 wpAny_ready hr (by simp) (AllReady.cons ho (fun K hK=>by
  have hw:Region.wanted o (yielded ops a.tmps)=true:=by simp [Region.wanted,hg]
  rw [if_pos hw];unfold Oper.wp;rw [h];exact hK _ _ rest) (AllReady.cons hp (fun K hK=>by
  have hw:Region.wanted p (yielded ops a.tmps)=true:=by simp [Region.wanted,hg2]
  rw [if_pos hw];unfold Oper.wp;rw [h2,Oper.upon_enter];refine hc.mono fun e w'' hh=>?_;obtain⟨rfl,rfl⟩:=hh;exact hK _ _ rest2) AllReady.nil))
theorem zuI(i:Nat){o:Oper}(hr:Region.ready md ops listed=[i])(ho:ops[i]?=some o)(hg:o.guard=none)(f:FuncId)(args:Array Value)(h:(execOp a.eval o).run P w=.ok (.enter f args) w)(R:Ending→World→Prop)(hc:Calls P f args w R)
  (hv:∀ v w',R (.returned v) w'→wpAny P md ops Q fuel (listed.setIfInBounds i true) (a.put o.dst v) w') (hp:∀ c w',R (.panicked c) w'→Q (.panic c) a w') (ho2:∀ w',R .outgrown w'→LetsOut Q):wpAny P md ops Q (fuel+1) listed a w :=
 wpAny_ready hr (by simp) (AllReady.cons ho (fun K hK=>by
  have hw:Region.wanted o (yielded ops a.tmps)=true:=by simp [Region.wanted,hg]
  rw [if_pos hw];unfold Oper.wp;rw [h,Oper.upon_enter];refine hc.mono fun e w'' hh=>?_;cases e with
  | returned v=>exact hK _ _ (hv v w'' hh)
  | panicked c=>exact hp c w'' hh
  | outgrown=>exact ho2 w'' hh) AllReady.nil)
end
def zp7(w:World)(B S g:Nat)(C:List (Ins × Int))(cv:Value)(looks:Nat)(bf:Int)(xs:List Wy)(x:Wy)(R':Rs):Option (List Kn)→Ending→World→Prop
 | none=>fun e w'=>e=zak 8 0∧Below B w w'
 | some ks=>fun e w'=>e=.returned (.tuple #[])∧∃(v' mv':Value) (ys:List Wy),SO w' B S g C v' mv' ys [] R'.marked∧SC w' S cv v' mv' R' looks (x.k.steps+1) (max bf ((x.k.behind.length:Int)+1))∧(ys.map Wy.k).Perm (xs.map Wy.k++ks)∧Below B w w'
structure LkI(w:World)(B S g:Nat)(C:List (Ins × Int))(cv mv:Value)(R:Rs)(looks:Nat)(s1 f1:Int)(W:List Kn)(so:Option Addr)(ps:List Nat)(ks:List Kn)(ao:Option Addr)(cap:Nat)(wr:World)(j:Nat)(v:Value)(ys:List Wy):Prop where
 so':SO wr B S g C v mv ys ((zha ao cap ps ks).drop j) R.marked
 sc:SC wr S cv v mv R looks s1 f1
 perm:(ys.map Wy.k).Perm (W++ks.take j)
 low:Below B w wr
 row:∀(i p:Nat),ps[i]?=some p→∃ sg,so=some ⟨sg,0,none⟩∧sg<wr.heap.size∧¬sg=S∧v.ownBlock≠some sg∧wr.cell? ⟨sg,i,none⟩=some (.pointer (some ⟨p,0,none⟩))
theorem LkI.add{w:World}{B S g:Nat}{C:List (Ins × Int)}{cv mv:Value}{R:Rs}{looks:Nat}{s1 f1:Int}{W:List Kn}{so:Option Addr}{ps:List Nat}{ks:List Kn}{ao:Option Addr}{cap:Nat}{wr:World}{j:Nat}{v:Value}{ys:List Wy}(h:LkI w B S g C cv mv R looks s1 f1 W so ps ks ao cap wr j v ys){p:Nat}(hj:ps[j]?=some p)(hl:ps.length=ks.length)(h2:ks.length≤2)(hn:W.length≤2000):
  qC 138 #[.pointer (some ⟨S,1,none⟩),.pointer (some ⟨p,0,none⟩)] wr fun e w'=>e=.returned (.tuple #[])∧∃ v' ys',LkI w B S g C cv mv R looks s1 f1 W so ps ks ao cap w' (j+1) v' ys':=by
 have hjl:j<ps.length:=(List.getElem?_eq_some_iff.1 hj).1;have hjp:ps[j]=p:=(List.getElem?_eq_some_iff.1 hj).2;have c:j<(zha ao cap ps ks).length:=by rw [zmJ hl];omega
 obtain⟨n,k,d,t,E⟩:=zp6 j _ (List.getElem?_eq_getElem c);have l:n=p:=by rw [hj] at d;exact(Option.some.inj d).symm
 subst l;have hd:(zha ao cap ps ks).drop j=⟨n,ao,cap,k⟩ :: (zha ao cap ps ks).drop (j+1):=by rw [List.drop_eq_getElem_cons c,E]
 have O:=h.so';rw [hd] at O;have hyl:ys.length≤2002:=by
  have:=h.perm.length_eq;rw [List.length_map,List.length_append,List.length_take] at this;omega
 refine(zzA O h.sc h.low (by omega)).mono ?_;rintro e w' ⟨rfl,v',ys',F,u,x,m,b,A⟩;refine⟨rfl,v',ys',⟨u,x,?_,m,fun i q hq=>?_⟩⟩
 ·have e1:ks.take (j+1)=ks.take j++[k]:=by rw [List.take_add_one,t];rfl
  rw [e1,←List.append_assoc];refine(F.map Wy.k).trans ?_;rw [List.map_append];exact List.Perm.append_right _ h.perm
 ·obtain⟨f,D,r,o,s,y⟩:=h.row i q hq;refine⟨f,D,Nat.lt_of_lt_of_le r b.size,o,fun e=>?_,?_⟩
  ·rcases A f e with z|z
   ·exact s z
   ·omega
  ·rw [World.cell?_of_block (w:=wr) (a:=⟨f,i,none⟩) (b.block f r o (fun e=>s e.symm))];exact y
theorem LkI.first{w w4 wl:World}{B S g:Nat}{C:List (Ins × Int)}{cv v mv:Value}{R:Rs}{looks:Nat}{s1 f1:Int}{xs:List Wy}{x:Wy}{ks:List Kn}{so:Option Addr}{ps:List Nat}{ao':Option Addr}{cap' n':Nat}(O:SO w4 B S g C v mv xs [x] R.marked)(c:SC w4 S cv v mv R looks s1 f1)(hb4:Below B w w4)(A:WaysAt w4 wl x.b (.slice ao' n' cap') ks so ps)(hb:∀ k'∈ks,n'=k'.behind.length∧BhM wl ao' cap' k'.behind)(ha:ao'=x.ao∨∀ a,ao'=some a→w4.heap.size≤a.block)(hf:∀ p∈ps,∀ a,ao'=some a→¬a.block=p)(hkey:∀ k'∈ks,KeyOk k'):
  LkI w B S g C cv mv R looks s1 f1 (xs.map Wy.k) so ps ks ao' cap' wl 0 v xs:=by
 have far:=O.far x (by simp);refine⟨zrJ O A hb ha hf hkey,c.block (A.grown.block S O.SL (fun e=>far.2.1.1 (by cases e;rfl))),by rw [List.take_zero,List.append_nil],hb4.grown A.grown (by have:=O.SB;have:=O.SL;omega) (fun q hq=>by cases hq;exact far.1),fun i p hp=>?_⟩;obtain⟨f,j,r2,h⟩:=A.ptrs i p hp;have d:=World.block_lt_of_cell? wl _ h;exact⟨f,j,d,by have:=O.SL;omega,fun e=>by have:=(O.hp.row.lt f e).2;omega,h⟩
theorem LkI.last{w:World}{B S g:Nat}{C:List (Ins × Int)}{cv mv:Value}{R:Rs}{looks:Nat}{bf:Int}{xs:List Wy}{x:Wy}{so:Option Addr}{ps:List Nat}{ks:List Kn}{ao:Option Addr}{cap:Nat}{wr:World}{v:Value}{ys:List Wy}(h:LkI w B S g C cv mv R looks (x.k.steps+1) (max bf ((x.k.behind.length:Int)+1)) (xs.map Wy.k) so ps ks ao cap wr ps.length v ys)(hl:ps.length=ks.length):
  zp7 w B S g C cv looks bf xs x R (some ks) (.returned (.tuple #[])) wr:=by
 refine⟨rfl,v,mv,ys,?_,h.sc,?_,h.low⟩
 ·have:=h.so';rw [List.drop_of_length_le (by rw [zmJ hl];omega)] at this;exact this
 ·have:=h.perm;rw [hl,List.take_length] at this;exact this
theorem zyN{w:World}{B S g ccap:Nat}{C:List (Ins × Int)}{v mv:Value}{R R':Rs}{looks:Nat}{bs bf:Int}{xs:List Wy}{x:Wy}(O:SO w B S g C v mv xs [x] R.marked)(c:SC w S (.slice (some ⟨g,0,none⟩) C.length ccap) v mv R looks bs bf)(hC:CodeSure C)(K:KnIn C x.k)(hs:¬x.k.steps=100000)(hR:R.endless ⟨x.ao,x.cap,x.k⟩=some R')
  (s0:0≤R.steps) (s1:R.steps≤100000) (hl:R.marked.length≤500000) (hn:R.seen≤500000) (_f0:0≤bf) (_f1:bf≤16) (hlen:xs.length≤2000) {p:Nat} (hp:p<C.length) (hnx:x.k.next=(p:Int)) {LR:Option (List Kn)} (hlr:za7 C[p].1 x.k=LR) :
  qC 116 #[.pointer (some ⟨S,0,none⟩),.pointer (some ⟨x.b,0,none⟩)] w (zp7 w B S g C (.slice (some ⟨g,0,none⟩) C.length ccap) looks bf xs x R' LR):=by
 have D:Hid (za7 C[p].1 x.k=LR):=hlr;clear hlr;have X:=O.hand x (by simp);have aa:=zcf X.kn;have t100:(x.k.steps == 100000)=false:=by simpa using hs
 have k0:=K.s0;have k1:=K.s1;have y:=zhs c.rs c.fz O s0 s1 k0 k1 hl hn;rw [hR] at y;have az:B≤w.heap.size:=by have:=O.SB;have:=O.SL;omega
 have HB:Hid (∀ q,mv.ownBlock=some q→B≤q):=fun q hq=>(O.mkr.lt q hq).1;have ad:Hid (∀ G n,RsC G S 2 n R'→Kept4 w G S 2 mv.ownBlock→SC G S (.slice (some ⟨g,0,none⟩) C.length ccap) v n R' looks bs bf∧Below B w G):=fun G n hr hk=>⟨c.kept4 hk hr,zod hk O.SB az (fun q hq=>(O.mkr.lt q hq).1)⟩
 clear hR;go_enter Tryz.func116,Tryz.ntmps116;go_wp2_with(first
  | (go_at_call 134;(with_reducible refine aa.mono ?_);rintro e wx ⟨rfl,P⟩;have V:=P.symm;subst V)
  | (go_at_call 135;(with_reducible refine y.mono ?_);rintro e G ⟨rfl,n,am,O1,ar⟩;obtain⟨c1,aw⟩:=ad.out G n am ar;have M:=zcf (O1.hand x (by simp)).kn;have d7:=c1.c7;have z7:=c1.fz 7)
  | (go_at_call 134;(with_reducible refine M.mono ?_);rintro e wx ⟨rfl,P⟩;have V:=P.symm;subst V))
 have Q:=zuH (o:=7) (u:=.int .i64 (x.k.steps+1)) O1;have L:=c1.set7 (x.k.steps+1);have Y:Below B w (G.setCell ⟨S,7,none⟩ (.int .i64 (x.k.steps+1))):=aw.setCell (p:=⟨S,7,none⟩) O1.SB _;clear aa y ad ar O1 c1 aw d7 z7 am M O c X;generalize G.setCell ⟨S,7,none⟩ (.int .i64 (x.k.steps+1))=w2 at Q L Y ⊢;have X2:=Q.hand x (by simp);have au:=X2.bh.len;have E:∀ W,qB w2 W→W.cell? ⟨S,8,none⟩=some (.int .i64 bf):=fun W hW=>(L.block (hW.block S L.lt)).c8;have l0:(0:Int)≤(x.k.behind.length:Int):=by omega
 have l1:(x.k.behind.length:Int)≤15:=by omega
 refine zaf 9 (fun W=>qB w2 W) (Below.refl _ _).drew (by kernel_rfl) (by kernel_rfl) ?_;simp only [q2];iterate 7 (refine zab rfl ?_ (fun W hW=>?_) ?_;rotate_left 1;· (have q8:=E W hW;go_simp;with_reducible rfl))
 refine zaU rfl 136 #[.pointer (some ⟨x.b,0,none⟩)] (.int .i64 ((x.k.behind.length:Int)+1)) (fun W hW=>?_) (fun W hW=>(zfH (X2.below hW).kn au).mono (fun e w' hh=>⟨hh.1,by rw [hh.2];exact hW⟩)) ?_
 ·go_simp
 iterate 1 (refine zab rfl ?_ (fun W hW=>?_) ?_;rotate_left 1;· (have q8:=E W hW;go_simp;with_reducible rfl))
 refine wpQuiet_nil ?_;intro W3 z;have q8:=E W3 z;have z8:W3.frozen? ⟨S,8,none⟩=false:=(L.block (z.block S L.lt)).fz 8;go_wp2;have ap:=L.lt;have l:=zuH (o:=8) (u:=.int .i64 (max bf ((x.k.behind.length:Int)+1))) (Q.below z);have c4:=(L.block (z.block S ap)).set8 (max bf ((x.k.behind.length:Int)+1));have H:Below B w (W3.setCell ⟨S,8,none⟩ (.int .i64 (max bf ((x.k.behind.length:Int)+1)))):=(Y.trans (z.mono (by have:=Q.SB;have:=Q.SL;omega))).setCell (p:=⟨S,8,none⟩) Q.SB _;clear q8 z8 E Q L Y X2 ap;generalize W3.setCell ⟨S,8,none⟩ (.int .i64 (max bf ((x.k.behind.length:Int)+1)))=w4 at l c4 H ⊢;have X4:=l.hand x (by simp);have ay:g<w4.heap.size:=by have:=l.gB;have:=l.SB;have:=l.SL;omega
 have U:∀ W,qB w4 W→W.cell? ⟨S,0,none⟩=some (.slice (some ⟨g,0,none⟩) C.length ccap)∧W.cell? ⟨g,p*2,none⟩=some (.iface (insT C[p].1) (.agg (insA C[p].1))):=fun W hW=>⟨(c4.block (hW.block S c4.lt)).c0,(zei l.code (hW.block g ay) p hp).1⟩
 have m:=zuF C[p].1 (hC.ok.ok p hp);have T:=zrH C[p].1 (hC.ok.ok p hp);have HL:Hid (∀ W,qB w4 W→qC (insL C[p].1) #[.agg (insA C[p].1),.pointer (some ⟨x.b,0,none⟩)] W (zej W x.b x.ao LR)):=fun W hW=>by
  rw [←D.out];have XW:=X4.below hW;have hcl:=hC.ok.few;exact zuE C[p].1 (hC.ok.ok p hp) XW.kn XW.bh (fun a ha=>((l.far x (by simp)).2.2 a ha).2 x (by simp)) K.ok k0 k1 (by omega) (by omega)
 have J:Hid (∀ ks,LR=some ks→(∀ k'∈ks,KeyOk k')∧ks.length≤2):=fun ks hk=>⟨fun k' hk'=>(zp2 hC hp hnx K hs (D.out.trans hk) k' hk').key hC.ok.few,zm5 (D.out.trans hk)⟩
 have p0:(0:Int)≤(p:Int):=by omega
 have p1:(p:Int)<(C.length:Int):=by omega
 clear D;generalize C[p].1=ins at U m T HL;generalize insL ins=F at m T HL;have f:qB w4 w4.drew:=(Below.refl _ _).drew;obtain⟨q0,qi⟩:=U _ f;have ac:=HL.out _ f;have s:qC 137 #[.pointer (some ⟨x.b,0,none⟩)] w4.drew fun e w''=>e=.returned (.int .i64 (p:Int))∧w''=w4.drew:=(zub (X4.below f).kn).mono (fun e w' hh=>⟨by rw [hh.1,hnx],hh.2⟩);clear U HL;refine wp_region_any (by kernel_rfl) ?_;change wpAny _ _ _ _ _ _ _ (World.drew _);refine wpAny_take (i:=0) (v:=?_) rfl (by kernel_rfl) (by kernel_rfl) (by kernel_rfl) (fun _ _ _ h=>h) (Or.inl ⟨by rfl,?_⟩) ?_;rotate_left 1
 ·intro w;go_simp;with_reducible rfl
 simp only [List.getElem_toArray,List.getElem_cons_zero,Act.put,q1];refine wpAny_take (i:=1) (v:=?_) rfl (by kernel_rfl) (by kernel_rfl) (by kernel_rfl) (fun _ _ _ h=>h) (Or.inl ⟨by rfl,?_⟩) ?_;rotate_left 1
 ·intro w;go_simp;with_reducible rfl
 simp only [List.getElem_toArray,List.getElem_cons_zero,List.getElem_cons_succ,Act.put,q1];refine wpAny_take (i:=2) (v:=?_) rfl (by kernel_rfl) (by kernel_rfl) (by kernel_rfl) (fun _ _ _ h=>h) (Or.inl ⟨by rfl,?_⟩) ?_;rotate_left 1
 ·intro w;go_simp;with_reducible rfl
 simp only [List.getElem_toArray,List.getElem_cons_zero,List.getElem_cons_succ,Act.put,q1];refine wpAny_take (i:=4) (v:=?_) rfl (by kernel_rfl) (by kernel_rfl) (by kernel_rfl) (fun _ _ _ h=>h) (Or.inl ⟨by rfl,?_⟩) ?_;rotate_left 1
 ·intro w;go_simp;with_reducible rfl
 simp only [List.getElem_toArray,List.getElem_cons_zero,List.getElem_cons_succ,Act.put,q1];refine wpAny_take (i:=9) (v:=?_) rfl (by kernel_rfl) (by kernel_rfl) (by kernel_rfl) (fun _ _ _ h=>h) (Or.inl ⟨by rfl,?_⟩) ?_;rotate_left 1
 ·intro w;go_simp;with_reducible rfl
 simp only [List.getElem_toArray,List.getElem_cons_zero,List.getElem_cons_succ,Act.put,q1];refine wpAny_take (i:=12) (v:=?_) rfl (by kernel_rfl) (by kernel_rfl) (by kernel_rfl) (fun _ _ _ h=>h) (Or.inl ⟨by rfl,?_⟩) ?_;rotate_left 1
 ·intro w;go_simp;with_reducible rfl
 simp only [List.getElem_toArray,List.getElem_cons_zero,List.getElem_cons_succ,Act.put,q1];refine zmK 3 5 (by kernel_rfl) rfl rfl (.slice (some ⟨g,0,none⟩) C.length ccap) (by go_simp) ?_ rfl rfl 137 #[.pointer (some ⟨x.b,0,none⟩)] (.int .i64 (p:Int)) (by go_simp) s ?_;simp only [List.getElem_toArray,List.getElem_cons_zero,List.getElem_cons_succ,Act.put,q1];refine zwW 5 (by kernel_rfl) rfl rfl 137 #[.pointer (some ⟨x.b,0,none⟩)] (.int .i64 (p:Int)) (by go_simp) s ?_;simp only [List.getElem_toArray,List.getElem_cons_zero,List.getElem_cons_succ,Act.put,q1];rotate_left 1;simp only [List.getElem_toArray,List.getElem_cons_zero,List.getElem_cons_succ,Act.put,q1];refine zdG 3 (by kernel_rfl) rfl rfl (.slice (some ⟨g,0,none⟩) C.length ccap) w4.drew (by go_simp) ?_;simp only [List.getElem_toArray,List.getElem_cons_zero,List.getElem_cons_succ,Act.put,q1];all_goals
  refine zdG 6 (by kernel_rfl) rfl rfl (.pointer (some ⟨g,p*2,none⟩)) w4.drew (by go_simp) ?_;simp only [List.getElem_toArray,List.getElem_cons_zero,List.getElem_cons_succ,Act.put,q1];refine zdG 7 (by kernel_rfl) rfl rfl (.pointer (some ⟨g,p*2,none⟩)) w4.drew (by go_simp) ?_;simp only [List.getElem_toArray,List.getElem_cons_zero,List.getElem_cons_succ,Act.put,q1];refine zdG 8 (by kernel_rfl) rfl rfl (.iface (insT ins) (.agg (insA ins))) w4.drew (by go_simp) ?_;simp only [List.getElem_toArray,List.getElem_cons_zero,List.getElem_cons_succ,Act.put,q1];refine zuI 10 (by kernel_rfl) rfl rfl F #[.agg (insA ins),.pointer (some ⟨x.b,0,none⟩)] (by go_simp) _ ac ?_ ?_ ?_
  ·intro rv wl d;cases LR with
   | none=>obtain⟨t,_⟩:=d;cases t
   | some ks =>
    obtain⟨so,sc,r,ax,ak,n',t,A,av,ab,an⟩:=d;cases t;obtain⟨aj,N⟩:=J.out ks rfl;have I0:=LkI.first (l.below f) (c4.block (f.block S c4.lt)) (H.trans (f.mono (by have:=l.SB;have:=l.SL;omega))) A av ab an aj;have Z:Hid (r.length=ks.length∧ks.length≤2∧(xs.map Wy.k).length≤2000):=⟨A.len,N,by rw [List.length_map];exact hlen⟩
    have hps:r.length≤2:=by rw [A.len];exact N
    clear ac s l c4 H A av ab an aj N J X4 q0 qi f m T hlen au K;refine zdG 11 (by kernel_rfl) rfl rfl (.int .i64 (r.length:Int)) wl (by go_simp) ?_;simp only [List.getElem_toArray,List.getElem_cons_zero,List.getElem_cons_succ,Act.put,q1];refine wpAny_done (by kernel_rfl) ?_ _;go_wp2
    go_loopw [48] (fun ti wr=>∃(j:Nat) (v':Value) (ys:List Wy),ti=.int .i64 (j:Int)∧j≤r.length∧LkI w B S g C (.slice (some ⟨g,0,none⟩) C.length ccap) n R' looks (x.k.steps+1) (max bf ((x.k.behind.length:Int)+1)) (xs.map Wy.k) so r ks ax ak wr j v' ys) (fun ti _=>r.length-(intOf ti).toNat)
    case atStart=>exact⟨0,v,xs,rfl,Nat.zero_le _,I0⟩
    case round =>
     obtain⟨j,v',ys,rfl,hj,I⟩:=hrel;clear I0;have j0:(0:Int)≤(j:Int):=by omega
     by_cases aq:j<r.length
     ·have af:(j:Int)<(r.length:Int):=by omega
      obtain⟨al,ae,ai⟩:=Z.out;obtain⟨sg,rfl,r2,r3,r4,r5⟩:=I.row j r[j] (List.getElem?_eq_getElem aq);have ag:=I.add (List.getElem?_eq_getElem aq) al ae ai;clear I al ae ai Z;go_wp2_with(go_at_call 138;(with_reducible refine ag.mono ?_);rintro e wa ⟨rfl,v2,aC,I2⟩)
      go_roundw
      case rel=>exact⟨j+1,v2,aC,by go_num,by omega,I2⟩
      case measure=>simp [intOf];omega
     ·have aA:j=r.length:=by omega
      subst aA;have ah:=I.last Z.out.1;have af:decide ((r.length:Int)<(r.length:Int))=false:=by simp
      clear I;go_wp2;exact bodyPost_end (results_none rfl _ _ _) rfl ah
  ·intro ch wl d;cases LR with
   | some ks=>obtain⟨_,_,_,_,_,_,t,_⟩:=d;cases t
   | none =>
    obtain⟨t,hg⟩:=d;cases t;have far:=l.far x (by simp);have aB:Below B w wl:=(H.trans (f.mono (by have:=l.SB;have:=l.SL;omega))).grown hg (by have:=l.SB;have:=l.SL;show B≤w4.heap.size;omega) (fun q hq=>by cases hq;exact far.1);exact⟨rfl,rfl,aB⟩
  ·intro wl d;cases LR with
   | some ks=>obtain⟨_,_,_,_,_,_,t,_⟩:=d;cases t
   | none=>obtain⟨t,_⟩:=d;cases t
end
end Go.Proofs.YtfpgjkbjbbgciaaGreatDoor
