import Derived.Test.YtfpgjkbjbbgciaaGreatDoorMi37
import Derived.Test.YtfpgjkbjbbgciaaGreatDoorMi39
import Derived.Test.YtfpgjkbjbbgciaaGreatDoorMi46
import Derived.Test.YtfpgjkbjbbgciaaGreatDoorMi49
set_option maxRecDepth 100000
set_option maxHeartbeats 8000000
namespace Go.Proofs.YtfpgjkbjbbgciaaGreatDoor
open Go.RowKit Sp
theorem zyv{w:World}{B g cap:Nat}{ms:List Mk}(M:w.ownsRow B 217 51 (.slice (some ⟨g,0,none⟩) ms.length cap) ms.length (zbh ms)){i:Nat}(hi:i<ms.length):KnR w g (i*51) (.slice (ms.getD i mk0).ao (ms.getD i mk0).k.behind.length (ms.getD i mk0).cap) (ms.getD i mk0).k:=by
 have e:ms[i]?=some (ms.getD i mk0):=by simp [List.getD,hi]
 refine ziB fun j hj=>?_
 have h1:=zqP e j hj
 have hl:j<(ms.getD i mk0).cells.length:=by rw [show(ms.getD i mk0).cells.length=51 from zdr _ _];exact hj
 have h2:(ms.getD i mk0).cells[j]?=some (ms.getD i mk0).cells[j]:=List.getElem?_eq_getElem hl
 rw [h2] at h1
 have:=zd2 M (51*i+j) _ h1
 rw [show i*51+j=51*i+j by omega,this]
 exact h2.symm
theorem ztB{w:World}{S o B:Nat}{mv:Value}{R:Rs}{x:Wy}(h:RsC w S o mv R)(fz:∀ j,w.frozen? ⟨S,j,none⟩=false)(s0:0≤R.steps)(s1:R.steps≤100000)(M:w.ownsRow B 217 51 mv R.marked.length (zbh R.marked))(mbh:∀ m∈R.marked,BhM w m.ao m.cap m.k.behind)(X:WyM w x)(hB:B≤w.heap.size)(hmS:mv.ownBlock≠some S)(hl:R.marked.length≤500000)(hn:R.seen≤500000):
  Calls Tryz.prog 152 #[.pointer (some ⟨S,o,none⟩),.pointer (some ⟨x.b,0,none⟩)] w (zda w S o B mv (R.see ⟨x.ao,x.cap,x.k⟩)):=by
 obtain⟨ao,cap,rfl,_,_,_⟩:=zdE M
 cases hm:zbC R.steps with
 | true=>exact zww h fz hm s0 s1 M X hB hmS hl hn
 | false =>
  cases hcv:R.covers with
  | false=>exact zqS h fz hm s0 s1 M hmS hl hn hcv
  | true =>
   by_cases hlt:R.seen<R.marked.length
   ·refine zqU h fz hm s0 s1 M hmS hl hn hcv hlt _ rfl (fun g hg W hW=>?_)
    subst hg
    have hmem:R.marked.getD R.seen mk0∈R.marked:=by simp [List.getD,hlt]
    have M':W.ownsRow B 217 51 (.slice (some ⟨g,0,none⟩) R.marked.length cap) R.marked.length (zbh R.marked):=zcc M (fun q hq=>hW.block q (M.lt q hq).2)
    have X':=X.below hW
    exact(znJ X'.kn (zyv M' hlt) X'.bh ((mbh _ hmem).below hW)).mono fun e w' hh=>⟨hh.1,hW.trans (hh.2.mono hW.size)⟩
   ·exact zqT h fz hm s0 s1 M hmS hl hn hcv hlt
def Rs.kn(R:Rs):RsK:=⟨R.marked.map Mk.k,R.steps,R.seen,R.covers⟩
theorem zxv(R:Rs)(m:Mk):(R.see m).kn=R.kn.see m.k:=by
 unfold Rs.see Rs.kn RsK.see
 simp only [RsK.mk.injEq,true_and]
 refine⟨?_,?_⟩
 ·split <;> simp
 ·have e:(R.marked.map Mk.k).getD R.seen kn0=(R.marked.getD R.seen mk0).k:=by
   simp only [List.getD,List.getElem?_map]
   cases R.marked[R.seen]? <;> rfl
  rw [e,List.length_map]
theorem zwx(R:Rs)(s:Int):(R.begin s).kn=R.kn.begin s:=by
 unfold Rs.begin Rs.kn RsK.begin
 simp only [RsK.mk.injEq,and_true]
 split <;> simp
def Rs.endless(R:Rs)(m:Mk):Option Rs :=
 if m.k.steps=R.steps then some (R.see m) else if R.covers&&decide (R.seen=R.marked.length) then none else some ((R.begin m.k.steps).see m)
theorem zqV(R:Rs)(m:Mk):R.kn.endless m.k=(R.endless m).map Rs.kn:=by
 unfold Rs.endless RsK.endless
 show(if m.k.steps=R.steps then _ else if R.covers&&decide (R.seen=(R.marked.map Mk.k).length) then _ else _)=_
 rw [List.length_map]
 split
 ·rw [Option.map_some,zxv]
 ·split
  ·rfl
  ·rw [Option.map_some,zxv,zwx]
theorem zwy{w:World}{B e size n cap:Nat}{ao:Option Addr}{l:List Value}(h:w.ownsRow B e size (.slice ao n cap) n l):w.ownsRow B e size (.slice ao 0 cap) 0 []:=by
 refine⟨by simp,?_⟩
 rcases h.2 with ⟨e1,e2⟩|⟨g,c,cur,e1,hB,hg,h1,h2,h3,h4⟩
 ·cases e1;exact .inl ⟨rfl,rfl⟩
 ·cases e1;exact .inr ⟨g,cap,cur,rfl,hB,hg,Nat.zero_le _,h2,h3,by simp⟩
def zyw(w:World)(B S g:Nat)(C:List (Ins × Int))(v mv:Value)(xs hs:List Wy):Option Rs→Ending→World→Prop
 | none=>fun e w'=>e=.returned (.bool true)∧Below w.heap.size w w'
 | some R=>fun e w'=>e=.returned (.bool false)∧∃ mv',RsC w' S 2 mv' R∧SO w' B S g C v mv' xs hs R.marked∧Kept4 w w' S 2 mv.ownBlock
theorem zmg(R:Rs)(s:Int):∀ m∈(R.begin s).marked,m∈R.marked:=by
 intro m hm
 have h:m∈(if zbC s then [] else R.marked):=hm
 split at h
 ·cases h
 ·exact h
theorem begin_len(R:Rs)(s:Int):(R.begin s).marked.length=begN s R.marked.length:=by
 show(if zbC s then [] else R.marked).length=if zbC s then 0 else R.marked.length
 split <;> rfl
theorem zyx(R:Rs)(m:Mk):∀ q∈(R.see m).marked,q∈R.marked∨q=m:=by
 intro q hq
 have h:q∈(if zbC R.steps then R.marked++[m] else R.marked):=hq
 split at h
 ·rcases List.mem_append.1 h with e|e
  ·exact .inl e
  ·exact .inr (List.mem_singleton.1 e)
 ·exact .inl h
theorem zmh{w w':World}{S o:Nat}{hb:Option Nat}(h:Kept4 w w' S o hb)(fz:∀ j,w.frozen? ⟨S,j,none⟩=false):∀ j,w'.frozen? ⟨S,j,none⟩=false:=fun j=>(h.fz j).trans (fz j)
theorem zxw{w w0:World}{B S g:Nat}{C:List (Ins × Int)}{v mv:Value}{x:Wy}{xs hs:List Wy}{R:Rs}(O:SO w B S g C v mv xs (x :: hs) R.marked){hb:Option Nat}(h0:Kept4 w0 w S 2 hb)(hbb:∀ q,mv.ownBlock=some q→hb=some q∨w0.heap.size≤q){e:Ending}{w':World}(h:zda w S 2 B mv (R.see ⟨x.ao,x.cap,x.k⟩) e w'):
  e=.returned (.tuple #[])∧∃ mv',RsC w' S 2 mv' (R.see ⟨x.ao,x.cap,x.k⟩)∧SO w' B S g C v mv' xs (x :: hs) (R.see ⟨x.ao,x.cap,x.k⟩).marked∧Kept4 w0 w' S 2 hb:=by
 obtain⟨rfl,mv',h1,h2,h3,h4⟩:=h
 refine⟨rfl,mv',h1,O.remark h4 h2 h3 (fun m hm=>?_),⟨h4.os.trans h0.os,h4.tape.trans h0.tape,h4.output.trans h0.output,Nat.le_trans h0.size h4.size,fun q hq h5 h6=>?_,fun j a b c d=>(h4.cell j a b c d).trans (h0.cell j a b c d),fun j=>(h4.fz j).trans (h0.fz j)⟩⟩
 ·rcases zyx R _ m hm with e|e
  ·exact .inl e
  ·subst e
   exact .inr ⟨x,by simp,rfl,rfl,rfl⟩
 ·refine(h4.block q (Nat.lt_of_lt_of_le hq h0.size) h5 (fun e=>?_)).trans (h0.block q hq h5 h6)
  rcases hbb q e.symm with e2|e2
  ·exact h6 e2.symm
  ·omega
theorem zhi{w:World}{B S g:Nat}{C:List (Ins × Int)}{v mv:Value}{x:Wy}{xs hs:List Wy}{R:Rs}(h:RsC w S 2 mv R)(fz:∀ j,w.frozen? ⟨S,j,none⟩=false)(O:SO w B S g C v mv xs (x :: hs) R.marked)(s0:0≤R.steps)(s1:R.steps≤100000)(k0:0≤x.k.steps)(k1:x.k.steps≤100000)(hl:R.marked.length≤500000)(hn:R.seen≤500000):
  Calls Tryz.prog 135 #[.pointer (some ⟨S,2,none⟩),.pointer (some ⟨x.b,0,none⟩)] w (zyw w B S g C v mv xs (x :: hs) (R.endless ⟨x.ao,x.cap,x.k⟩)):=by
 obtain⟨ao,cap,rfl,hc1,hc2,hc0⟩:=zdE O.mkr
 have X:=O.hand x List.mem_cons_self
 have hB:B≤w.heap.size:=by have:=O.SB;have:=O.SL;omega
 have hrefl:Kept4 w w S 2 (Value.slice ao R.marked.length cap).ownBlock:=zc7 O.SL (Below.refl _ _)
 by_cases e1:x.k.steps=R.steps
 ·have e0:R.endless ⟨x.ao,x.cap,x.k⟩=some (R.see ⟨x.ao,x.cap,x.k⟩):=if_pos e1
  rw [e0]
  refine ztC h X.kn e1 _ (fun W hW=>?_)
  have OW:=O.below hW
  have hS:=O.SL
  have fzW:∀ j,W.frozen? ⟨S,j,none⟩=false:=fun j=>(World.frozen?_of_block (a:=⟨S,j,none⟩) (hW.block S hS)).trans (fz j)
  refine(ztB (h.below hW) fzW s0 s1 OW.mkr OW.mbh (OW.hand x List.mem_cons_self) (Nat.le_trans hB hW.size) OW.mS hl hn).mono fun e w' hh=>?_
  exact zxw OW (zc7 O.SL hW) (fun q hq=>.inl hq) hh
 ·by_cases e2:R.covers=true∧R.seen=R.marked.length
  ·have e0:R.endless ⟨x.ao,x.cap,x.k⟩=none:=by
    unfold Rs.endless
    rw [if_neg e1,e2.1,e2.2];simp
   rw [e0]
   exact zwz h X.kn e1 e2.1 e2.2 hl
  ·have e0:R.endless ⟨x.ao,x.cap,x.k⟩=some ((R.begin x.k.steps).see ⟨x.ao,x.cap,x.k⟩):=by
    unfold Rs.endless
    rw [if_neg e1,if_neg]
    simpa using e2
   rw [e0]
   have hg:∀ W,Below w.heap.size w W→Calls Tryz.prog 151 #[.pointer (some ⟨S,2,none⟩),.int .i64 x.k.steps] W fun e w'=>e=.returned (.tuple #[])∧RsC w' S 2 (.slice ao (R.begin x.k.steps).marked.length cap) (R.begin x.k.steps)∧SO w' B S g C v (.slice ao (R.begin x.k.steps).marked.length cap) xs (x :: hs) (R.begin x.k.steps).marked∧Kept4 w w' S 2 (Value.slice ao R.marked.length cap).ownBlock:=fun W hW=>by
    have OW:=O.below hW
    have fzW:∀ j,W.frozen? ⟨S,j,none⟩=false:=fun j=>(World.frozen?_of_block (a:=⟨S,j,none⟩) (hW.block S O.SL)).trans (fz j)
    refine(zqQ (h.below hW) fzW hc1 hc2 hc0 x.k.steps k0 k1).mono ?_
    rintro e w' ⟨rfl,r1,r2⟩
    rw [←begin_len] at r1
    have r2':Kept4 W w' S 2 (Value.slice ao R.marked.length cap).ownBlock:=⟨r2.os,r2.tape,r2.output,r2.size,fun q hq h1 _=>r2.block q hq h1 (by simp),r2.cell,r2.fz⟩
    refine⟨rfl,r1,OW.remark (mv':=.slice ao (R.begin x.k.steps).marked.length cap) r2' ?_ ?_ (fun m hm=>.inl (zmg R _ m hm)),(zc7 O.SL hW).trans r2'⟩
    ·have M1:w'.ownsRow B 217 51 (.slice ao R.marked.length cap) R.marked.length (zbh R.marked):=zcc OW.mkr (fun q hq=>r2.block q (OW.mkr.lt q hq).2 (fun e=>OW.mS (by rw [hq,e])) (by simp))
     by_cases hm:zbC x.k.steps=true
     ·have e5:(R.begin x.k.steps).marked=[]:=if_pos hm
      rw [e5]
      exact zwy M1
     ·have e5:(R.begin x.k.steps).marked=R.marked:=if_neg hm
      rw [e5]
      exact M1
    ·intro q hq
     left
     cases ao with
     | none=>cases hq
     | some a=>exact hq
   have hs':∀ W,(RsC W S 2 (.slice ao (R.begin x.k.steps).marked.length cap) (R.begin x.k.steps)∧SO W B S g C v (.slice ao (R.begin x.k.steps).marked.length cap) xs (x :: hs) (R.begin x.k.steps).marked∧Kept4 w W S 2 (Value.slice ao R.marked.length cap).ownBlock)→Calls Tryz.prog 152 #[.pointer (some ⟨S,2,none⟩),.pointer (some ⟨x.b,0,none⟩)] W fun e w'=>e=.returned (.tuple #[])∧∃ mv',RsC w' S 2 mv' ((R.begin x.k.steps).see ⟨x.ao,x.cap,x.k⟩)∧SO w' B S g C v mv' xs (x :: hs) ((R.begin x.k.steps).see ⟨x.ao,x.cap,x.k⟩).marked∧Kept4 w w' S 2 (Value.slice ao R.marked.length cap).ownBlock:=fun W ⟨r1,r2,r3⟩=>by
    have hl2:(R.begin x.k.steps).marked.length≤500000:=by
     rw [begin_len];unfold begN;split <;> omega
    refine(ztB r1 (zmh r3 fz) k0 k1 r2.mkr r2.mbh (r2.hand x List.mem_cons_self) (by have:=r2.SB;have:=r2.SL;omega) r2.mS hl2 (Nat.zero_le _)).mono fun e w' hh=>?_
    refine zxw r2 r3 (fun q hq=>.inl ?_) hh
    cases ao with
    | none=>cases hq
    | some a=>exact hq
   cases hcv:R.covers with
   | false=>exact ztE h X.kn e1 hcv _ _ hg hs'
   | true=>exact ztD h X.kn e1 hcv (fun e=>e2 ⟨hcv,e⟩) hl hn _ _ hg hs'
section
section
variable {P:Program} {md:Region.Mode} {ops:Array Oper} {Q:Exit→Act→World→Prop} {fuel:Nat} {listed:Array Bool} {a:Act} {w:World}
theorem zw3(i:Nat){o:Oper}(hr:Region.ready md ops listed=[i])(ho:ops[i]?=some o)(hg:o.guard=none)(f:FuncId)(args:Array Value)(v:Value)(h:(execOp a.eval o).run P w=.ok (.enter f args) w)(hc:Calls P f args w fun e w''=>e=.returned v∧w''=w)(rest:wpAny P md ops Q fuel (listed.setIfInBounds i true) (a.put o.dst v) w):wpAny P md ops Q (fuel+1) listed a w :=
 wpAny_ready hr (by simp) (AllReady.cons ho (fun K hK=>by
  have hw:Region.wanted o (yielded ops a.tmps)=true:=by simp [Region.wanted,hg]
  rw [if_pos hw];unfold Oper.wp;rw [h,Oper.upon_enter]
  refine hc.mono fun e w'' hh=>?_
  obtain⟨rfl,rfl⟩:=hh
  exact hK _ _ rest) AllReady.nil)
theorem zms(i j:Nat){o p:Oper}(hr:Region.ready md ops listed=[i,j])(ho:ops[i]?=some o)(hg:o.guard=none)(v:Value)(h:(execOp a.eval o).run P w=.ok (.value v) w)(rest:wpAny P md ops Q fuel (listed.setIfInBounds i true) (a.put o.dst v) w)
  (hp:ops[j]?=some p) (hg2:p.guard=none) (f:FuncId) (args:Array Value) (u:Value) (h2:(execOp a.eval p).run P w=.ok (.enter f args) w) (hc:Calls P f args w fun e w''=>e=.returned u∧w''=w) (rest2:wpAny P md ops Q fuel (listed.setIfInBounds j true) (a.put p.dst u) w):wpAny P md ops Q (fuel+1) listed a w :=
 wpAny_ready hr (by simp) (AllReady.cons ho (fun K hK=>by
  have hw:Region.wanted o (yielded ops a.tmps)=true:=by simp [Region.wanted,hg]
  rw [if_pos hw];unfold Oper.wp;rw [h];exact hK _ _ rest) (AllReady.cons hp (fun K hK=>by
  have hw:Region.wanted p (yielded ops a.tmps)=true:=by simp [Region.wanted,hg2]
  rw [if_pos hw];unfold Oper.wp;rw [h2,Oper.upon_enter]
  refine hc.mono fun e w'' hh=>?_
  obtain⟨rfl,rfl⟩:=hh
  exact hK _ _ rest2) AllReady.nil))
theorem ztW(i:Nat){o:Oper}(hr:Region.ready md ops listed=[i])(ho:ops[i]?=some o)(hg:o.guard=none)(f:FuncId)(args:Array Value)(h:(execOp a.eval o).run P w=.ok (.enter f args) w)(R:Ending→World→Prop)(hc:Calls P f args w R)
  (hv:∀ v w',R (.returned v) w'→wpAny P md ops Q fuel (listed.setIfInBounds i true) (a.put o.dst v) w') (hp:∀ c w',R (.panicked c) w'→Q (.panic c) a w') (ho2:∀ w',R .outgrown w'→LetsOut Q):wpAny P md ops Q (fuel+1) listed a w :=
 wpAny_ready hr (by simp) (AllReady.cons ho (fun K hK=>by
  have hw:Region.wanted o (yielded ops a.tmps)=true:=by simp [Region.wanted,hg]
  rw [if_pos hw];unfold Oper.wp;rw [h,Oper.upon_enter]
  refine hc.mono fun e w'' hh=>?_
  cases e with
  | returned v=>exact hK _ _ (hv v w'' hh)
  | panicked c=>exact hp c w'' hh
  | outgrown=>exact ho2 w'' hh) AllReady.nil)
end
def zpy(w:World)(B S g:Nat)(C:List (Ins × Int))(cv:Value)(looks:Nat)(bf:Int)(xs:List Wy)(x:Wy)(R':Rs):Option (List Kn)→Ending→World→Prop
 | none=>fun e w'=>e=zak 8 0∧Below B w w'
 | some ks=>fun e w'=>e=.returned (.tuple #[])∧∃(v' mv':Value) (ys:List Wy),SO w' B S g C v' mv' ys [] R'.marked∧SC w' S cv v' mv' R' looks (x.k.steps+1) (max bf ((x.k.behind.length:Int)+1))∧(ys.map Wy.k).Perm (xs.map Wy.k++ks)∧Below B w w'
structure LkI(w:World)(B S g:Nat)(C:List (Ins × Int))(cv mv:Value)(R:Rs)(looks:Nat)(s1 f1:Int)(W:List Kn)(so:Option Addr)(ps:List Nat)(ks:List Kn)(ao:Option Addr)(cap:Nat)(wr:World)(j:Nat)(v:Value)(ys:List Wy):Prop where
 so':SO wr B S g C v mv ys ((zgF ao cap ps ks).drop j) R.marked
 sc:SC wr S cv v mv R looks s1 f1
 perm:(ys.map Wy.k).Perm (W++ks.take j)
 low:Below B w wr
 row:∀(i p:Nat),ps[i]?=some p→∃ sg,so=some ⟨sg,0,none⟩∧sg<wr.heap.size∧¬sg=S∧v.ownBlock≠some sg∧wr.cell? ⟨sg,i,none⟩=some (.pointer (some ⟨p,0,none⟩))
theorem LkI.add{w:World}{B S g:Nat}{C:List (Ins × Int)}{cv mv:Value}{R:Rs}{looks:Nat}{s1 f1:Int}{W:List Kn}{so:Option Addr}{ps:List Nat}{ks:List Kn}{ao:Option Addr}{cap:Nat}{wr:World}{j:Nat}{v:Value}{ys:List Wy}(h:LkI w B S g C cv mv R looks s1 f1 W so ps ks ao cap wr j v ys){p:Nat}(hj:ps[j]?=some p)(hl:ps.length=ks.length)(h2:ks.length≤2)(hn:W.length≤2000):
  Calls Tryz.prog 138 #[.pointer (some ⟨S,1,none⟩),.pointer (some ⟨p,0,none⟩)] wr fun e w'=>e=.returned (.tuple #[])∧∃ v' ys',LkI w B S g C cv mv R looks s1 f1 W so ps ks ao cap w' (j+1) v' ys':=by
 have hjl:j<ps.length:=(List.getElem?_eq_some_iff.1 hj).1
 have hjp:ps[j]=p:=(List.getElem?_eq_some_iff.1 hj).2
 have hwl:j<(zgF ao cap ps ks).length:=by rw [zmr hl];omega
 obtain⟨p',k,hp',hk,he⟩:=zpx j _ (List.getElem?_eq_getElem hwl)
 have hpp:p'=p:=by rw [hj] at hp';exact(Option.some.inj hp').symm
 subst hpp
 have hd:(zgF ao cap ps ks).drop j=⟨p',ao,cap,k⟩ :: (zgF ao cap ps ks).drop (j+1):=by rw [List.drop_eq_getElem_cons hwl,he]
 have O:=h.so'
 rw [hd] at O
 have hyl:ys.length≤2002:=by
  have:=h.perm.length_eq
  rw [List.length_map,List.length_append,List.length_take] at this
  omega
 refine(zz9 O h.sc h.low (by omega)).mono ?_
 rintro e w' ⟨rfl,v',ys',hp,O',c',hb',hk2,hv⟩
 refine⟨rfl,v',ys',⟨O',c',?_,hb',fun i q hq=>?_⟩⟩
 ·have e1:ks.take (j+1)=ks.take j++[k]:=by rw [List.take_add_one,hk];rfl
  rw [e1,←List.append_assoc]
  refine(hp.map Wy.k).trans ?_
  rw [List.map_append]
  exact List.Perm.append_right _ h.perm
 ·obtain⟨sg,r1,r2,r3,r4,r5⟩:=h.row i q hq
  refine⟨sg,r1,Nat.lt_of_lt_of_le r2 hk2.size,r3,fun e=>?_,?_⟩
  ·rcases hv sg e with e2|e2
   ·exact r4 e2
   ·omega
  ·rw [World.cell?_of_block (w:=wr) (a:=⟨sg,i,none⟩) (hk2.block sg r2 r3 (fun e=>r4 e.symm))]
   exact r5
theorem LkI.first{w w4 wl:World}{B S g:Nat}{C:List (Ins × Int)}{cv v mv:Value}{R:Rs}{looks:Nat}{s1 f1:Int}{xs:List Wy}{x:Wy}{ks:List Kn}{so:Option Addr}{ps:List Nat}{ao':Option Addr}{cap' n':Nat}(O:SO w4 B S g C v mv xs [x] R.marked)(c:SC w4 S cv v mv R looks s1 f1)(hb4:Below B w w4)(A:WaysAt w4 wl x.b (.slice ao' n' cap') ks so ps)(hb:∀ k'∈ks,n'=k'.behind.length∧BhM wl ao' cap' k'.behind)(ha:ao'=x.ao∨∀ a,ao'=some a→w4.heap.size≤a.block)(hf:∀ p∈ps,∀ a,ao'=some a→¬a.block=p)(hkey:∀ k'∈ks,KeyOk k'):
  LkI w B S g C cv mv R looks s1 f1 (xs.map Wy.k) so ps ks ao' cap' wl 0 v xs:=by
 have far:=O.far x (by simp)
 refine⟨zrp O A hb ha hf hkey,c.block (A.grown.block S O.SL (fun e=>far.2.1.1 (by cases e;rfl))),by rw [List.take_zero,List.append_nil],hb4.grown A.grown (by have:=O.SB;have:=O.SL;omega) (fun q hq=>by cases hq;exact far.1),fun i p hp=>?_⟩
 obtain⟨sg,r1,r2,r3⟩:=A.ptrs i p hp
 have hlt:=World.block_lt_of_cell? wl _ r3
 exact⟨sg,r1,hlt,by have:=O.SL;omega,fun e=>by have:=(O.hp.row.lt sg e).2;omega,r3⟩
theorem LkI.last{w:World}{B S g:Nat}{C:List (Ins × Int)}{cv mv:Value}{R:Rs}{looks:Nat}{bf:Int}{xs:List Wy}{x:Wy}{so:Option Addr}{ps:List Nat}{ks:List Kn}{ao:Option Addr}{cap:Nat}{wr:World}{v:Value}{ys:List Wy}(h:LkI w B S g C cv mv R looks (x.k.steps+1) (max bf ((x.k.behind.length:Int)+1)) (xs.map Wy.k) so ps ks ao cap wr ps.length v ys)(hl:ps.length=ks.length):
  zpy w B S g C cv looks bf xs x R (some ks) (.returned (.tuple #[])) wr:=by
 refine⟨rfl,v,mv,ys,?_,h.sc,?_,h.low⟩
 ·have:=h.so'
  rw [List.drop_of_length_le (by rw [zmr hl];omega)] at this
  exact this
 ·have:=h.perm
  rw [hl,List.take_length] at this
  exact this
theorem zy2{w:World}{B S g ccap:Nat}{C:List (Ins × Int)}{v mv:Value}{R R':Rs}{looks:Nat}{bs bf:Int}{xs:List Wy}{x:Wy}(O:SO w B S g C v mv xs [x] R.marked)(c:SC w S (.slice (some ⟨g,0,none⟩) C.length ccap) v mv R looks bs bf)(hC:CodeSure C)(K:KnIn C x.k)(hs:¬x.k.steps=100000)(hR:R.endless ⟨x.ao,x.cap,x.k⟩=some R')
  (s0:0≤R.steps) (s1:R.steps≤100000) (hl:R.marked.length≤500000) (hn:R.seen≤500000) (_f0:0≤bf) (_f1:bf≤16) (hlen:xs.length≤2000) {p:Nat} (hp:p<C.length) (hnx:x.k.next=(p:Int)) {LR:Option (List Kn)} (hlr:zaw C[p].1 x.k=LR) :
  Calls Tryz.prog 116 #[.pointer (some ⟨S,0,none⟩),.pointer (some ⟨x.b,0,none⟩)] w (zpy w B S g C (.slice (some ⟨g,0,none⟩) C.length ccap) looks bf xs x R' LR):=by
 have HLR:Hid (zaw C[p].1 x.k=LR):=hlr
 clear hlr
 have X:=O.hand x (by simp)
 have hst:=zbI X.kn
 have t100:(x.k.steps == 100000)=false:=by simpa using hs
 have k0:=K.s0
 have k1:=K.s1
 have hend:=zhi c.rs c.fz O s0 s1 k0 k1 hl hn
 rw [hR] at hend
 have hBw:B≤w.heap.size:=by have:=O.SB;have:=O.SL;omega
 have HB:Hid (∀ q,mv.ownBlock=some q→B≤q):=fun q hq=>(O.mkr.lt q hq).1
 have HCX:Hid (∀ w1 mv',RsC w1 S 2 mv' R'→Kept4 w w1 S 2 mv.ownBlock→SC w1 S (.slice (some ⟨g,0,none⟩) C.length ccap) v mv' R' looks bs bf∧Below B w w1):=fun w1 mv' hr hk=>⟨c.kept4 hk hr,znN hk O.SB hBw (fun q hq=>(O.mkr.lt q hq).1)⟩
 clear hR
 go_enter Tryz.func116,Tryz.ntmps116
 go_wp2_with(first
  | (go_at_call 134;(with_reducible refine hst.mono ?_);rintro e wx ⟨rfl,hww⟩;have hw2:=hww.symm;subst hw2)
  | (go_at_call 135;(with_reducible refine hend.mono ?_);rintro e w1 ⟨rfl,mv',hr1,O1,hk1⟩;obtain⟨c1,hb1⟩:=HCX.out w1 mv' hr1 hk1;have hst1:=zbI (O1.hand x (by simp)).kn;have d7:=c1.c7;have z7:=c1.fz 7)
  | (go_at_call 134;(with_reducible refine hst1.mono ?_);rintro e wx ⟨rfl,hww⟩;have hw2:=hww.symm;subst hw2))
 have O2:=ztV (o:=7) (u:=.int .i64 (x.k.steps+1)) O1
 have c2:=c1.set7 (x.k.steps+1)
 have hb2:Below B w (w1.setCell ⟨S,7,none⟩ (.int .i64 (x.k.steps+1))):=hb1.setCell (p:=⟨S,7,none⟩) O1.SB _
 clear hst hend HCX hk1 O1 c1 hb1 d7 z7 hr1 hst1 O c X
 generalize w1.setCell ⟨S,7,none⟩ (.int .i64 (x.k.steps+1))=w2 at O2 c2 hb2 ⊢
 have X2:=O2.hand x (by simp)
 have hln:=X2.bh.len
 have HF8:∀ W,Below w2.heap.size w2 W→W.cell? ⟨S,8,none⟩=some (.int .i64 bf):=fun W hW=>(c2.block (hW.block S c2.lt)).c8
 have l0:(0:Int)≤(x.k.behind.length:Int):=by omega
 have l1:(x.k.behind.length:Int)≤15:=by omega
 refine zad 9 (fun W=>Below w2.heap.size w2 W) (Below.refl _ _).drew (by kernel_rfl) (by kernel_rfl) ?_
 simp only [List.take_succ_cons,List.take_zero,List.drop_succ_cons,List.drop_zero]
 iterate 7 (refine zab rfl ?_ (fun W hW=>?_) ?_;rotate_left 1;· (have q8:=HF8 W hW;go_simp;with_reducible rfl))
 refine zaI rfl 136 #[.pointer (some ⟨x.b,0,none⟩)] (.int .i64 ((x.k.behind.length:Int)+1)) (fun W hW=>?_) (fun W hW=>(zf6 (X2.below hW).kn hln).mono (fun e w' hh=>⟨hh.1,by rw [hh.2];exact hW⟩)) ?_
 ·go_simp
 iterate 1 (refine zab rfl ?_ (fun W hW=>?_) ?_;rotate_left 1;· (have q8:=HF8 W hW;go_simp;with_reducible rfl))
 refine wpQuiet_nil ?_
 intro W3 hW3
 have q8:=HF8 W3 hW3
 have z8:W3.frozen? ⟨S,8,none⟩=false:=(c2.block (hW3.block S c2.lt)).fz 8
 go_wp2
 have hS2:=c2.lt
 have O4:=ztV (o:=8) (u:=.int .i64 (max bf ((x.k.behind.length:Int)+1))) (O2.below hW3)
 have c4:=(c2.block (hW3.block S hS2)).set8 (max bf ((x.k.behind.length:Int)+1))
 have hb4:Below B w (W3.setCell ⟨S,8,none⟩ (.int .i64 (max bf ((x.k.behind.length:Int)+1)))):=(hb2.trans (hW3.mono (by have:=O2.SB;have:=O2.SL;omega))).setCell (p:=⟨S,8,none⟩) O2.SB _
 clear q8 z8 HF8 O2 c2 hb2 X2 hS2
 generalize W3.setCell ⟨S,8,none⟩ (.int .i64 (max bf ((x.k.behind.length:Int)+1)))=w4 at O4 c4 hb4 ⊢
 have X4:=O4.hand x (by simp)
 have hg4:g<w4.heap.size:=by have:=O4.gB;have:=O4.SB;have:=O4.SL;omega
 have HF0:∀ W,Below w4.heap.size w4 W→W.cell? ⟨S,0,none⟩=some (.slice (some ⟨g,0,none⟩) C.length ccap)∧W.cell? ⟨g,p*2,none⟩=some (.iface (insT C[p].1) (.agg (insA C[p].1))):=fun W hW=>⟨(c4.block (hW.block S c4.lt)).c0,(zdM O4.code (hW.block g hg4) p hp).1⟩
 have hmeth:=ztT C[p].1 (hC.ok.ok p hp)
 have hcf:=zrn C[p].1 (hC.ok.ok p hp)
 have HL:Hid (∀ W,Below w4.heap.size w4 W→Calls Tryz.prog (insL C[p].1) #[.agg (insA C[p].1),.pointer (some ⟨x.b,0,none⟩)] W (zdN W x.b x.ao LR)):=fun W hW=>by
  rw [←HLR.out]
  have XW:=X4.below hW
  have hcl:=hC.ok.few
  exact ztS C[p].1 (hC.ok.ok p hp) XW.kn XW.bh (fun a ha=>((O4.far x (by simp)).2.2 a ha).2 x (by simp)) K.ok k0 k1 (by omega) (by omega)
 have HKEY:Hid (∀ ks,LR=some ks→(∀ k'∈ks,KeyOk k')∧ks.length≤2):=fun ks hk=>⟨fun k' hk'=>(zpt hC hp hnx K hs (HLR.out.trans hk) k' hk').key hC.ok.few,zmd (HLR.out.trans hk)⟩
 have p0:(0:Int)≤(p:Int):=by omega
 have p1:(p:Int)<(C.length:Int):=by omega
 clear HLR
 generalize C[p].1=ins at HF0 hmeth hcf HL
 generalize insL ins=F at hmeth hcf HL
 have hb5:Below w4.heap.size w4 w4.drew:=(Below.refl _ _).drew
 obtain⟨q0,qi⟩:=HF0 _ hb5
 have hl5:=HL.out _ hb5
 have hnx5:Calls Tryz.prog 137 #[.pointer (some ⟨x.b,0,none⟩)] w4.drew fun e w''=>e=.returned (.int .i64 (p:Int))∧w''=w4.drew:=(ztp (X4.below hb5).kn).mono (fun e w' hh=>⟨by rw [hh.1,hnx],hh.2⟩)
 clear HF0 HL
 refine wp_region_any (by kernel_rfl) ?_
 change wpAny _ _ _ _ _ _ _ (World.drew _)
 refine wpAny_take (i:=0) (v:=?_) rfl (by kernel_rfl) (by kernel_rfl) (by kernel_rfl) (fun _ _ _ h=>h) (Or.inl ⟨by rfl,?_⟩) ?_
 rotate_left 1
 ·intro w;go_simp;with_reducible rfl
 simp only [List.getElem_toArray,List.getElem_cons_zero,Act.put,List.setIfInBounds_toArray,List.set_cons_zero,List.set_cons_succ]
 refine wpAny_take (i:=1) (v:=?_) rfl (by kernel_rfl) (by kernel_rfl) (by kernel_rfl) (fun _ _ _ h=>h) (Or.inl ⟨by rfl,?_⟩) ?_
 rotate_left 1
 ·intro w;go_simp;with_reducible rfl
 simp only [List.getElem_toArray,List.getElem_cons_zero,List.getElem_cons_succ,Act.put,List.setIfInBounds_toArray,List.set_cons_zero,List.set_cons_succ]
 refine wpAny_take (i:=2) (v:=?_) rfl (by kernel_rfl) (by kernel_rfl) (by kernel_rfl) (fun _ _ _ h=>h) (Or.inl ⟨by rfl,?_⟩) ?_
 rotate_left 1
 ·intro w;go_simp;with_reducible rfl
 simp only [List.getElem_toArray,List.getElem_cons_zero,List.getElem_cons_succ,Act.put,List.setIfInBounds_toArray,List.set_cons_zero,List.set_cons_succ]
 refine wpAny_take (i:=4) (v:=?_) rfl (by kernel_rfl) (by kernel_rfl) (by kernel_rfl) (fun _ _ _ h=>h) (Or.inl ⟨by rfl,?_⟩) ?_
 rotate_left 1
 ·intro w;go_simp;with_reducible rfl
 simp only [List.getElem_toArray,List.getElem_cons_zero,List.getElem_cons_succ,Act.put,List.setIfInBounds_toArray,List.set_cons_zero,List.set_cons_succ]
 refine wpAny_take (i:=9) (v:=?_) rfl (by kernel_rfl) (by kernel_rfl) (by kernel_rfl) (fun _ _ _ h=>h) (Or.inl ⟨by rfl,?_⟩) ?_
 rotate_left 1
 ·intro w;go_simp;with_reducible rfl
 simp only [List.getElem_toArray,List.getElem_cons_zero,List.getElem_cons_succ,Act.put,List.setIfInBounds_toArray,List.set_cons_zero,List.set_cons_succ]
 refine wpAny_take (i:=12) (v:=?_) rfl (by kernel_rfl) (by kernel_rfl) (by kernel_rfl) (fun _ _ _ h=>h) (Or.inl ⟨by rfl,?_⟩) ?_
 rotate_left 1
 ·intro w;go_simp;with_reducible rfl
 simp only [List.getElem_toArray,List.getElem_cons_zero,List.getElem_cons_succ,Act.put,List.setIfInBounds_toArray,List.set_cons_zero,List.set_cons_succ]
 refine zms 3 5 (by kernel_rfl) rfl rfl (.slice (some ⟨g,0,none⟩) C.length ccap) (by go_simp) ?_ rfl rfl 137 #[.pointer (some ⟨x.b,0,none⟩)] (.int .i64 (p:Int)) (by go_simp) hnx5 ?_
 simp only [List.getElem_toArray,List.getElem_cons_zero,List.getElem_cons_succ,Act.put,List.setIfInBounds_toArray,List.set_cons_zero,List.set_cons_succ]
 refine zw3 5 (by kernel_rfl) rfl rfl 137 #[.pointer (some ⟨x.b,0,none⟩)] (.int .i64 (p:Int)) (by go_simp) hnx5 ?_
 simp only [List.getElem_toArray,List.getElem_cons_zero,List.getElem_cons_succ,Act.put,List.setIfInBounds_toArray,List.set_cons_zero,List.set_cons_succ]
 rotate_left 1
 simp only [List.getElem_toArray,List.getElem_cons_zero,List.getElem_cons_succ,Act.put,List.setIfInBounds_toArray,List.set_cons_zero,List.set_cons_succ]
 refine zds 3 (by kernel_rfl) rfl rfl (.slice (some ⟨g,0,none⟩) C.length ccap) w4.drew (by go_simp) ?_
 simp only [List.getElem_toArray,List.getElem_cons_zero,List.getElem_cons_succ,Act.put,List.setIfInBounds_toArray,List.set_cons_zero,List.set_cons_succ]
 all_goals
  refine zds 6 (by kernel_rfl) rfl rfl (.pointer (some ⟨g,p*2,none⟩)) w4.drew (by go_simp) ?_
  simp only [List.getElem_toArray,List.getElem_cons_zero,List.getElem_cons_succ,Act.put,List.setIfInBounds_toArray,List.set_cons_zero,List.set_cons_succ]
  refine zds 7 (by kernel_rfl) rfl rfl (.pointer (some ⟨g,p*2,none⟩)) w4.drew (by go_simp) ?_
  simp only [List.getElem_toArray,List.getElem_cons_zero,List.getElem_cons_succ,Act.put,List.setIfInBounds_toArray,List.set_cons_zero,List.set_cons_succ]
  refine zds 8 (by kernel_rfl) rfl rfl (.iface (insT ins) (.agg (insA ins))) w4.drew (by go_simp) ?_
  simp only [List.getElem_toArray,List.getElem_cons_zero,List.getElem_cons_succ,Act.put,List.setIfInBounds_toArray,List.set_cons_zero,List.set_cons_succ]
  refine ztW 10 (by kernel_rfl) rfl rfl F #[.agg (insA ins),.pointer (some ⟨x.b,0,none⟩)] (by go_simp) _ hl5 ?_ ?_ ?_
  ·intro rv wl hrv
   cases LR with
   | none=>obtain⟨he,_⟩:=hrv;cases he
   | some ks =>
    obtain⟨so,sc,ps,ao',cap',n',he,A,hbh,hao,hfr⟩:=hrv
    cases he
    obtain⟨hky,hk2⟩:=HKEY.out ks rfl
    have I0:=LkI.first (O4.below hb5) (c4.block (hb5.block S c4.lt)) (hb4.trans (hb5.mono (by have:=O4.SB;have:=O4.SL;omega))) A hbh hao hfr hky
    have hpl:Hid (ps.length=ks.length∧ks.length≤2∧(xs.map Wy.k).length≤2000):=⟨A.len,hk2,by rw [List.length_map];exact hlen⟩
    have hps:ps.length≤2:=by rw [A.len];exact hk2
    clear hl5 hnx5 O4 c4 hb4 A hbh hao hfr hky hk2 HKEY X4 q0 qi hb5 hmeth hcf hlen hln K
    refine zds 11 (by kernel_rfl) rfl rfl (.int .i64 (ps.length:Int)) wl (by go_simp) ?_
    simp only [List.getElem_toArray,List.getElem_cons_zero,List.getElem_cons_succ,Act.put,List.setIfInBounds_toArray,List.set_cons_zero,List.set_cons_succ]
    refine wpAny_done (by kernel_rfl) ?_ _
    go_wp2
    go_loopw [48] (fun ti wr=>∃(j:Nat) (v':Value) (ys:List Wy),ti=.int .i64 (j:Int)∧j≤ps.length∧LkI w B S g C (.slice (some ⟨g,0,none⟩) C.length ccap) mv' R' looks (x.k.steps+1) (max bf ((x.k.behind.length:Int)+1)) (xs.map Wy.k) so ps ks ao' cap' wr j v' ys) (fun ti _=>ps.length-(intOf ti).toNat)
    case atStart=>exact⟨0,v,xs,rfl,Nat.zero_le _,I0⟩
    case round =>
     obtain⟨j,v',ys,rfl,hj,I⟩:=hrel
     clear I0
     have j0:(0:Int)≤(j:Int):=by omega
     by_cases hlt:j<ps.length
     ·have hlt2:(j:Int)<(ps.length:Int):=by omega
      obtain⟨l1',l2',l3'⟩:=hpl.out
      obtain⟨sg,rfl,r2,r3,r4,r5⟩:=I.row j ps[j] (List.getElem?_eq_getElem hlt)
      have hadd:=I.add (List.getElem?_eq_getElem hlt) l1' l2' l3'
      clear I l1' l2' l3' hpl
      go_wp2_with(go_at_call 138;(with_reducible refine hadd.mono ?_);rintro e wa ⟨rfl,v2,ys2,I2⟩)
      go_roundw
      case rel=>exact⟨j+1,v2,ys2,by go_num,by omega,I2⟩
      case measure=>simp [intOf];omega
     ·have hje:j=ps.length:=by omega
      subst hje
      have hfin:=I.last hpl.out.1
      have hlt2:decide ((ps.length:Int)<(ps.length:Int))=false:=by simp
      clear I
      go_wp2
      exact bodyPost_end (results_none rfl _ _ _) rfl hfin
  ·intro ch wl hrv
   cases LR with
   | some ks=>obtain⟨_,_,_,_,_,_,he,_⟩:=hrv;cases he
   | none =>
    obtain⟨he,hg⟩:=hrv
    cases he
    have far:=O4.far x (by simp)
    have hbl:Below B w wl:=(hb4.trans (hb5.mono (by have:=O4.SB;have:=O4.SL;omega))).grown hg (by have:=O4.SB;have:=O4.SL;show B≤w4.heap.size;omega) (fun q hq=>by cases hq;exact far.1)
    exact⟨rfl,rfl,hbl⟩
  ·intro wl hrv
   cases LR with
   | some ks=>obtain⟨_,_,_,_,_,_,he,_⟩:=hrv;cases he
   | none=>obtain⟨he,_⟩:=hrv;cases he
end
end Go.Proofs.YtfpgjkbjbbgciaaGreatDoor
