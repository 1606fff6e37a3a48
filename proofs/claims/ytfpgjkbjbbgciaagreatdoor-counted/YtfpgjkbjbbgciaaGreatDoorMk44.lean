import Derived.Test.YtfpgjkbjbbgciaaGreatDoorMk36
import Derived.Test.YtfpgjkbjbbgciaaGreatDoorMk42
set_option maxRecDepth 100000
set_option maxHeartbeats 8000000
namespace Go.Proofs.YtfpgjkbjbbgciaaGreatDoor
open Go.RowKit Sp
section
variable {P:Program} {md:Region.Mode} {ops:Array Oper} {Q:Exit→Act→World→Prop} {fuel:Nat} {listed:Array Bool} {a:Act} {w:World}
theorem zxe(i:Nat){o:Oper}(hr:Region.ready md ops listed=[i])(ho:ops[i]?=some o)(hg:o.guard=none)(f:FuncId)(args:Array Value)(v:Value)(h:(execOp a.eval o).run P w=.ok (.enter f args) w)(hc:Calls P f args w fun e w''=>e=.returned v∧w''=w)(rest:wpAny P md ops Q fuel (listed.setIfInBounds i true) (a.put o.dst v) w):wpAny P md ops Q (fuel+1) listed a w :=
 wpAny_ready hr (by simp) (AllReady.cons ho (fun K hK=>by
  have hw:Region.wanted o (yielded ops a.tmps)=true:=by simp [Region.wanted,hg]
  rw [if_pos hw];unfold Oper.wp;rw [h,Oper.upon_enter];refine hc.mono fun e w'' hh=>?_;obtain⟨rfl,rfl⟩:=hh;exact hK _ _ rest) AllReady.nil)
theorem zmG(i j:Nat){o p:Oper}(hr:Region.ready md ops listed=[i,j])(ho:ops[i]?=some o)(hg:o.guard=none)(v:Value)(h:(execOp a.eval o).run P w=.ok (.value v) w)(rest:wpAny P md ops Q fuel (listed.setIfInBounds i true) (a.put o.dst v) w)
  (hp:ops[j]?=some p) (hg2:p.guard=none) (f:FuncId) (args:Array Value) (u:Value) (h2:(execOp a.eval p).run P w=.ok (.enter f args) w) (hc:Calls P f args w fun e w''=>e=.returned u∧w''=w) (rest2:wpAny P md ops Q fuel (listed.setIfInBounds j true) (a.put p.dst u) w):wpAny P md ops Q (fuel+1) listed a w :=
 wpAny_ready hr (by simp) (AllReady.cons ho (fun K hK=>by
  have hw:Region.wanted o (yielded ops a.tmps)=true:=by simp [Region.wanted,hg]
  rw [if_pos hw];unfold Oper.wp;rw [h];exact hK _ _ rest) (AllReady.cons hp (fun K hK=>by
  have hw:Region.wanted p (yielded ops a.tmps)=true:=by simp [Region.wanted,hg2]
  rw [if_pos hw];unfold Oper.wp;rw [h2,Oper.upon_enter];refine hc.mono fun e w'' hh=>?_;obtain⟨rfl,rfl⟩:=hh;exact hK _ _ rest2) AllReady.nil))
theorem zu0(i:Nat){o:Oper}(hr:Region.ready md ops listed=[i])(ho:ops[i]?=some o)(hg:o.guard=none)(f:FuncId)(args:Array Value)(h:(execOp a.eval o).run P w=.ok (.enter f args) w)(R:Ending→World→Prop)(hc:Calls P f args w R)
  (hv:∀ v w',R (.returned v) w'→wpAny P md ops Q fuel (listed.setIfInBounds i true) (a.put o.dst v) w') (hp:∀ c w',R (.panicked c) w'→Q (.panic c) a w') (ho2:∀ w',R .outgrown w'→LetsOut Q):wpAny P md ops Q (fuel+1) listed a w :=
 wpAny_ready hr (by simp) (AllReady.cons ho (fun K hK=>by
  have hw:Region.wanted o (yielded ops a.tmps)=true:=by simp [Region.wanted,hg]
  rw [if_pos hw];unfold Oper.wp;rw [h,Oper.upon_enter];refine hc.mono fun e w'' hh=>?_;cases e with
  | returned v=>exact hK _ _ (hv v w'' hh)
  | panicked c=>exact hp c w'' hh
  | outgrown=>exact ho2 w'' hh) AllReady.nil)
end
def zpG(w:World)(B S g:Nat)(C:List (Ins × Int))(cv:Value)(looks:Nat)(bf:Int)(xs:List Wy)(x:Wy)(R':Rs):Option (List Kn)→Ending→World→Prop
 | none=>fun e w'=>e=zak 8 0∧Below B w w'
 | some ks=>fun e w'=>e=.returned (.tuple #[])∧∃(v' mv':Value) (ys:List Wy),SO w' B S g C v' mv' ys [] R'.marked∧SC w' S cv v' mv' R' looks (x.k.steps+1) (max bf ((x.k.behind.length:Int)+1))∧(ys.map Wy.k).Perm (xs.map Wy.k++ks)∧Below B w w'
structure LkI(w:World)(B S g:Nat)(C:List (Ins × Int))(cv mv:Value)(R:Rs)(looks:Nat)(s1 f1:Int)(W:List Kn)(so:Option Addr)(ps:List Nat)(ks:List Kn)(ao:Option Addr)(cap:Nat)(wr:World)(j:Nat)(v:Value)(ys:List Wy):Prop where
 so':SO wr B S g C v mv ys ((zgG ao cap ps ks).drop j) R.marked
 sc:SC wr S cv v mv R looks s1 f1
 perm:(ys.map Wy.k).Perm (W++ks.take j)
 low:Below B w wr
 row:∀(i p:Nat),ps[i]?=some p→∃ sg,so=some ⟨sg,0,none⟩∧sg<wr.heap.size∧¬sg=S∧v.ownBlock≠some sg∧wr.cell? ⟨sg,i,none⟩=some (.pointer (some ⟨p,0,none⟩))
theorem LkI.add{w:World}{B S g:Nat}{C:List (Ins × Int)}{cv mv:Value}{R:Rs}{looks:Nat}{s1 f1:Int}{W:List Kn}{so:Option Addr}{ps:List Nat}{ks:List Kn}{ao:Option Addr}{cap:Nat}{wr:World}{j:Nat}{v:Value}{ys:List Wy}(h:LkI w B S g C cv mv R looks s1 f1 W so ps ks ao cap wr j v ys){p:Nat}(hj:ps[j]?=some p)(hl:ps.length=ks.length)(h2:ks.length≤2)(hn:W.length≤2000):
  Calls Tryz.prog 138 #[.pointer (some ⟨S,1,none⟩),.pointer (some ⟨p,0,none⟩)] wr fun e w'=>e=.returned (.tuple #[])∧∃ v' ys',LkI w B S g C cv mv R looks s1 f1 W so ps ks ao cap w' (j+1) v' ys':=by
 have hjl:j<ps.length:=(List.getElem?_eq_some_iff.1 hj).1;have hjp:ps[j]=p:=(List.getElem?_eq_some_iff.1 hj).2;have d:j<(zgG ao cap ps ks).length:=by rw [zmF hl];omega
 obtain⟨n,k,c,z,y⟩:=zpF j _ (List.getElem?_eq_getElem d);have m:n=p:=by rw [hj] at c;exact(Option.some.inj c).symm
 subst m;have hd:(zgG ao cap ps ks).drop j=⟨n,ao,cap,k⟩ :: (zgG ao cap ps ks).drop (j+1):=by rw [List.drop_eq_getElem_cons d,y]
 have O:=h.so';rw [hd] at O;have hyl:ys.length≤2002:=by
  have:=h.perm.length_eq;rw [List.length_map,List.length_append,List.length_take] at this;omega
 refine(zAl O h.sc h.low (by omega)).mono ?_;rintro e w' ⟨rfl,v',ys',A,t,u,l,b,D⟩;refine⟨rfl,v',ys',⟨t,u,?_,l,fun i q hq=>?_⟩⟩
 ·have e1:ks.take (j+1)=ks.take j++[k]:=by rw [List.take_add_one,z];rfl
  rw [e1,←List.append_assoc];refine(A.map Wy.k).trans ?_;rw [List.map_append];exact List.Perm.append_right _ h.perm
 ·obtain⟨f,E,o,r,s,F⟩:=h.row i q hq;refine⟨f,E,Nat.lt_of_lt_of_le o b.size,r,fun e=>?_,?_⟩
  ·rcases D f e with x|x
   ·exact s x
   ·omega
  ·rw [World.cell?_of_block (w:=wr) (a:=⟨f,i,none⟩) (b.block f o r (fun e=>s e.symm))];exact F
theorem LkI.first{w w4 wl:World}{B S g:Nat}{C:List (Ins × Int)}{cv v mv:Value}{R:Rs}{looks:Nat}{s1 f1:Int}{xs:List Wy}{x:Wy}{ks:List Kn}{so:Option Addr}{ps:List Nat}{ao':Option Addr}{cap' n':Nat}(O:SO w4 B S g C v mv xs [x] R.marked)(c:SC w4 S cv v mv R looks s1 f1)(hb4:Below B w w4)(A:WaysAt w4 wl x.b (.slice ao' n' cap') ks so ps)(hb:∀ k'∈ks,n'=k'.behind.length∧BhM wl ao' cap' k'.behind)(ha:ao'=x.ao∨∀ a,ao'=some a→w4.heap.size≤a.block)(hf:∀ p∈ps,∀ a,ao'=some a→¬a.block=p)(hkey:∀ k'∈ks,KeyOk k'):
  LkI w B S g C cv mv R looks s1 f1 (xs.map Wy.k) so ps ks ao' cap' wl 0 v xs:=by
 have far:=O.far x (by simp);refine⟨zrK O A hb ha hf hkey,c.block (A.grown.block S O.SL (fun e=>far.2.1.1 (by cases e;rfl))),by rw [List.take_zero,List.append_nil],hb4.grown A.grown (by have:=O.SB;have:=O.SL;omega) (fun q hq=>by cases hq;exact far.1),fun i p hp=>?_⟩;obtain⟨h,j,r2,f⟩:=A.ptrs i p hp;have d:=World.block_lt_of_cell? wl _ f;exact⟨h,j,d,by have:=O.SL;omega,fun e=>by have:=(O.hp.row.lt h e).2;omega,f⟩
theorem LkI.last{w:World}{B S g:Nat}{C:List (Ins × Int)}{cv mv:Value}{R:Rs}{looks:Nat}{bf:Int}{xs:List Wy}{x:Wy}{so:Option Addr}{ps:List Nat}{ks:List Kn}{ao:Option Addr}{cap:Nat}{wr:World}{v:Value}{ys:List Wy}(h:LkI w B S g C cv mv R looks (x.k.steps+1) (max bf ((x.k.behind.length:Int)+1)) (xs.map Wy.k) so ps ks ao cap wr ps.length v ys)(hl:ps.length=ks.length):
  zpG w B S g C cv looks bf xs x R (some ks) (.returned (.tuple #[])) wr:=by
 refine⟨rfl,v,mv,ys,?_,h.sc,?_,h.low⟩
 ·have:=h.so';rw [List.drop_of_length_le (by rw [zmF hl];omega)] at this;exact this
 ·have:=h.perm;rw [hl,List.take_length] at this;exact this
theorem zze{w:World}{B S g ccap:Nat}{C:List (Ins × Int)}{v mv:Value}{R R':Rs}{looks:Nat}{bs bf:Int}{xs:List Wy}{x:Wy}(O:SO w B S g C v mv xs [x] R.marked)(c:SC w S (.slice (some ⟨g,0,none⟩) C.length ccap) v mv R looks bs bf)(hC:CodeSure C)(K:KnIn C x.k)(hs:¬x.k.steps=100000)(hR:R.endless ⟨x.ao,x.cap,x.k⟩=some R')
  (s0:0≤R.steps) (s1:R.steps≤100000) (hl:R.marked.length≤500000) (hn:R.seen≤500000) (_f0:0≤bf) (_f1:bf≤16) (hlen:xs.length≤2000) {p:Nat} (hp:p<C.length) (hnx:x.k.next=(p:Int)) {LR:Option (List Kn)} (hlr:zam C[p].1 x.k=LR) :
  Calls Tryz.prog 116 #[.pointer (some ⟨S,0,none⟩),.pointer (some ⟨x.b,0,none⟩)] w (zpG w B S g C (.slice (some ⟨g,0,none⟩) C.length ccap) looks bf xs x R' LR):=by
 have E:Hid (zam C[p].1 x.k=LR):=hlr;clear hlr;have X:=O.hand x (by simp);have ar:=zbI X.kn;have t100:(x.k.steps == 100000)=false:=by simpa using hs
 have k0:=K.s0;have k1:=K.s1;have y:=zhk c.rs c.fz O s0 s1 k0 k1 hl hn;rw [hR] at y;have ay:B≤w.heap.size:=by have:=O.SB;have:=O.SL;omega
 have HB:Hid (∀ q,mv.ownBlock=some q→B≤q):=fun q hq=>(O.mkr.lt q hq).1;have aa:Hid (∀ H n,RsC H S 2 n R'→Kept4 w H S 2 mv.ownBlock→SC H S (.slice (some ⟨g,0,none⟩) C.length ccap) v n R' looks bs bf∧Below B w H):=fun H n hr hk=>⟨c.kept4 hk hr,zos hk O.SB ay (fun q hq=>(O.mkr.lt q hq).1)⟩
 clear hR;go_enter Tryz.func116,Tryz.ntmps116;go_wp2_with(first
  | (go_at_call 134;(with_reducible refine ar.mono ?_);rintro e wx ⟨rfl,Z⟩;have Y:=Z.symm;subst Y)
  | (go_at_call 135;(with_reducible refine y.mono ?_);rintro e H ⟨rfl,n,aq,O1,aj⟩;obtain⟨c1,af⟩:=aa.out H n aq aj;have M:=zbI (O1.hand x (by simp)).kn;have d7:=c1.c7;have z7:=c1.fz 7)
  | (go_at_call 134;(with_reducible refine M.mono ?_);rintro e wx ⟨rfl,Z⟩;have Y:=Z.symm;subst Y))
 have P:=zuz (o:=7) (u:=.int .i64 (x.k.steps+1)) O1;have L:=c1.set7 (x.k.steps+1);have Q:Below B w (H.setCell ⟨S,7,none⟩ (.int .i64 (x.k.steps+1))):=af.setCell (p:=⟨S,7,none⟩) O1.SB _;clear ar y aa aj O1 c1 af d7 z7 aq M O c X;generalize H.setCell ⟨S,7,none⟩ (.int .i64 (x.k.steps+1))=w2 at P L Q ⊢;have X2:=P.hand x (by simp);have am:=X2.bh.len;have D:∀ W,Below w2.heap.size w2 W→W.cell? ⟨S,8,none⟩=some (.int .i64 bf):=fun W hW=>(L.block (hW.block S L.lt)).c8;have l0:(0:Int)≤(x.k.behind.length:Int):=by omega
 have l1:(x.k.behind.length:Int)≤15:=by omega
 refine zad 9 (fun W=>Below w2.heap.size w2 W) (Below.refl _ _).drew (by kernel_rfl) (by kernel_rfl) ?_;simp only [List.take_succ_cons,List.take_zero,List.drop_succ_cons,List.drop_zero];iterate 7 (refine zab rfl ?_ (fun W hW=>?_) ?_;rotate_left 1;· (have q8:=D W hW;go_simp;with_reducible rfl))
 refine zaJ rfl 136 #[.pointer (some ⟨x.b,0,none⟩)] (.int .i64 ((x.k.behind.length:Int)+1)) (fun W hW=>?_) (fun W hW=>(zf1 (X2.below hW).kn am).mono (fun e w' hh=>⟨hh.1,by rw [hh.2];exact hW⟩)) ?_
 ·go_simp
 iterate 1 (refine zab rfl ?_ (fun W hW=>?_) ?_;rotate_left 1;· (have q8:=D W hW;go_simp;with_reducible rfl))
 refine wpQuiet_nil ?_;intro W3 s;have q8:=D W3 s;have z8:W3.frozen? ⟨S,8,none⟩=false:=(L.block (s.block S L.lt)).fz 8;go_wp2;have ac:=L.lt;have l:=zuz (o:=8) (u:=.int .i64 (max bf ((x.k.behind.length:Int)+1))) (P.below s);have c4:=(L.block (s.block S ac)).set8 (max bf ((x.k.behind.length:Int)+1));have G:Below B w (W3.setCell ⟨S,8,none⟩ (.int .i64 (max bf ((x.k.behind.length:Int)+1)))):=(Q.trans (s.mono (by have:=P.SB;have:=P.SL;omega))).setCell (p:=⟨S,8,none⟩) P.SB _;clear q8 z8 D P L Q X2 ac;generalize W3.setCell ⟨S,8,none⟩ (.int .i64 (max bf ((x.k.behind.length:Int)+1)))=w4 at l c4 G ⊢;have X4:=l.hand x (by simp);have aA:g<w4.heap.size:=by have:=l.gB;have:=l.SB;have:=l.SL;omega
 have N:∀ W,Below w4.heap.size w4 W→W.cell? ⟨S,0,none⟩=some (.slice (some ⟨g,0,none⟩) C.length ccap)∧W.cell? ⟨g,p*2,none⟩=some (.iface (insT C[p].1) (.agg (insA C[p].1))):=fun W hW=>⟨(c4.block (hW.block S c4.lt)).c0,(zdH l.code (hW.block g aA) p hp).1⟩
 have m:=zux C[p].1 (hC.ok.ok p hp);have T:=zrI C[p].1 (hC.ok.ok p hp);have HL:Hid (∀ W,Below w4.heap.size w4 W→Calls Tryz.prog (insL C[p].1) #[.agg (insA C[p].1),.pointer (some ⟨x.b,0,none⟩)] W (zdI W x.b x.ao LR)):=fun W hW=>by
  rw [←E.out];have XW:=X4.below hW;have hcl:=hC.ok.few;exact zuw C[p].1 (hC.ok.ok p hp) XW.kn XW.bh (fun a ha=>((l.far x (by simp)).2.2 a ha).2 x (by simp)) K.ok k0 k1 (by omega) (by omega)
 have J:Hid (∀ ks,LR=some ks→(∀ k'∈ks,KeyOk k')∧ks.length≤2):=fun ks hk=>⟨fun k' hk'=>(zpD hC hp hnx K hs (E.out.trans hk) k' hk').key hC.ok.few,zm2 (E.out.trans hk)⟩
 have p0:(0:Int)≤(p:Int):=by omega
 have p1:(p:Int)<(C.length:Int):=by omega
 clear E;generalize C[p].1=ins at N m T HL;generalize insL ins=F at m T HL;have d:Below w4.heap.size w4 w4.drew:=(Below.refl _ _).drew;obtain⟨q0,qi⟩:=N _ d;have al:=HL.out _ d;have z:Calls Tryz.prog 137 #[.pointer (some ⟨x.b,0,none⟩)] w4.drew fun e w''=>e=.returned (.int .i64 (p:Int))∧w''=w4.drew:=(ztJ (X4.below d).kn).mono (fun e w' hh=>⟨by rw [hh.1,hnx],hh.2⟩);clear N HL;refine wp_region_any (by kernel_rfl) ?_;change wpAny _ _ _ _ _ _ _ (World.drew _);refine wpAny_take (i:=0) (v:=?_) rfl (by kernel_rfl) (by kernel_rfl) (by kernel_rfl) (fun _ _ _ h=>h) (Or.inl ⟨by rfl,?_⟩) ?_;rotate_left 1
 ·intro w;go_simp;with_reducible rfl
 simp only [List.getElem_toArray,List.getElem_cons_zero,Act.put,List.setIfInBounds_toArray,List.set_cons_zero,List.set_cons_succ];refine wpAny_take (i:=1) (v:=?_) rfl (by kernel_rfl) (by kernel_rfl) (by kernel_rfl) (fun _ _ _ h=>h) (Or.inl ⟨by rfl,?_⟩) ?_;rotate_left 1
 ·intro w;go_simp;with_reducible rfl
 simp only [List.getElem_toArray,List.getElem_cons_zero,List.getElem_cons_succ,Act.put,List.setIfInBounds_toArray,List.set_cons_zero,List.set_cons_succ];refine wpAny_take (i:=2) (v:=?_) rfl (by kernel_rfl) (by kernel_rfl) (by kernel_rfl) (fun _ _ _ h=>h) (Or.inl ⟨by rfl,?_⟩) ?_;rotate_left 1
 ·intro w;go_simp;with_reducible rfl
 simp only [List.getElem_toArray,List.getElem_cons_zero,List.getElem_cons_succ,Act.put,List.setIfInBounds_toArray,List.set_cons_zero,List.set_cons_succ];refine wpAny_take (i:=4) (v:=?_) rfl (by kernel_rfl) (by kernel_rfl) (by kernel_rfl) (fun _ _ _ h=>h) (Or.inl ⟨by rfl,?_⟩) ?_;rotate_left 1
 ·intro w;go_simp;with_reducible rfl
 simp only [List.getElem_toArray,List.getElem_cons_zero,List.getElem_cons_succ,Act.put,List.setIfInBounds_toArray,List.set_cons_zero,List.set_cons_succ];refine wpAny_take (i:=9) (v:=?_) rfl (by kernel_rfl) (by kernel_rfl) (by kernel_rfl) (fun _ _ _ h=>h) (Or.inl ⟨by rfl,?_⟩) ?_;rotate_left 1
 ·intro w;go_simp;with_reducible rfl
 simp only [List.getElem_toArray,List.getElem_cons_zero,List.getElem_cons_succ,Act.put,List.setIfInBounds_toArray,List.set_cons_zero,List.set_cons_succ];refine wpAny_take (i:=12) (v:=?_) rfl (by kernel_rfl) (by kernel_rfl) (by kernel_rfl) (fun _ _ _ h=>h) (Or.inl ⟨by rfl,?_⟩) ?_;rotate_left 1
 ·intro w;go_simp;with_reducible rfl
 simp only [List.getElem_toArray,List.getElem_cons_zero,List.getElem_cons_succ,Act.put,List.setIfInBounds_toArray,List.set_cons_zero,List.set_cons_succ];refine zmG 3 5 (by kernel_rfl) rfl rfl (.slice (some ⟨g,0,none⟩) C.length ccap) (by go_simp) ?_ rfl rfl 137 #[.pointer (some ⟨x.b,0,none⟩)] (.int .i64 (p:Int)) (by go_simp) z ?_;simp only [List.getElem_toArray,List.getElem_cons_zero,List.getElem_cons_succ,Act.put,List.setIfInBounds_toArray,List.set_cons_zero,List.set_cons_succ];refine zxe 5 (by kernel_rfl) rfl rfl 137 #[.pointer (some ⟨x.b,0,none⟩)] (.int .i64 (p:Int)) (by go_simp) z ?_;simp only [List.getElem_toArray,List.getElem_cons_zero,List.getElem_cons_succ,Act.put,List.setIfInBounds_toArray,List.set_cons_zero,List.set_cons_succ];rotate_left 1;simp only [List.getElem_toArray,List.getElem_cons_zero,List.getElem_cons_succ,Act.put,List.setIfInBounds_toArray,List.set_cons_zero,List.set_cons_succ];refine zdp 3 (by kernel_rfl) rfl rfl (.slice (some ⟨g,0,none⟩) C.length ccap) w4.drew (by go_simp) ?_;simp only [List.getElem_toArray,List.getElem_cons_zero,List.getElem_cons_succ,Act.put,List.setIfInBounds_toArray,List.set_cons_zero,List.set_cons_succ];all_goals
  refine zdp 6 (by kernel_rfl) rfl rfl (.pointer (some ⟨g,p*2,none⟩)) w4.drew (by go_simp) ?_;simp only [List.getElem_toArray,List.getElem_cons_zero,List.getElem_cons_succ,Act.put,List.setIfInBounds_toArray,List.set_cons_zero,List.set_cons_succ];refine zdp 7 (by kernel_rfl) rfl rfl (.pointer (some ⟨g,p*2,none⟩)) w4.drew (by go_simp) ?_;simp only [List.getElem_toArray,List.getElem_cons_zero,List.getElem_cons_succ,Act.put,List.setIfInBounds_toArray,List.set_cons_zero,List.set_cons_succ];refine zdp 8 (by kernel_rfl) rfl rfl (.iface (insT ins) (.agg (insA ins))) w4.drew (by go_simp) ?_;simp only [List.getElem_toArray,List.getElem_cons_zero,List.getElem_cons_succ,Act.put,List.setIfInBounds_toArray,List.set_cons_zero,List.set_cons_succ];refine zu0 10 (by kernel_rfl) rfl rfl F #[.agg (insA ins),.pointer (some ⟨x.b,0,none⟩)] (by go_simp) _ al ?_ ?_ ?_
  ·intro rv wl f;cases LR with
   | none=>obtain⟨t,_⟩:=f;cases t
   | some ks =>
    obtain⟨so,sc,r,ax,ab,n',t,A,ag,ae,ai⟩:=f;cases t;obtain⟨ak,U⟩:=J.out ks rfl;have I0:=LkI.first (l.below d) (c4.block (d.block S c4.lt)) (G.trans (d.mono (by have:=l.SB;have:=l.SL;omega))) A ag ae ai ak;have V:Hid (r.length=ks.length∧ks.length≤2∧(xs.map Wy.k).length≤2000):=⟨A.len,U,by rw [List.length_map];exact hlen⟩
    have hps:r.length≤2:=by rw [A.len];exact U
    clear al z l c4 G A ag ae ai ak U J X4 q0 qi d m T hlen am K;refine zdp 11 (by kernel_rfl) rfl rfl (.int .i64 (r.length:Int)) wl (by go_simp) ?_;simp only [List.getElem_toArray,List.getElem_cons_zero,List.getElem_cons_succ,Act.put,List.setIfInBounds_toArray,List.set_cons_zero,List.set_cons_succ];refine wpAny_done (by kernel_rfl) ?_ _;go_wp2
    go_loopw [48] (fun ti wr=>∃(j:Nat) (v':Value) (ys:List Wy),ti=.int .i64 (j:Int)∧j≤r.length∧LkI w B S g C (.slice (some ⟨g,0,none⟩) C.length ccap) n R' looks (x.k.steps+1) (max bf ((x.k.behind.length:Int)+1)) (xs.map Wy.k) so r ks ax ab wr j v' ys) (fun ti _=>r.length-(intOf ti).toNat)
    case atStart=>exact⟨0,v,xs,rfl,Nat.zero_le _,I0⟩
    case round =>
     obtain⟨j,v',ys,rfl,hj,I⟩:=hrel;clear I0;have j0:(0:Int)≤(j:Int):=by omega
     by_cases an:j<r.length
     ·have ap:(j:Int)<(r.length:Int):=by omega
      obtain⟨au,av,aw⟩:=V.out;obtain⟨sg,rfl,r2,r3,r4,r5⟩:=I.row j r[j] (List.getElem?_eq_getElem an);have ad:=I.add (List.getElem?_eq_getElem an) au av aw;clear I au av aw V;go_wp2_with(go_at_call 138;(with_reducible refine ad.mono ?_);rintro e wa ⟨rfl,v2,aC,I2⟩)
      go_roundw
      case rel=>exact⟨j+1,v2,aC,by go_num,by omega,I2⟩
      case measure=>simp [intOf];omega
     ·have aB:j=r.length:=by omega
      subst aB;have ah:=I.last V.out.1;have ap:decide ((r.length:Int)<(r.length:Int))=false:=by simp
      clear I;go_wp2;exact bodyPost_end (results_none rfl _ _ _) rfl ah
  ·intro ch wl f;cases LR with
   | some ks=>obtain⟨_,_,_,_,_,_,t,_⟩:=f;cases t
   | none =>
    obtain⟨t,hg⟩:=f;cases t;have far:=l.far x (by simp);have az:Below B w wl:=(G.trans (d.mono (by have:=l.SB;have:=l.SL;omega))).grown hg (by have:=l.SB;have:=l.SL;show B≤w4.heap.size;omega) (fun q hq=>by cases hq;exact far.1);exact⟨rfl,rfl,az⟩
  ·intro wl f;cases LR with
   | some ks=>obtain⟨_,_,_,_,_,_,t,_⟩:=f;cases t
   | none=>obtain⟨t,_⟩:=f;cases t
end Go.Proofs.YtfpgjkbjbbgciaaGreatDoor
