import Derived.Test.YtfpgjkbjbbgciaaGreatDoorMj40
set_option maxRecDepth 100000
set_option maxHeartbeats 8000000
namespace Go.Proofs.YtfpgjkbjbbgciaaGreatDoor
open Go.RowKit Sp
theorem zyF{w W5 W:World}{S o B g cap cap':Nat}{ao:Option Addr}{R:Rs}{m:Mk}(A5:RsC W5 S o (.slice (some ⟨g,0,none⟩) (R.marked.length+1) cap') ⟨R.marked++[m],R.steps,R.seen,R.covers⟩)
  (K5:Kept4 w W5 S o (Value.slice ao R.marked.length cap).ownBlock) (O5:W5.ownsRow B 217 51 (.slice (some ⟨g,0,none⟩) (R.marked.length+1) cap') (R.marked.length+1) (zb1 (R.marked++[m]))) (F5:∀ q,(Value.slice (some ⟨g,0,none⟩) (R.marked.length+1) cap').ownBlock=some q→(Value.slice ao R.marked.length cap).ownBlock=some q∨w.heap.size≤q)
  (hm:zcc R.steps=true) (hS:S<w.heap.size) (hmS:(Value.slice ao R.marked.length cap).ownBlock≠some S) (hW:qB W5 W) :
  zdx w S o B (.slice ao R.marked.length cap) (R.see m) (.returned (.tuple #[])) ((W.setCell ⟨S,o+3,none⟩ (.bool false)).setCell ⟨S,o+2,none⟩ (.int .i64 ((R.seen:Int)+1))):=by
 have c:S<W5.heap.size:=World.block_lt_of_cell? _ _ A5.cM;have q:=A5.below hW;have b:RsC (W.setCell ⟨S,o+3,none⟩ (.bool false)) S o (.slice (some ⟨g,0,none⟩) (R.marked.length+1) cap') ⟨R.marked++[m],R.steps,R.seen,false⟩:=q.set (o+3) _ _ q.cC (by rw [if_neg (by omega)]) (by rw [if_neg (by omega)]) (by rw [if_neg (by omega)]) (by rw [if_pos rfl]);have h:RsC ((W.setCell ⟨S,o+3,none⟩ (.bool false)).setCell ⟨S,o+2,none⟩ (.int .i64 ((R.seen:Int)+1))) S o (.slice (some ⟨g,0,none⟩) (R.marked.length+1) cap') ⟨R.marked++[m],R.steps,R.seen+1,false⟩:=b.set (o+2) _ _ b.cN (by rw [if_neg (by omega)]) (by rw [if_neg (by omega)]) (by rw [if_pos rfl];go_num) (by rw [if_neg (by omega)]);have eR:R.see m=⟨R.marked++[m],R.steps,R.seen+1,false⟩:=by unfold Rs.see;rw [hm];simp
 have d:=(O5.lt g rfl).2;have a:¬g=S:=fun e=>by
  rcases F5 g rfl with e2|e2
  ·exact hmS (by rw [e2,e])
  ·omega
 refine⟨rfl,.slice (some ⟨g,0,none⟩) (R.marked.length+1) cap',by rw [eR];exact h,?_,F5,K5.trans ((zcW c hW).trans ((zc8 q.cC (by omega)).trans (zc8 b.cN (by omega))))⟩;rw [eR];show World.ownsRow _ B 217 51 _ (R.marked++[m]).length _;rw [List.length_append];refine zc1 O5 (fun q hq=>?_);have f:g=q:=by have:some g=some q:=hq;simpa using this
 subst f;exact(Below.heap_setCell _ _ _ g a).trans ((Below.heap_setCell _ _ _ g a).trans (hW.block g d))
theorem zwP{w:World}{S o B cap:Nat}{ao:Option Addr}{R:Rs}{x:Wy}(h:RsC w S o (.slice ao R.marked.length cap) R)(fz:∀ j,w.frozen? ⟨S,j,none⟩=false)(hm:zcc R.steps=true)(s0:0≤R.steps)(s1:R.steps≤100000)(M:w.ownsRow B 217 51 (.slice ao R.marked.length cap) R.marked.length (zb1 R.marked))(X:WyM w x)(hB:B≤w.heap.size)(hmS:(Value.slice ao R.marked.length cap).ownBlock≠some S)(hl:R.marked.length≤500000)(hn:R.seen≤500000):
  qC 152 #[.pointer (some ⟨S,o,none⟩),.pointer (some ⟨x.b,0,none⟩)] w (zdx w S o B (.slice ao R.marked.length cap) (R.see ⟨x.ao,x.cap,x.k⟩)):=by
 have Q:S<w.heap.size:=World.block_lt_of_cell? w _ h.cM;have H:qC 167 #[.pointer (some ⟨S,o,none⟩)] w (qR w (.bool true)):=by
  have:=zcV h.cS s0 s1;rw [hm] at this;exact this
 obtain⟨i0,z0,T,Y,V,U,ab⟩:=zkP;have A:(zbj (.slice x.ao x.k.behind.length x.cap) x.k).length=51:=zdF _ _;have E:∀ W,qB w W→W.rangeAt x.b 0 (zbj (.slice x.ao x.k.behind.length x.cap) x.k):=fun W c=>(X.below c).kn.cells';have t:∀ u∈zbj (.slice x.ao x.k.behind.length x.cap) x.k,u.oneCell'=true:=zoa;have O:Hid (zb1 R.marked++zbj (.slice x.ao x.k.behind.length x.cap) x.k=zb1 (R.marked++[⟨x.ao,x.cap,x.k⟩])):=(zm4 R.marked ⟨x.ao,x.cap,x.k⟩).symm;generalize ad:zbj (.slice x.ao x.k.behind.length x.cap) x.k=cs at A E t O;clear ad;have r:∀ W,qB w W→W.cell? ⟨S,o,none⟩=some (.slice ao R.marked.length cap):=fun W c=>(h.below c).cM;have y:(Tryz.prog.info? 217).map (·.size)=some cs.length:=by rw [A];exact Tryz.size217
 have hu:Tryz.prog.underlying 217=some (.struct _):=Tryz.underlying217;go_enter Tryz.func152,Tryz.ntmps152;go_wp2_with(go_at_call 167;(with_reducible refine H.mono ?_);rintro e m ⟨rfl,ac⟩)
 have s:qB w m.drew:=ac.drew;have f1:=r _ s;have I:=E _ s;refine wp_region_any (by kernel_rfl) ?_;change wpAny _ _ _ _ _ _ _ (World.drew _);refine wpAny_take (i:=0) (v:=?_) rfl (by kernel_rfl) (by kernel_rfl) (by kernel_rfl) (fun _ _ _ h=>h) (Or.inl ⟨by rfl,?_⟩) ?_;rotate_left 1
 ·intro w;go_simp;with_reducible rfl
 simp only [List.getElem_toArray,List.getElem_cons_zero,Act.put,q1];refine wpAny_take (i:=1) (v:=?_) rfl (by kernel_rfl) (by kernel_rfl) (by kernel_rfl) (fun _ _ _ h=>h) (Or.inl ⟨by rfl,?_⟩) ?_;rotate_left 1
 ·intro w;go_simp;with_reducible rfl
 simp only [List.getElem_toArray,List.getElem_cons_zero,List.getElem_cons_succ,Act.put,q1];refine wpAny_take (i:=2) (v:=?_) rfl (by kernel_rfl) (by kernel_rfl) (by kernel_rfl) (fun _ _ _ h=>h) (Or.inl ⟨by rfl,?_⟩) ?_;rotate_left 1
 ·intro w;go_simp;with_reducible rfl
 simp only [List.getElem_toArray,List.getElem_cons_zero,List.getElem_cons_succ,Act.put,q1];refine wpAny_take (i:=3) (v:=?_) rfl (by kernel_rfl) (by kernel_rfl) (by kernel_rfl) (fun _ _ _ h=>h) (Or.inl ⟨by rfl,?_⟩) ?_;rotate_left 1
 ·intro w;go_simp;with_reducible rfl
 simp only [List.getElem_toArray,List.getElem_cons_zero,List.getElem_cons_succ,Act.put,q1];refine wpAny_take (i:=5) (v:=?_) rfl (by kernel_rfl) (by kernel_rfl) (by kernel_rfl) (fun _ _ _ h=>h) (Or.inl ⟨by rfl,?_⟩) ?_;rotate_left 1
 ·intro w;go_simp;with_reducible rfl
 simp only [List.getElem_toArray,List.getElem_cons_zero,List.getElem_cons_succ,Act.put,q1];refine wpAny_take (i:=6) (v:=?_) rfl (by kernel_rfl) (by kernel_rfl) (by kernel_rfl) (fun _ _ _ h=>h) (Or.inl ⟨by rfl,?_⟩) ?_;rotate_left 1
 ·intro w;go_simp;with_reducible rfl
 simp only [List.getElem_toArray,List.getElem_cons_zero,List.getElem_cons_succ,Act.put,q1];have l:∀ o,qB w (m.drew.alloc o):=fun o=>s.alloc s.size o;have f2:=r _ (l (.cells cs.toArray 217));have f3:(m.alloc (.cells cs.toArray 217)).cell? ⟨S,o,none⟩=some (.slice ao R.marked.length cap):=f2;have Z:∀ j,(m.drew.alloc (.cells cs.toArray 217)).frozen? ⟨S,j,none⟩=false:=fun j=>(World.frozen?_of_block (a:=⟨S,j,none⟩) ((l _).block S Q)).trans (fz j);refine zuu 4 7 (by kernel_rfl) rfl rfl (.slice ao R.marked.length cap) m.drew (by go_simp) ?_ rfl rfl (.agg cs.toArray) m.drew (zhr 217 _ rfl x.b 0 rfl cs _ I hu rfl y) ?_;simp only [List.getElem_toArray,List.getElem_cons_zero,List.getElem_cons_succ,Act.put,q1];refine zdG 7 (by kernel_rfl) rfl rfl (.agg cs.toArray) m.drew (zhr 217 _ rfl x.b 0 rfl cs _ I hu rfl y) ?_;simp only [List.getElem_toArray,List.getElem_cons_zero,List.getElem_cons_succ,Act.put,q1];refine zdG 8 (by kernel_rfl) rfl rfl (.slice (some ⟨m.drew.heap.size,0,none⟩) 1 1) (m.drew.alloc (.cells cs.toArray 217)) (ze4 _ rfl cs rfl A _) ?_;simp only [List.getElem_toArray,List.getElem_cons_zero,List.getElem_cons_succ,Act.put,q1];rotate_left 1;simp only [List.getElem_toArray,List.getElem_cons_zero,List.getElem_cons_succ,Act.put,q1];refine zuu 4 8 (by kernel_rfl) rfl rfl (.slice ao R.marked.length cap) m.drew (by go_simp) ?_ rfl rfl (.slice (some ⟨m.drew.heap.size,0,none⟩) 1 1) (m.drew.alloc (.cells cs.toArray 217)) (ze4 _ rfl cs rfl A _) ?_;simp only [List.getElem_toArray,List.getElem_cons_zero,List.getElem_cons_succ,Act.put,q1];refine zdG 8 (by kernel_rfl) rfl rfl (.slice (some ⟨m.drew.heap.size,0,none⟩) 1 1) (m.drew.alloc (.cells cs.toArray 217)) (ze4 _ rfl cs rfl A _) ?_;simp only [List.getElem_toArray,List.getElem_cons_zero,List.getElem_cons_succ,Act.put,q1];rotate_left 1;simp only [List.getElem_toArray,List.getElem_cons_zero,List.getElem_cons_succ,Act.put,q1];refine zdG 4 (by kernel_rfl) rfl rfl (.slice ao R.marked.length cap) (m.drew.alloc (.cells cs.toArray 217)) (by go_simp) ?_;simp only [List.getElem_toArray,List.getElem_cons_zero,List.getElem_cons_succ,Act.put,q1];all_goals
  refine wpAny_ready (rs:=[9]) (by kernel_rfl) (by simp) (AllReady.cons rfl (fun K hK=>?_) AllReady.nil);refine step_append_lies _ rfl _ _ _ rfl B 217 i0 z0 51 424 Tryz.under152 T Y V U ab (by omega) (.slice ao R.marked.length cap) R.marked.length (zb1 R.marked) rfl (zc1 M (fun q hq=>(l _).block q (M.lt q hq).2)) ⟨m.drew.heap.size,0,none⟩ 1 1 cs rfl (by rw [A]) (zyB m.drew cs) t (by omega) (by unfold maxLen;omega) (by omega) (Nat.le_trans hB (l _).size) _ rfl ?_;intro g d p C f P hg4;refine hK _ _ ?_;clear hK;simp only [List.getElem_toArray,List.getElem_cons_zero,List.getElem_cons_succ,Act.put,q1];have F:some S≠(Value.slice ao R.marked.length cap).ownBlock:=fun e=>hmS e.symm;have D:S<(m.drew.alloc (.cells cs.toArray 217)).heap.size:=Nat.lt_of_lt_of_le Q (l _).size;have c4:p.cell? ⟨S,o,none⟩=some (.slice ao R.marked.length cap):=(World.cell?_of_block (a:=⟨S,o,none⟩) (f.block S D F)).trans f2;have z4:p.frozen? ⟨S,o,none⟩=false:=(World.frozen?_of_block (a:=⟨S,o,none⟩) (f.block S D F)).trans (Z o);refine zdG 10 (by kernel_rfl) rfl rfl (.pointer (some ⟨S,o,none⟩)) (p) ?_ ?_
  ·go_simp
  simp only [List.getElem_toArray,List.getElem_cons_zero,List.getElem_cons_succ,Act.put,q1];refine zdG 11 (by kernel_rfl) rfl rfl (.pointer (some ⟨S,o,none⟩)) (p) ?_ ?_
  ·go_simp
  simp only [List.getElem_toArray,List.getElem_cons_zero,List.getElem_cons_succ,Act.put,q1];refine zwK 12 (by kernel_rfl) rfl rfl (p.setCell ⟨S,o,none⟩ (.slice (some ⟨g,0,none⟩) (R.marked.length+1) d)) ?_ ?_
  ·go_simp
  simp only [List.getElem_toArray,List.getElem_cons_zero,List.getElem_cons_succ,Act.put];refine wpAny_done (by kernel_rfl) ?_ _;have K4:Kept4 w p S o (Value.slice ao R.marked.length cap).ownBlock:=(zcW Q (l _)).trans (zoc D hmS f);have A4:RsC p S o (.slice ao R.marked.length cap) R:=by
   have e:∀ j,p.cell? ⟨S,j,none⟩=w.cell? ⟨S,j,none⟩:=fun j=>(World.cell?_of_block (a:=⟨S,j,none⟩) (f.block S D F)).trans (World.cell?_of_block (a:=⟨S,j,none⟩) ((l _).block S Q));exact⟨c4,(e _).trans h.cS,(e _).trans h.cN,(e _).trans h.cC⟩
  have A5:RsC (p.setCell ⟨S,o,none⟩ (.slice (some ⟨g,0,none⟩) (R.marked.length+1) d)) S o (.slice (some ⟨g,0,none⟩) (R.marked.length+1) d) ⟨R.marked++[⟨x.ao,x.cap,x.k⟩],R.steps,R.seen,R.covers⟩:=A4.set o _ _ c4 (by rw [if_pos rfl]) (by rw [if_neg (by omega)]) (by rw [if_neg (by omega)]) (by rw [if_neg (by omega)]);have K5:=K4.trans (zc8 (o:=o) (hb:=(Value.slice ao R.marked.length cap).ownBlock) (v:=.slice (some ⟨g,0,none⟩) (R.marked.length+1) d) c4 (by omega));have aa:¬g=S:=by
   rcases P with e|e
   ·intro e2;exact hmS (by rw [e,e2])
   ·omega
  have O5:(p.setCell ⟨S,o,none⟩ (.slice (some ⟨g,0,none⟩) (R.marked.length+1) d)).ownsRow B 217 51 (.slice (some ⟨g,0,none⟩) (R.marked.length+1) d) (R.marked.length+1) (zb1 (R.marked++[⟨x.ao,x.cap,x.k⟩])):=by
   rw [←O.out];exact zc1 C (fun q hq=>Below.heap_setCell _ _ _ q (fun e=>aa (by cases hq;exact e)))
  have HX:Hid (Kept4 w (p.setCell ⟨S,o,none⟩ (.slice (some ⟨g,0,none⟩) (R.marked.length+1) d)) S o (Value.slice ao R.marked.length cap).ownBlock∧(p.setCell ⟨S,o,none⟩ (.slice (some ⟨g,0,none⟩) (R.marked.length+1) d)).ownsRow B 217 51 (.slice (some ⟨g,0,none⟩) (R.marked.length+1) d) (R.marked.length+1) (zb1 (R.marked++[⟨x.ao,x.cap,x.k⟩]))∧(∀ q,(Value.slice (some ⟨g,0,none⟩) (R.marked.length+1) d).ownBlock=some q→(Value.slice ao R.marked.length cap).ownBlock=some q∨w.heap.size≤q)):=⟨K5,O5,fun q hq=>by
   have eq:g=q:=by have:some g=some q:=hq;simpa using this
   rcases P with e|e
   ·exact .inl (by rw [e,eq])
   ·exact .inr (by have:=(l (.cells cs.toArray 217)).size;omega)⟩
  have J:∀ j,(p.setCell ⟨S,o,none⟩ (.slice (some ⟨g,0,none⟩) (R.marked.length+1) d)).frozen? ⟨S,j,none⟩=false:=fun j=>(K5.fz j).trans (fz j);clear K4 A4 K5 O5 c4 z4 f C P F D aa;generalize p.setCell ⟨S,o,none⟩ (.slice (some ⟨g,0,none⟩) (R.marked.length+1) d)=W5 at A5 HX J ⊢;go_wp2;have L:∀ W,qB W5 W→RsC W S o (.slice (some ⟨g,0,none⟩) (R.marked.length+1) d) ⟨R.marked++[⟨x.ao,x.cap,x.k⟩],R.steps,R.seen,R.covers⟩∧∀ j,W.frozen? ⟨S,j,none⟩=false:=fun W c=>⟨A5.below c,fun j=>(World.frozen?_of_block (a:=⟨S,j,none⟩) (c.block S (World.block_lt_of_cell? _ _ A5.cM))).trans (J j)⟩
  have n:Hid (∀ W,qB W5 W→zdx w S o B (.slice ao R.marked.length cap) (R.see ⟨x.ao,x.cap,x.k⟩) (.returned (.tuple #[])) ((W.setCell ⟨S,o+3,none⟩ (.bool false)).setCell ⟨S,o+2,none⟩ (.int .i64 ((R.seen:Int)+1)))):=fun W c=>zyF A5 HX.out.1 HX.out.2.1 HX.out.2.2 hm Q hmS c;have G:∀ W,qB W5 W→qC 167 #[.pointer (some ⟨S,o,none⟩)] W (qR W5 (.bool true)):=fun W c=>by
   have:=zcV (L W c).1.cS s0 s1;rw [show zcc (⟨R.marked++[⟨x.ao,x.cap,x.k⟩],R.steps,R.seen,R.covers⟩:Rs).steps=true from hm] at this;exact this.mono fun e w' hh=>⟨hh.1,c.trans (hh.2.mono c.size)⟩
  clear HX A5 J H ac s f1 I l f2 f3 Z t A y O r E T Y V U ab hu M X h hmS;cases hcv:R.covers with
  | true =>
   have r:∀ W,qB W5 W→W.cell? ⟨S,o+3,none⟩=some (.bool true):=fun W c=>by rw [←hcv];exact(L W c).1.cC
   refine zaf 35 (fun W=>qB W5 W) (Below.refl _ _).drew (by kernel_rfl) (by kernel_rfl) ?_;simp only [q2];iterate 6 (refine zab rfl ?_ (fun W c=>?_) ?_;rotate_left 1;· (have N:=r W c;go_simp;with_reducible rfl))
   simp only [Act.put,q1];iterate 1 (go_big_quiet_want;rename_i K hK;refine⟨?_,fun W c=>?_,hK _ ?_⟩;rotate_left 1;(· (unfold Oper.quietAt;go_simp;with_reducible rfl));clear hK K;simp only [Act.put,q1])
   go_big_quiet_want;rename_i K hK;refine⟨.bool true,fun W c=>?_,hK _ ?_⟩
   ·unfold Oper.quietAt;go_simp
   clear hK K;simp only [Act.put,q1];iterate 1 (go_big_quiet_want;rename_i K hK;refine⟨?_,fun W c=>?_,hK _ ?_⟩;rotate_left 1;(· (unfold Oper.quietAt;go_simp;with_reducible rfl));clear hK K;simp only [Act.put,q1])
   iterate 2 (refine zab rfl ?_ (fun W c=>?_) ?_;rotate_left 1;· (have N:=r W c;go_simp;with_reducible rfl))
   simp only [Act.put,q1];iterate 10 go_big_quiet_skip
   iterate 2 (refine zab rfl ?_ (fun W c=>?_) ?_;rotate_left 1;· (have N:=r W c;go_simp;with_reducible rfl))
   simp only [Act.put,q1];iterate 11 go_big_quiet_skip
   iterate 1 (refine zab rfl ?_ (fun W c=>?_) ?_;rotate_left 1;· (have N:=r W c;go_simp;with_reducible rfl))
   simp only [Act.put,q1];refine wpQuiet_nil ?_;intro W c;obtain⟨⟨d0,d1,d2,d3⟩,zz⟩:=L W c;have z2:=zz (o+2);have z3:=zz (o+3);have z:=n.out W c;have ae:(0:Int)≤(R.seen:Int):=by omega
   have af:(R.seen:Int)≤500000:=by omega
   simp only at d2 d3;clear L n G;go_wp2;exact bodyPost_end (results_none rfl _ _ _) rfl z
  | false =>
   have r:∀ W,qB W5 W→W.cell? ⟨S,o+3,none⟩=some (.bool false):=fun W c=>by rw [←hcv];exact(L W c).1.cC
   clear G;refine zaf 35 (fun W=>qB W5 W) (Below.refl _ _).drew (by kernel_rfl) (by kernel_rfl) ?_;simp only [q2];iterate 6 (refine zab rfl ?_ (fun W c=>?_) ?_;rotate_left 1;· (have N:=r W c;go_simp;with_reducible rfl))
   simp only [Act.put,q1];iterate 3 go_big_quiet_skip
   iterate 2 (refine zab rfl ?_ (fun W c=>?_) ?_;rotate_left 1;· (have N:=r W c;go_simp;with_reducible rfl))
   simp only [Act.put,q1];iterate 10 go_big_quiet_skip
   iterate 2 (refine zab rfl ?_ (fun W c=>?_) ?_;rotate_left 1;· (have N:=r W c;go_simp;with_reducible rfl))
   simp only [Act.put,q1];iterate 11 go_big_quiet_skip
   iterate 1 (refine zab rfl ?_ (fun W c=>?_) ?_;rotate_left 1;· (have N:=r W c;go_simp;with_reducible rfl))
   simp only [Act.put,q1];refine wpQuiet_nil ?_;intro W c;obtain⟨⟨d0,d1,d2,d3⟩,zz⟩:=L W c;have z2:=zz (o+2);have z3:=zz (o+3);have z:=n.out W c;have ae:(0:Int)≤(R.seen:Int):=by omega
   have af:(R.seen:Int)≤500000:=by omega
   simp only at d2 d3;clear L n;go_wp2;exact bodyPost_end (results_none rfl _ _ _) rfl z
theorem zof{w W:World}{S o B cap:Nat}{ao:Option Addr}{R:Rs}{m:Mk}(h:RsC w S o (.slice ao R.marked.length cap) R)(M:w.ownsRow B 217 51 (.slice ao R.marked.length cap) R.marked.length (zb1 R.marked))(hm:zcc R.steps=false)(hmS:(Value.slice ao R.marked.length cap).ownBlock≠some S)(hW:qB w W)(c:Bool)(hc:(R.covers&&(decide (R.seen<R.marked.length)&&zc5 m.k (R.marked.getD R.seen mk0).k))=c):
  zdx w S o B (.slice ao R.marked.length cap) (R.see m) (.returned (.tuple #[])) ((W.setCell ⟨S,o+3,none⟩ (.bool c)).setCell ⟨S,o+2,none⟩ (.int .i64 ((R.seen:Int)+1))):=by
 have d:S<w.heap.size:=World.block_lt_of_cell? _ _ h.cM;have q:=h.below hW;have b:RsC (W.setCell ⟨S,o+3,none⟩ (.bool c)) S o (.slice ao R.marked.length cap) ⟨R.marked,R.steps,R.seen,c⟩:=q.set (o+3) _ _ q.cC (by rw [if_neg (by omega)]) (by rw [if_neg (by omega)]) (by rw [if_neg (by omega)]) (by rw [if_pos rfl]);have f:RsC ((W.setCell ⟨S,o+3,none⟩ (.bool c)).setCell ⟨S,o+2,none⟩ (.int .i64 ((R.seen:Int)+1))) S o (.slice ao R.marked.length cap) ⟨R.marked,R.steps,R.seen+1,c⟩:=b.set (o+2) _ _ b.cN (by rw [if_neg (by omega)]) (by rw [if_neg (by omega)]) (by rw [if_pos rfl];go_num) (by rw [if_neg (by omega)]);have eR:R.see m=⟨R.marked,R.steps,R.seen+1,c⟩:=by unfold Rs.see;rw [hm,←hc];simp
 refine⟨rfl,.slice ao R.marked.length cap,by rw [eR];exact f,?_,fun q hq=>.inl hq,(zcW d hW).trans ((zc8 q.cC (by omega)).trans (zc8 b.cN (by omega)))⟩;rw [eR];refine zc1 M (fun g hg=>?_);have a:¬g=S:=fun e=>hmS (by rw [hg,e]);exact(Below.heap_setCell _ _ _ g a).trans ((Below.heap_setCell _ _ _ g a).trans (hW.block g (M.lt g hg).2))
theorem zrw{w:World}{S o B cap:Nat}{ao:Option Addr}{R:Rs}{x:Wy}(h:RsC w S o (.slice ao R.marked.length cap) R)(fz:∀ j,w.frozen? ⟨S,j,none⟩=false)(hm:zcc R.steps=false)(s0:0≤R.steps)(s1:R.steps≤100000)(M:w.ownsRow B 217 51 (.slice ao R.marked.length cap) R.marked.length (zb1 R.marked))(hmS:(Value.slice ao R.marked.length cap).ownBlock≠some S)(hl:R.marked.length≤500000)(hn:R.seen≤500000)(hcv:R.covers=false):
  qC 152 #[.pointer (some ⟨S,o,none⟩),.pointer (some ⟨x.b,0,none⟩)] w (zdx w S o B (.slice ao R.marked.length cap) (R.see ⟨x.ao,x.cap,x.k⟩)):=by
 have v:(R.covers&&(decide (R.seen<R.marked.length)&&zc5 x.k (R.marked.getD R.seen mk0).k))=false:=by rw [hcv];rfl
 have u:S<w.heap.size:=World.block_lt_of_cell? w _ h.cM;have g:qC 167 #[.pointer (some ⟨S,o,none⟩)] w (qR w (.bool false)):=by
  have:=zcV h.cS s0 s1;rw [hm] at this;exact this
 have l:∀ W,qB w W→qC 167 #[.pointer (some ⟨S,o,none⟩)] W (qR w (.bool false)):=fun W c=>by
  have:=zcV (h.below c).cS s0 s1;rw [hm] at this;exact this.mono fun e w' hh=>⟨hh.1,c.trans (hh.2.mono c.size)⟩
 have s:∀ W,qB w W→RsC W S o (.slice ao R.marked.length cap) R∧∀ j,W.frozen? ⟨S,j,none⟩=false:=fun W c=>⟨h.below c,fun j=>(World.frozen?_of_block (a:=⟨S,j,none⟩) (c.block S u)).trans (fz j)⟩
 have d:∀ W,qB w W→zdx w S o B (.slice ao R.marked.length cap) (R.see ⟨x.ao,x.cap,x.k⟩) (.returned (.tuple #[])) ((W.setCell ⟨S,o+3,none⟩ (.bool false)).setCell ⟨S,o+2,none⟩ (.int .i64 ((R.seen:Int)+1))):=fun W c=>zof h M hm hmS c false v;have hn0:(0:Int)≤(R.seen:Int):=by omega
 have hn1:(R.seen:Int)≤500000:=by omega
 have hl1:(R.marked.length:Int)≤500000:=by omega
 have i:∀ W,qB w W→W.cell? ⟨S,o,none⟩=some (.slice ao R.marked.length cap)∧W.cell? ⟨S,o+2,none⟩=some (.int .i64 (R.seen:Int))∧W.cell? ⟨S,o+3,none⟩=some (.bool false):=fun W c=>by
  have q:=h.below c;exact⟨q.cM,q.cN,by rw [←hcv];exact q.cC⟩
 go_enter Tryz.func152,Tryz.ntmps152;go_wp2_with(go_at_call 167;(with_reducible refine g.mono ?_);rintro e wx ⟨rfl,p⟩)
 refine zaf 35 (fun W=>qB w W) p.drew (by kernel_rfl) (by kernel_rfl) ?_;simp only [q2];iterate 6 (refine zab rfl ?_ (fun W c=>?_) ?_;rotate_left 1;· (obtain⟨r,m,n⟩:=i W c;go_simp;with_reducible rfl))
 simp only [Act.put,q1];iterate 3 go_big_quiet_skip
 iterate 2 (refine zab rfl ?_ (fun W c=>?_) ?_;rotate_left 1;· (obtain⟨r,m,n⟩:=i W c;go_simp;with_reducible rfl))
 simp only [Act.put,q1];iterate 10 go_big_quiet_skip
 iterate 2 (refine zab rfl ?_ (fun W c=>?_) ?_;rotate_left 1;· (obtain⟨r,m,n⟩:=i W c;go_simp;with_reducible rfl))
 simp only [Act.put,q1];iterate 11 go_big_quiet_skip
 iterate 1 (refine zab rfl ?_ (fun W c=>?_) ?_;rotate_left 1;· (obtain⟨r,m,n⟩:=i W c;go_simp;with_reducible rfl))
 simp only [Act.put,q1];refine wpQuiet_nil ?_;intro W c;obtain⟨⟨d0,d1,d2,d3⟩,t⟩:=s W c;have z2:=t (o+2);have z3:=t (o+3);have f:=d W c;clear s d i l;go_wp2;exact bodyPost_end (results_none rfl _ _ _) rfl f
theorem zrx{w:World}{S o B cap:Nat}{ao:Option Addr}{R:Rs}{x:Wy}(h:RsC w S o (.slice ao R.marked.length cap) R)(fz:∀ j,w.frozen? ⟨S,j,none⟩=false)(hm:zcc R.steps=false)(s0:0≤R.steps)(s1:R.steps≤100000)(M:w.ownsRow B 217 51 (.slice ao R.marked.length cap) R.marked.length (zb1 R.marked))(hmS:(Value.slice ao R.marked.length cap).ownBlock≠some S)(hl:R.marked.length≤500000)(hn:R.seen≤500000)(hcv:R.covers=true)(hge:¬R.seen<R.marked.length):
  qC 152 #[.pointer (some ⟨S,o,none⟩),.pointer (some ⟨x.b,0,none⟩)] w (zdx w S o B (.slice ao R.marked.length cap) (R.see ⟨x.ao,x.cap,x.k⟩)):=by
 have v:(R.covers&&(decide (R.seen<R.marked.length)&&zc5 x.k (R.marked.getD R.seen mk0).k))=false:=by rw [hcv];simp [hge]
 have u:S<w.heap.size:=World.block_lt_of_cell? w _ h.cM;have n:qC 167 #[.pointer (some ⟨S,o,none⟩)] w (qR w (.bool false)):=by
  have:=zcV h.cS s0 s1;rw [hm] at this;exact this
 have p:∀ W,qB w W→qC 167 #[.pointer (some ⟨S,o,none⟩)] W (qR w (.bool false)):=fun W c=>by
  have:=zcV (h.below c).cS s0 s1;rw [hm] at this;exact this.mono fun e w' hh=>⟨hh.1,c.trans (hh.2.mono c.size)⟩
 have s:∀ W,qB w W→RsC W S o (.slice ao R.marked.length cap) R∧∀ j,W.frozen? ⟨S,j,none⟩=false:=fun W c=>⟨h.below c,fun j=>(World.frozen?_of_block (a:=⟨S,j,none⟩) (c.block S u)).trans (fz j)⟩
 have d:∀ W,qB w W→zdx w S o B (.slice ao R.marked.length cap) (R.see ⟨x.ao,x.cap,x.k⟩) (.returned (.tuple #[])) ((W.setCell ⟨S,o+3,none⟩ (.bool false)).setCell ⟨S,o+2,none⟩ (.int .i64 ((R.seen:Int)+1))):=fun W c=>zof h M hm hmS c false v;have hn0:(0:Int)≤(R.seen:Int):=by omega
 have hn1:(R.seen:Int)≤500000:=by omega
 have hl1:(R.marked.length:Int)≤500000:=by omega
 have tl:decide ((R.seen:Int)<(R.marked.length:Int))=false:=by simpa using hge
 have f:∀ W,qB w W→W.cell? ⟨S,o,none⟩=some (.slice ao R.marked.length cap)∧W.cell? ⟨S,o+2,none⟩=some (.int .i64 (R.seen:Int))∧W.cell? ⟨S,o+3,none⟩=some (.bool true):=fun W c=>by
  have q:=h.below c;exact⟨q.cM,q.cN,by rw [←hcv];exact q.cC⟩
 go_enter Tryz.func152,Tryz.ntmps152;go_wp2_with(go_at_call 167;(with_reducible refine n.mono ?_);rintro e wx ⟨rfl,r⟩)
 refine zaf 35 (fun W=>qB w W) r.drew (by kernel_rfl) (by kernel_rfl) ?_;simp only [q2];iterate 6 (refine zab rfl ?_ (fun W c=>?_) ?_;rotate_left 1;· (obtain⟨l,g,i⟩:=f W c;go_simp;with_reducible rfl))
 simp only [Act.put,q1];iterate 1 (go_big_quiet_want;rename_i K hK;refine⟨?_,fun W c=>?_,hK _ ?_⟩;rotate_left 1;(· (obtain⟨l,g,i⟩:=f W c;unfold Oper.quietAt;go_simp;with_reducible rfl));clear hK K;simp only [Act.put,q1])
 go_big_quiet_want;rename_i K hK;refine⟨.bool false,fun W c=>?_,hK _ ?_⟩
 ·unfold Oper.quietAt;go_simp
 clear hK K;simp only [Act.put,q1];iterate 1 (go_big_quiet_want;rename_i K hK;refine⟨?_,fun W c=>?_,hK _ ?_⟩;rotate_left 1;(· (obtain⟨l,g,i⟩:=f W c;unfold Oper.quietAt;go_simp;with_reducible rfl));clear hK K;simp only [Act.put,q1])
 iterate 2 (refine zab rfl ?_ (fun W c=>?_) ?_;rotate_left 1;· (obtain⟨l,g,i⟩:=f W c;go_simp;with_reducible rfl))
 simp only [Act.put,q1];iterate 10 (go_big_quiet_want;rename_i K hK;refine⟨?_,fun W c=>?_,hK _ ?_⟩;rotate_left 1;(· (obtain⟨l,g,i⟩:=f W c;unfold Oper.quietAt;go_simp;with_reducible rfl));clear hK K;simp only [Act.put,q1])
 iterate 2 (refine zab rfl ?_ (fun W c=>?_) ?_;rotate_left 1;· (obtain⟨l,g,i⟩:=f W c;go_simp;with_reducible rfl))
 simp only [Act.put,q1];iterate 11 go_big_quiet_skip
 iterate 1 (refine zab rfl ?_ (fun W c=>?_) ?_;rotate_left 1;· (obtain⟨l,g,i⟩:=f W c;go_simp;with_reducible rfl))
 simp only [Act.put,q1];refine wpQuiet_nil ?_;intro W c;obtain⟨⟨d0,d1,d2,d3⟩,t⟩:=s W c;have z2:=t (o+2);have z3:=t (o+3);have m:=d W c;clear s d f p;go_wp2;exact bodyPost_end (results_none rfl _ _ _) rfl m
theorem zry{w:World}{S o B cap:Nat}{ao:Option Addr}{R:Rs}{x:Wy}(h:RsC w S o (.slice ao R.marked.length cap) R)(fz:∀ j,w.frozen? ⟨S,j,none⟩=false)(hm:zcc R.steps=false)(s0:0≤R.steps)(s1:R.steps≤100000)(M:w.ownsRow B 217 51 (.slice ao R.marked.length cap) R.marked.length (zb1 R.marked))(hmS:(Value.slice ao R.marked.length cap).ownBlock≠some S)(hl:R.marked.length≤500000)(hn:R.seen≤500000)(hcv:R.covers=true)(hlt:R.seen<R.marked.length)(c:Bool)(hcc:zc5 x.k (R.marked.getD R.seen mk0).k=c)(hK:∀ g,ao=some ⟨g,0,none⟩→∀ W,qB w W→qC 168 #[.pointer (some ⟨x.b,0,none⟩),.pointer (some ⟨g,R.seen*51,none⟩)] W (qR w (.bool c))):
  qC 152 #[.pointer (some ⟨S,o,none⟩),.pointer (some ⟨x.b,0,none⟩)] w (zdx w S o B (.slice ao R.marked.length cap) (R.see ⟨x.ao,x.cap,x.k⟩)):=by
 have v:(R.covers&&(decide (R.seen<R.marked.length)&&zc5 x.k (R.marked.getD R.seen mk0).k))=c:=by rw [hcv,hcc];simp [hlt]
 have A:S<w.heap.size:=World.block_lt_of_cell? w _ h.cM;have r:qC 167 #[.pointer (some ⟨S,o,none⟩)] w (qR w (.bool false)):=by
  have:=zcV h.cS s0 s1;rw [hm] at this;exact this
 have s:∀ W,qB w W→qC 167 #[.pointer (some ⟨S,o,none⟩)] W (qR w (.bool false)):=fun W d=>by
  have:=zcV (h.below d).cS s0 s1;rw [hm] at this;exact this.mono fun e w' hh=>⟨hh.1,d.trans (hh.2.mono d.size)⟩
 have u:∀ W,qB w W→RsC W S o (.slice ao R.marked.length cap) R∧∀ j,W.frozen? ⟨S,j,none⟩=false:=fun W d=>⟨h.below d,fun j=>(World.frozen?_of_block (a:=⟨S,j,none⟩) (d.block S A)).trans (fz j)⟩
 have i:∀ W,qB w W→zdx w S o B (.slice ao R.marked.length cap) (R.see ⟨x.ao,x.cap,x.k⟩) (.returned (.tuple #[])) ((W.setCell ⟨S,o+3,none⟩ (.bool c)).setCell ⟨S,o+2,none⟩ (.int .i64 ((R.seen:Int)+1))):=fun W d=>zof h M hm hmS d c v;have hn0:(0:Int)≤(R.seen:Int):=by omega
 have hn1:(R.seen:Int)≤500000:=by omega
 have hl1:(R.marked.length:Int)≤500000:=by omega
 have tl:(R.seen:Int)<(R.marked.length:Int):=by omega
 obtain⟨g,cap2,z,_,_⟩:=M.form (by omega);simp only [Value.slice.injEq,true_and] at z;obtain⟨rfl,rfl⟩:=z;have hK2:=hK g rfl;clear hK hcc v;have f:∀ W,qB w W→W.cell? ⟨S,o,none⟩=some (.slice (some ⟨g,0,none⟩) R.marked.length cap)∧W.cell? ⟨S,o+2,none⟩=some (.int .i64 (R.seen:Int))∧W.cell? ⟨S,o+3,none⟩=some (.bool true):=fun W d=>by
  have q:=h.below d;exact⟨q.cM,q.cN,by rw [←hcv];exact q.cC⟩
 go_enter Tryz.func152,Tryz.ntmps152;go_wp2_with(go_at_call 167;(with_reducible refine r.mono ?_);rintro e wx ⟨rfl,t⟩)
 refine zaf 35 (fun W=>qB w W) t.drew (by kernel_rfl) (by kernel_rfl) ?_;simp only [q2];iterate 6 (refine zab rfl ?_ (fun W d=>?_) ?_;rotate_left 1;· (obtain⟨n,l,m⟩:=f W d;go_simp;with_reducible rfl))
 simp only [Act.put,q1];iterate 1 (go_big_quiet_want;rename_i K hK;refine⟨?_,fun W d=>?_,hK _ ?_⟩;rotate_left 1;(· (obtain⟨n,l,m⟩:=f W d;unfold Oper.quietAt;go_simp;with_reducible rfl));clear hK K;simp only [Act.put,q1])
 go_big_quiet_want;rename_i K hK;refine⟨.bool false,fun W d=>?_,hK _ ?_⟩
 ·unfold Oper.quietAt;go_simp
 clear hK K;simp only [Act.put,q1];iterate 1 (go_big_quiet_want;rename_i K hK;refine⟨?_,fun W d=>?_,hK _ ?_⟩;rotate_left 1;(· (obtain⟨n,l,m⟩:=f W d;unfold Oper.quietAt;go_simp;with_reducible rfl));clear hK K;simp only [Act.put,q1])
 iterate 2 (refine zab rfl ?_ (fun W d=>?_) ?_;rotate_left 1;· (obtain⟨n,l,m⟩:=f W d;go_simp;with_reducible rfl))
 simp only [Act.put,q1];iterate 10 (go_big_quiet_want;rename_i K hK;refine⟨?_,fun W d=>?_,hK _ ?_⟩;rotate_left 1;(· (obtain⟨n,l,m⟩:=f W d;unfold Oper.quietAt;go_simp;with_reducible rfl));clear hK K;simp only [Act.put,q1])
 iterate 2 (refine zab rfl ?_ (fun W d=>?_) ?_;rotate_left 1;· (obtain⟨n,l,m⟩:=f W d;go_simp;with_reducible rfl))
 simp only [Act.put,q1];iterate 10 (go_big_quiet_want;rename_i K hK;refine⟨?_,fun W d=>?_,hK _ ?_⟩;rotate_left 1;(· (obtain⟨n,l,m⟩:=f W d;unfold Oper.quietAt;go_simp;with_reducible rfl));clear hK K;simp only [Act.put,q1])
 go_big_quiet_want;rename_i K hK;refine⟨.bool c,fun W d=>?_,hK _ ?_⟩
 ·unfold Oper.quietAt;go_simp
 clear hK K;simp only [Act.put,q1];iterate 1 (refine zab rfl ?_ (fun W d=>?_) ?_;rotate_left 1;· (obtain⟨n,l,m⟩:=f W d;go_simp;with_reducible rfl))
 simp only [Act.put,q1];refine wpQuiet_nil ?_;intro W d;obtain⟨⟨d0,d1,d2,d3⟩,y⟩:=u W d;have z2:=y (o+2);have z3:=y (o+3);have p:=i W d;clear u i f s;go_wp2;exact bodyPost_end (results_none rfl _ _ _) rfl p
end Go.Proofs.YtfpgjkbjbbgciaaGreatDoor
