import Derived.Test.YtfpgjkbjbbgciaaGreatDoorMk30
set_option maxRecDepth 100000
set_option maxHeartbeats 8000000
namespace Go.Proofs.YtfpgjkbjbbgciaaGreatDoor
open Go.RowKit Sp
theorem zou{w W:World}{S o B cap:Nat}{ao:Option Addr}{R:Rs}{m:Mk}(h:RsC w S o (.slice ao R.marked.length cap) R)(M:w.ownsRow B 217 51 (.slice ao R.marked.length cap) R.marked.length (zbi R.marked))(hm:zbn R.steps=false)(hmS:(Value.slice ao R.marked.length cap).ownBlock≠some S)(hW:Below w.heap.size w W)(c:Bool)(hc:(R.covers&&(decide (R.seen<R.marked.length)&&zb9 m.k (R.marked.getD R.seen mk0).k))=c):
  zcR w S o B (.slice ao R.marked.length cap) (R.see m) (.returned (.tuple #[])) ((W.setCell ⟨S,o+3,none⟩ (.bool c)).setCell ⟨S,o+2,none⟩ (.int .i64 ((R.seen:Int)+1))):=by
 have b:S<w.heap.size:=World.block_lt_of_cell? _ _ h.cM;have q:=h.below hW;have d:RsC (W.setCell ⟨S,o+3,none⟩ (.bool c)) S o (.slice ao R.marked.length cap) ⟨R.marked,R.steps,R.seen,c⟩:=q.set (o+3) _ _ q.cC (by rw [if_neg (by omega)]) (by rw [if_neg (by omega)]) (by rw [if_neg (by omega)]) (by rw [if_pos rfl]);have f:RsC ((W.setCell ⟨S,o+3,none⟩ (.bool c)).setCell ⟨S,o+2,none⟩ (.int .i64 ((R.seen:Int)+1))) S o (.slice ao R.marked.length cap) ⟨R.marked,R.steps,R.seen+1,c⟩:=d.set (o+2) _ _ d.cN (by rw [if_neg (by omega)]) (by rw [if_neg (by omega)]) (by rw [if_pos rfl];go_num) (by rw [if_neg (by omega)]);have eR:R.see m=⟨R.marked,R.steps,R.seen+1,c⟩:=by unfold Rs.see;rw [hm,←hc];simp
 refine⟨rfl,.slice ao R.marked.length cap,by rw [eR];exact f,?_,fun q hq=>.inl hq,(zc7 b hW).trans ((zcg q.cC (by omega)).trans (zcg d.cN (by omega)))⟩;rw [eR];refine zbX M (fun g hg=>?_);have a:¬g=S:=fun e=>hmS (by rw [hg,e]);exact(Below.heap_setCell _ _ _ g a).trans ((Below.heap_setCell _ _ _ g a).trans (hW.block g (M.lt g hg).2))
theorem zrt{w:World}{S o B cap:Nat}{ao:Option Addr}{R:Rs}{x:Wy}(h:RsC w S o (.slice ao R.marked.length cap) R)(fz:∀ j,w.frozen? ⟨S,j,none⟩=false)(hm:zbn R.steps=false)(s0:0≤R.steps)(s1:R.steps≤100000)(M:w.ownsRow B 217 51 (.slice ao R.marked.length cap) R.marked.length (zbi R.marked))(hmS:(Value.slice ao R.marked.length cap).ownBlock≠some S)(hl:R.marked.length≤500000)(hn:R.seen≤500000)(hcv:R.covers=false):
  Calls Tryz.prog 152 #[.pointer (some ⟨S,o,none⟩),.pointer (some ⟨x.b,0,none⟩)] w (zcR w S o B (.slice ao R.marked.length cap) (R.see ⟨x.ao,x.cap,x.k⟩)):=by
 have u:(R.covers&&(decide (R.seen<R.marked.length)&&zb9 x.k (R.marked.getD R.seen mk0).k))=false:=by rw [hcv];rfl
 have v:S<w.heap.size:=World.block_lt_of_cell? w _ h.cM;have i:Calls Tryz.prog 167 #[.pointer (some ⟨S,o,none⟩)] w fun e w'=>e=.returned (.bool false)∧Below w.heap.size w w':=by
  have:=zc6 h.cS s0 s1;rw [hm] at this;exact this
 have m:∀ W,Below w.heap.size w W→Calls Tryz.prog 167 #[.pointer (some ⟨S,o,none⟩)] W fun e w'=>e=.returned (.bool false)∧Below w.heap.size w w':=fun W c=>by
  have:=zc6 (h.below c).cS s0 s1;rw [hm] at this;exact this.mono fun e w' hh=>⟨hh.1,c.trans (hh.2.mono c.size)⟩
 have s:∀ W,Below w.heap.size w W→RsC W S o (.slice ao R.marked.length cap) R∧∀ j,W.frozen? ⟨S,j,none⟩=false:=fun W c=>⟨h.below c,fun j=>(World.frozen?_of_block (a:=⟨S,j,none⟩) (c.block S v)).trans (fz j)⟩
 have d:∀ W,Below w.heap.size w W→zcR w S o B (.slice ao R.marked.length cap) (R.see ⟨x.ao,x.cap,x.k⟩) (.returned (.tuple #[])) ((W.setCell ⟨S,o+3,none⟩ (.bool false)).setCell ⟨S,o+2,none⟩ (.int .i64 ((R.seen:Int)+1))):=fun W c=>zou h M hm hmS c false u;have hn0:(0:Int)≤(R.seen:Int):=by omega
 have hn1:(R.seen:Int)≤500000:=by omega
 have hl1:(R.marked.length:Int)≤500000:=by omega
 have f:∀ W,Below w.heap.size w W→W.cell? ⟨S,o,none⟩=some (.slice ao R.marked.length cap)∧W.cell? ⟨S,o+2,none⟩=some (.int .i64 (R.seen:Int))∧W.cell? ⟨S,o+3,none⟩=some (.bool false):=fun W c=>by
  have q:=h.below c;exact⟨q.cM,q.cN,by rw [←hcv];exact q.cC⟩
 go_enter Tryz.func152,Tryz.ntmps152;go_wp2_with(go_at_call 167;(with_reducible refine i.mono ?_);rintro e wx ⟨rfl,l⟩)
 refine zad 35 (fun W=>Below w.heap.size w W) l.drew (by kernel_rfl) (by kernel_rfl) ?_;simp only [List.take_succ_cons,List.take_zero,List.drop_succ_cons,List.drop_zero];iterate 6 (refine zab rfl ?_ (fun W c=>?_) ?_;rotate_left 1;· (obtain⟨n,p,r⟩:=f W c;go_simp;with_reducible rfl))
 simp only [Act.put,List.setIfInBounds_toArray,List.set_cons_zero,List.set_cons_succ];iterate 3 go_big_quiet_skip
 iterate 2 (refine zab rfl ?_ (fun W c=>?_) ?_;rotate_left 1;· (obtain⟨n,p,r⟩:=f W c;go_simp;with_reducible rfl))
 simp only [Act.put,List.setIfInBounds_toArray,List.set_cons_zero,List.set_cons_succ];iterate 10 go_big_quiet_skip
 iterate 2 (refine zab rfl ?_ (fun W c=>?_) ?_;rotate_left 1;· (obtain⟨n,p,r⟩:=f W c;go_simp;with_reducible rfl))
 simp only [Act.put,List.setIfInBounds_toArray,List.set_cons_zero,List.set_cons_succ];iterate 11 go_big_quiet_skip
 iterate 1 (refine zab rfl ?_ (fun W c=>?_) ?_;rotate_left 1;· (obtain⟨n,p,r⟩:=f W c;go_simp;with_reducible rfl))
 simp only [Act.put,List.setIfInBounds_toArray,List.set_cons_zero,List.set_cons_succ];refine wpQuiet_nil ?_;intro W c;obtain⟨⟨d0,d1,d2,d3⟩,t⟩:=s W c;have z2:=t (o+2);have z3:=t (o+3);have g:=d W c;clear s d f m;go_wp2;exact bodyPost_end (results_none rfl _ _ _) rfl g
theorem zru{w:World}{S o B cap:Nat}{ao:Option Addr}{R:Rs}{x:Wy}(h:RsC w S o (.slice ao R.marked.length cap) R)(fz:∀ j,w.frozen? ⟨S,j,none⟩=false)(hm:zbn R.steps=false)(s0:0≤R.steps)(s1:R.steps≤100000)(M:w.ownsRow B 217 51 (.slice ao R.marked.length cap) R.marked.length (zbi R.marked))(hmS:(Value.slice ao R.marked.length cap).ownBlock≠some S)(hl:R.marked.length≤500000)(hn:R.seen≤500000)(hcv:R.covers=true)(hge:¬R.seen<R.marked.length):
  Calls Tryz.prog 152 #[.pointer (some ⟨S,o,none⟩),.pointer (some ⟨x.b,0,none⟩)] w (zcR w S o B (.slice ao R.marked.length cap) (R.see ⟨x.ao,x.cap,x.k⟩)):=by
 have u:(R.covers&&(decide (R.seen<R.marked.length)&&zb9 x.k (R.marked.getD R.seen mk0).k))=false:=by rw [hcv];simp [hge]
 have v:S<w.heap.size:=World.block_lt_of_cell? w _ h.cM;have n:Calls Tryz.prog 167 #[.pointer (some ⟨S,o,none⟩)] w fun e w'=>e=.returned (.bool false)∧Below w.heap.size w w':=by
  have:=zc6 h.cS s0 s1;rw [hm] at this;exact this
 have r:∀ W,Below w.heap.size w W→Calls Tryz.prog 167 #[.pointer (some ⟨S,o,none⟩)] W fun e w'=>e=.returned (.bool false)∧Below w.heap.size w w':=fun W c=>by
  have:=zc6 (h.below c).cS s0 s1;rw [hm] at this;exact this.mono fun e w' hh=>⟨hh.1,c.trans (hh.2.mono c.size)⟩
 have s:∀ W,Below w.heap.size w W→RsC W S o (.slice ao R.marked.length cap) R∧∀ j,W.frozen? ⟨S,j,none⟩=false:=fun W c=>⟨h.below c,fun j=>(World.frozen?_of_block (a:=⟨S,j,none⟩) (c.block S v)).trans (fz j)⟩
 have d:∀ W,Below w.heap.size w W→zcR w S o B (.slice ao R.marked.length cap) (R.see ⟨x.ao,x.cap,x.k⟩) (.returned (.tuple #[])) ((W.setCell ⟨S,o+3,none⟩ (.bool false)).setCell ⟨S,o+2,none⟩ (.int .i64 ((R.seen:Int)+1))):=fun W c=>zou h M hm hmS c false u;have hn0:(0:Int)≤(R.seen:Int):=by omega
 have hn1:(R.seen:Int)≤500000:=by omega
 have hl1:(R.marked.length:Int)≤500000:=by omega
 have tl:decide ((R.seen:Int)<(R.marked.length:Int))=false:=by simpa using hge
 have f:∀ W,Below w.heap.size w W→W.cell? ⟨S,o,none⟩=some (.slice ao R.marked.length cap)∧W.cell? ⟨S,o+2,none⟩=some (.int .i64 (R.seen:Int))∧W.cell? ⟨S,o+3,none⟩=some (.bool true):=fun W c=>by
  have q:=h.below c;exact⟨q.cM,q.cN,by rw [←hcv];exact q.cC⟩
 go_enter Tryz.func152,Tryz.ntmps152;go_wp2_with(go_at_call 167;(with_reducible refine n.mono ?_);rintro e wx ⟨rfl,p⟩)
 refine zad 35 (fun W=>Below w.heap.size w W) p.drew (by kernel_rfl) (by kernel_rfl) ?_;simp only [List.take_succ_cons,List.take_zero,List.drop_succ_cons,List.drop_zero];iterate 6 (refine zab rfl ?_ (fun W c=>?_) ?_;rotate_left 1;· (obtain⟨g,i,l⟩:=f W c;go_simp;with_reducible rfl))
 simp only [Act.put,List.setIfInBounds_toArray,List.set_cons_zero,List.set_cons_succ];iterate 1 (go_big_quiet_want;rename_i K hK;refine⟨?_,fun W c=>?_,hK _ ?_⟩;rotate_left 1;(· (obtain⟨g,i,l⟩:=f W c;unfold Oper.quietAt;go_simp;with_reducible rfl));clear hK K;simp only [Act.put,List.setIfInBounds_toArray,List.set_cons_zero,List.set_cons_succ])
 go_big_quiet_want;rename_i K hK;refine⟨.bool false,fun W c=>?_,hK _ ?_⟩
 ·unfold Oper.quietAt;go_simp
 clear hK K;simp only [Act.put,List.setIfInBounds_toArray,List.set_cons_zero,List.set_cons_succ];iterate 1 (go_big_quiet_want;rename_i K hK;refine⟨?_,fun W c=>?_,hK _ ?_⟩;rotate_left 1;(· (obtain⟨g,i,l⟩:=f W c;unfold Oper.quietAt;go_simp;with_reducible rfl));clear hK K;simp only [Act.put,List.setIfInBounds_toArray,List.set_cons_zero,List.set_cons_succ])
 iterate 2 (refine zab rfl ?_ (fun W c=>?_) ?_;rotate_left 1;· (obtain⟨g,i,l⟩:=f W c;go_simp;with_reducible rfl))
 simp only [Act.put,List.setIfInBounds_toArray,List.set_cons_zero,List.set_cons_succ];iterate 10 (go_big_quiet_want;rename_i K hK;refine⟨?_,fun W c=>?_,hK _ ?_⟩;rotate_left 1;(· (obtain⟨g,i,l⟩:=f W c;unfold Oper.quietAt;go_simp;with_reducible rfl));clear hK K;simp only [Act.put,List.setIfInBounds_toArray,List.set_cons_zero,List.set_cons_succ])
 iterate 2 (refine zab rfl ?_ (fun W c=>?_) ?_;rotate_left 1;· (obtain⟨g,i,l⟩:=f W c;go_simp;with_reducible rfl))
 simp only [Act.put,List.setIfInBounds_toArray,List.set_cons_zero,List.set_cons_succ];iterate 11 go_big_quiet_skip
 iterate 1 (refine zab rfl ?_ (fun W c=>?_) ?_;rotate_left 1;· (obtain⟨g,i,l⟩:=f W c;go_simp;with_reducible rfl))
 simp only [Act.put,List.setIfInBounds_toArray,List.set_cons_zero,List.set_cons_succ];refine wpQuiet_nil ?_;intro W c;obtain⟨⟨d0,d1,d2,d3⟩,t⟩:=s W c;have z2:=t (o+2);have z3:=t (o+3);have m:=d W c;clear s d f r;go_wp2;exact bodyPost_end (results_none rfl _ _ _) rfl m
theorem zrv{w:World}{S o B cap:Nat}{ao:Option Addr}{R:Rs}{x:Wy}(h:RsC w S o (.slice ao R.marked.length cap) R)(fz:∀ j,w.frozen? ⟨S,j,none⟩=false)(hm:zbn R.steps=false)(s0:0≤R.steps)(s1:R.steps≤100000)(M:w.ownsRow B 217 51 (.slice ao R.marked.length cap) R.marked.length (zbi R.marked))(hmS:(Value.slice ao R.marked.length cap).ownBlock≠some S)(hl:R.marked.length≤500000)(hn:R.seen≤500000)(hcv:R.covers=true)(hlt:R.seen<R.marked.length)(c:Bool)(hcc:zb9 x.k (R.marked.getD R.seen mk0).k=c)(hK:∀ g,ao=some ⟨g,0,none⟩→∀ W,Below w.heap.size w W→Calls Tryz.prog 168 #[.pointer (some ⟨x.b,0,none⟩),.pointer (some ⟨g,R.seen*51,none⟩)] W fun e w'=>e=.returned (.bool c)∧Below w.heap.size w w'):
  Calls Tryz.prog 152 #[.pointer (some ⟨S,o,none⟩),.pointer (some ⟨x.b,0,none⟩)] w (zcR w S o B (.slice ao R.marked.length cap) (R.see ⟨x.ao,x.cap,x.k⟩)):=by
 have v:(R.covers&&(decide (R.seen<R.marked.length)&&zb9 x.k (R.marked.getD R.seen mk0).k))=c:=by rw [hcv,hcc];simp [hlt]
 have A:S<w.heap.size:=World.block_lt_of_cell? w _ h.cM;have r:Calls Tryz.prog 167 #[.pointer (some ⟨S,o,none⟩)] w fun e w'=>e=.returned (.bool false)∧Below w.heap.size w w':=by
  have:=zc6 h.cS s0 s1;rw [hm] at this;exact this
 have t:∀ W,Below w.heap.size w W→Calls Tryz.prog 167 #[.pointer (some ⟨S,o,none⟩)] W fun e w'=>e=.returned (.bool false)∧Below w.heap.size w w':=fun W d=>by
  have:=zc6 (h.below d).cS s0 s1;rw [hm] at this;exact this.mono fun e w' hh=>⟨hh.1,d.trans (hh.2.mono d.size)⟩
 have u:∀ W,Below w.heap.size w W→RsC W S o (.slice ao R.marked.length cap) R∧∀ j,W.frozen? ⟨S,j,none⟩=false:=fun W d=>⟨h.below d,fun j=>(World.frozen?_of_block (a:=⟨S,j,none⟩) (d.block S A)).trans (fz j)⟩
 have i:∀ W,Below w.heap.size w W→zcR w S o B (.slice ao R.marked.length cap) (R.see ⟨x.ao,x.cap,x.k⟩) (.returned (.tuple #[])) ((W.setCell ⟨S,o+3,none⟩ (.bool c)).setCell ⟨S,o+2,none⟩ (.int .i64 ((R.seen:Int)+1))):=fun W d=>zou h M hm hmS d c v;have hn0:(0:Int)≤(R.seen:Int):=by omega
 have hn1:(R.seen:Int)≤500000:=by omega
 have hl1:(R.marked.length:Int)≤500000:=by omega
 have tl:(R.seen:Int)<(R.marked.length:Int):=by omega
 obtain⟨g,cap2,y,_,_⟩:=M.form (by omega);simp only [Value.slice.injEq,true_and] at y;obtain⟨rfl,rfl⟩:=y;have hK2:=hK g rfl;clear hK hcc v;have f:∀ W,Below w.heap.size w W→W.cell? ⟨S,o,none⟩=some (.slice (some ⟨g,0,none⟩) R.marked.length cap)∧W.cell? ⟨S,o+2,none⟩=some (.int .i64 (R.seen:Int))∧W.cell? ⟨S,o+3,none⟩=some (.bool true):=fun W d=>by
  have q:=h.below d;exact⟨q.cM,q.cN,by rw [←hcv];exact q.cC⟩
 go_enter Tryz.func152,Tryz.ntmps152;go_wp2_with(go_at_call 167;(with_reducible refine r.mono ?_);rintro e wx ⟨rfl,s⟩)
 refine zad 35 (fun W=>Below w.heap.size w W) s.drew (by kernel_rfl) (by kernel_rfl) ?_;simp only [List.take_succ_cons,List.take_zero,List.drop_succ_cons,List.drop_zero];iterate 6 (refine zab rfl ?_ (fun W d=>?_) ?_;rotate_left 1;· (obtain⟨l,m,n⟩:=f W d;go_simp;with_reducible rfl))
 simp only [Act.put,List.setIfInBounds_toArray,List.set_cons_zero,List.set_cons_succ];iterate 1 (go_big_quiet_want;rename_i K hK;refine⟨?_,fun W d=>?_,hK _ ?_⟩;rotate_left 1;(· (obtain⟨l,m,n⟩:=f W d;unfold Oper.quietAt;go_simp;with_reducible rfl));clear hK K;simp only [Act.put,List.setIfInBounds_toArray,List.set_cons_zero,List.set_cons_succ])
 go_big_quiet_want;rename_i K hK;refine⟨.bool false,fun W d=>?_,hK _ ?_⟩
 ·unfold Oper.quietAt;go_simp
 clear hK K;simp only [Act.put,List.setIfInBounds_toArray,List.set_cons_zero,List.set_cons_succ];iterate 1 (go_big_quiet_want;rename_i K hK;refine⟨?_,fun W d=>?_,hK _ ?_⟩;rotate_left 1;(· (obtain⟨l,m,n⟩:=f W d;unfold Oper.quietAt;go_simp;with_reducible rfl));clear hK K;simp only [Act.put,List.setIfInBounds_toArray,List.set_cons_zero,List.set_cons_succ])
 iterate 2 (refine zab rfl ?_ (fun W d=>?_) ?_;rotate_left 1;· (obtain⟨l,m,n⟩:=f W d;go_simp;with_reducible rfl))
 simp only [Act.put,List.setIfInBounds_toArray,List.set_cons_zero,List.set_cons_succ];iterate 10 (go_big_quiet_want;rename_i K hK;refine⟨?_,fun W d=>?_,hK _ ?_⟩;rotate_left 1;(· (obtain⟨l,m,n⟩:=f W d;unfold Oper.quietAt;go_simp;with_reducible rfl));clear hK K;simp only [Act.put,List.setIfInBounds_toArray,List.set_cons_zero,List.set_cons_succ])
 iterate 2 (refine zab rfl ?_ (fun W d=>?_) ?_;rotate_left 1;· (obtain⟨l,m,n⟩:=f W d;go_simp;with_reducible rfl))
 simp only [Act.put,List.setIfInBounds_toArray,List.set_cons_zero,List.set_cons_succ];iterate 10 (go_big_quiet_want;rename_i K hK;refine⟨?_,fun W d=>?_,hK _ ?_⟩;rotate_left 1;(· (obtain⟨l,m,n⟩:=f W d;unfold Oper.quietAt;go_simp;with_reducible rfl));clear hK K;simp only [Act.put,List.setIfInBounds_toArray,List.set_cons_zero,List.set_cons_succ])
 go_big_quiet_want;rename_i K hK;refine⟨.bool c,fun W d=>?_,hK _ ?_⟩
 ·unfold Oper.quietAt;go_simp
 clear hK K;simp only [Act.put,List.setIfInBounds_toArray,List.set_cons_zero,List.set_cons_succ];iterate 1 (refine zab rfl ?_ (fun W d=>?_) ?_;rotate_left 1;· (obtain⟨l,m,n⟩:=f W d;go_simp;with_reducible rfl))
 simp only [Act.put,List.setIfInBounds_toArray,List.set_cons_zero,List.set_cons_succ];refine wpQuiet_nil ?_;intro W d;obtain⟨⟨d0,d1,d2,d3⟩,z⟩:=u W d;have z2:=z (o+2);have z3:=z (o+3);have p:=i W d;clear u i f t;go_wp2;exact bodyPost_end (results_none rfl _ _ _) rfl p
theorem zuf{w:World}{S o cap n b:Nat}{ao:Option Addr}{R:Rs}{bv:Value}{k:Kn}(h:RsC w S o (.slice ao n cap) R)(X:KnM w b bv k)(e:k.steps=R.steps)(P:World→Prop)(hs:∀ W,Below w.heap.size w W→Calls Tryz.prog 152 #[.pointer (some ⟨S,o,none⟩),.pointer (some ⟨b,0,none⟩)] W fun e w'=>e=.returned (.tuple #[])∧P w'):
  Calls Tryz.prog 135 #[.pointer (some ⟨S,o,none⟩),.pointer (some ⟨b,0,none⟩)] w fun e w'=>e=.returned (.bool false)∧P w':=by
 have d:∀ W,Below w.heap.size w W→W.cell? ⟨S,o,none⟩=some (.slice ao n cap)∧W.cell? ⟨S,o+1,none⟩=some (.int .i64 R.steps)∧W.cell? ⟨S,o+2,none⟩=some (.int .i64 (R.seen:Int))∧W.cell? ⟨S,o+3,none⟩=some (.bool R.covers):=fun W hW=>by
  have q:=h.below hW;exact⟨q.cM,q.cS,q.cN,q.cC⟩
 have te:(k.steps != R.steps)=false:=by simpa using e
 clear e;go_enter Tryz.func135,Tryz.ntmps135;go_wp2;refine zad 6 (fun W=>Below w.heap.size w W) (Below.refl _ _).drew (by kernel_rfl) (by kernel_rfl) ?_;simp only [List.take_succ_cons,List.take_zero,List.drop_succ_cons,List.drop_zero];iterate 1 (refine zab rfl ?_ (fun W hW=>?_) ?_;rotate_left 1;· (obtain⟨i,j,l,m⟩:=d W hW;go_simp;with_reducible rfl))
 refine zaJ rfl 134 #[.pointer (some ⟨b,0,none⟩)] (.int .i64 k.steps) (fun W hW=>?_) (fun W hW=>(zbI (X.below hW X.lt)).mono (fun e w' hh=>⟨hh.1,by rw [hh.2];exact hW⟩)) ?_
 ·go_simp
 iterate 4 (refine zab rfl ?_ (fun W hW=>?_) ?_;rotate_left 1;· (obtain⟨i,j,l,m⟩:=d W hW;go_simp;with_reducible rfl))
 refine wpQuiet_nil ?_;intro f a;have c:=hs f a;go_wp2_with(go_at_call 152;(with_reducible refine c.mono ?_);rintro e wx ⟨rfl,g⟩)
 go_ret;exact⟨rfl,g⟩
theorem zwY{w:World}{S o cap n b:Nat}{ao:Option Addr}{R:Rs}{bv:Value}{k:Kn}(h:RsC w S o (.slice ao n cap) R)(X:KnM w b bv k)(e:¬k.steps=R.steps)(hc:R.covers=true)(hn:R.seen=n)(hl:n≤500000):
  Calls Tryz.prog 135 #[.pointer (some ⟨S,o,none⟩),.pointer (some ⟨b,0,none⟩)] w fun e w'=>e=.returned (.bool true)∧Below w.heap.size w w':=by
 have a:∀ W,Below w.heap.size w W→W.cell? ⟨S,o,none⟩=some (.slice ao n cap)∧W.cell? ⟨S,o+1,none⟩=some (.int .i64 R.steps)∧W.cell? ⟨S,o+2,none⟩=some (.int .i64 (n:Int))∧W.cell? ⟨S,o+3,none⟩=some (.bool true):=fun W hW=>by
  have q:=h.below hW;exact⟨q.cM,q.cS,by rw [←hn];exact q.cN,by rw [←hc];exact q.cC⟩
 have te:(k.steps != R.steps)=true:=by simpa using e
 have hn2:(n:Int)≤500000:=by omega
 clear e hn hc hl;go_enter Tryz.func135,Tryz.ntmps135;go_wp2;refine zad 6 (fun W=>Below w.heap.size w W) (Below.refl _ _).drew (by kernel_rfl) (by kernel_rfl) ?_;simp only [List.take_succ_cons,List.take_zero,List.drop_succ_cons,List.drop_zero];iterate 1 (refine zab rfl ?_ (fun W hW=>?_) ?_;rotate_left 1;· (obtain⟨f,g,i,j⟩:=a W hW;go_simp;with_reducible rfl))
 refine zaJ rfl 134 #[.pointer (some ⟨b,0,none⟩)] (.int .i64 k.steps) (fun W hW=>?_) (fun W hW=>(zbI (X.below hW X.lt)).mono (fun e w' hh=>⟨hh.1,by rw [hh.2];exact hW⟩)) ?_
 ·go_simp
 iterate 4 (refine zab rfl ?_ (fun W hW=>?_) ?_;rotate_left 1;· (obtain⟨f,g,i,j⟩:=a W hW;go_simp;with_reducible rfl))
 refine wpQuiet_nil ?_;intro W1 c;go_wp2;refine zad 15 (fun W=>Below w.heap.size w W) c.drew (by kernel_rfl) (by kernel_rfl) ?_;simp only [List.take_succ_cons,List.take_zero,List.drop_succ_cons,List.drop_zero];iterate 5 (refine zab rfl ?_ (fun W hW=>?_) ?_;rotate_left 1;· (obtain⟨f,g,i,j⟩:=a W hW;go_simp;with_reducible rfl))
 simp only [Act.put,List.setIfInBounds_toArray,List.set_cons_zero,List.set_cons_succ];iterate 10 (go_big_quiet_want;rename_i K hK;refine⟨?_,fun W hW=>?_,hK _ ?_⟩;rotate_left 1;(· (obtain⟨f,g,i,j⟩:=a W hW;unfold Oper.quietAt;go_simp;with_reducible rfl));clear hK K;simp only [Act.put,List.setIfInBounds_toArray,List.set_cons_zero,List.set_cons_succ])
 refine wpQuiet_nil ?_;intro W2 d;go_wp2;go_ret;exact⟨rfl,d⟩
theorem zug{w:World}{S o cap n b:Nat}{ao:Option Addr}{R:Rs}{bv:Value}{k:Kn}(h:RsC w S o (.slice ao n cap) R)(X:KnM w b bv k)(e:¬k.steps=R.steps)(hc:R.covers=true)(hn:¬R.seen=n)(hl:n≤500000)(_hl2:R.seen≤500000)(Q P:World→Prop)(hg:∀ W,Below w.heap.size w W→Calls Tryz.prog 151 #[.pointer (some ⟨S,o,none⟩),.int .i64 k.steps] W fun e w'=>e=.returned (.tuple #[])∧Q w')
  (hs:∀ W,Q W→Calls Tryz.prog 152 #[.pointer (some ⟨S,o,none⟩),.pointer (some ⟨b,0,none⟩)] W fun e w'=>e=.returned (.tuple #[])∧P w') :
  Calls Tryz.prog 135 #[.pointer (some ⟨S,o,none⟩),.pointer (some ⟨b,0,none⟩)] w fun e w'=>e=.returned (.bool false)∧P w':=by
 have d:∀ W,Below w.heap.size w W→W.cell? ⟨S,o,none⟩=some (.slice ao n cap)∧W.cell? ⟨S,o+1,none⟩=some (.int .i64 R.steps)∧W.cell? ⟨S,o+2,none⟩=some (.int .i64 (R.seen:Int))∧W.cell? ⟨S,o+3,none⟩=some (.bool true):=fun W hW=>by
  have q:=h.below hW;exact⟨q.cM,q.cS,q.cN,by rw [←hc];exact q.cC⟩
 have te:(k.steps != R.steps)=true:=by simpa using e
 have tn:((R.seen:Int) == (n:Int))=false:=by simpa using (by omega:¬(R.seen:Int)=(n:Int))
 have hn2:(n:Int)≤500000:=by omega
 have j:=fun W (hW:Below w.heap.size w W)=>zbI (X.below hW X.lt);clear e hn hc hl;go_enter Tryz.func135,Tryz.ntmps135;go_wp2;refine zad 6 (fun W=>Below w.heap.size w W) (Below.refl _ _).drew (by kernel_rfl) (by kernel_rfl) ?_;simp only [List.take_succ_cons,List.take_zero,List.drop_succ_cons,List.drop_zero];iterate 1 (refine zab rfl ?_ (fun W hW=>?_) ?_;rotate_left 1;· (obtain⟨p,r,s,t⟩:=d W hW;go_simp;with_reducible rfl))
 refine zaJ rfl 134 #[.pointer (some ⟨b,0,none⟩)] (.int .i64 k.steps) (fun W hW=>?_) (fun W hW=>(zbI (X.below hW X.lt)).mono (fun e w' hh=>⟨hh.1,by rw [hh.2];exact hW⟩)) ?_
 ·go_simp
 iterate 4 (refine zab rfl ?_ (fun W hW=>?_) ?_;rotate_left 1;· (obtain⟨p,r,s,t⟩:=d W hW;go_simp;with_reducible rfl))
 refine wpQuiet_nil ?_;intro W1 f;go_wp2;refine zad 15 (fun W=>Below w.heap.size w W) f.drew (by kernel_rfl) (by kernel_rfl) ?_;simp only [List.take_succ_cons,List.take_zero,List.drop_succ_cons,List.drop_zero];iterate 5 (refine zab rfl ?_ (fun W hW=>?_) ?_;rotate_left 1;· (obtain⟨p,r,s,t⟩:=d W hW;go_simp;with_reducible rfl))
 simp only [Act.put,List.setIfInBounds_toArray,List.set_cons_zero,List.set_cons_succ];iterate 10 (go_big_quiet_want;rename_i K hK;refine⟨?_,fun W hW=>?_,hK _ ?_⟩;rotate_left 1;(· (obtain⟨p,r,s,t⟩:=d W hW;unfold Oper.quietAt;go_simp;with_reducible rfl));clear hK K;simp only [Act.put,List.setIfInBounds_toArray,List.set_cons_zero,List.set_cons_succ])
 refine wpQuiet_nil ?_;intro u a;have c:=j u a;have g:=hg u a;go_wp2_with(first
  | (go_at_call 134;(with_reducible refine c.mono ?_);rintro e wx ⟨rfl,m⟩;have l:=m.symm;subst l)
  | (go_at_call 151;(with_reducible refine g.mono ?_);rintro e y ⟨rfl,x⟩;have i:=hs y x)
  | (go_at_call 152;(with_reducible refine i.mono ?_);rintro e wz ⟨rfl,v⟩))
 go_ret;exact⟨rfl,v⟩
theorem zuh{w:World}{S o cap n b:Nat}{ao:Option Addr}{R:Rs}{bv:Value}{k:Kn}(h:RsC w S o (.slice ao n cap) R)(X:KnM w b bv k)(e:¬k.steps=R.steps)(hc:R.covers=false)(Q P:World→Prop)(hg:∀ W,Below w.heap.size w W→Calls Tryz.prog 151 #[.pointer (some ⟨S,o,none⟩),.int .i64 k.steps] W fun e w'=>e=.returned (.tuple #[])∧Q w')
  (hs:∀ W,Q W→Calls Tryz.prog 152 #[.pointer (some ⟨S,o,none⟩),.pointer (some ⟨b,0,none⟩)] W fun e w'=>e=.returned (.tuple #[])∧P w') :
  Calls Tryz.prog 135 #[.pointer (some ⟨S,o,none⟩),.pointer (some ⟨b,0,none⟩)] w fun e w'=>e=.returned (.bool false)∧P w':=by
 have d:∀ W,Below w.heap.size w W→W.cell? ⟨S,o,none⟩=some (.slice ao n cap)∧W.cell? ⟨S,o+1,none⟩=some (.int .i64 R.steps)∧W.cell? ⟨S,o+2,none⟩=some (.int .i64 (R.seen:Int))∧W.cell? ⟨S,o+3,none⟩=some (.bool false):=fun W hW=>by
  have q:=h.below hW;exact⟨q.cM,q.cS,q.cN,by rw [←hc];exact q.cC⟩
 have te:(k.steps != R.steps)=true:=by simpa using e
 have j:=fun W (hW:Below w.heap.size w W)=>zbI (X.below hW X.lt);clear e hc;go_enter Tryz.func135,Tryz.ntmps135;go_wp2;refine zad 6 (fun W=>Below w.heap.size w W) (Below.refl _ _).drew (by kernel_rfl) (by kernel_rfl) ?_;simp only [List.take_succ_cons,List.take_zero,List.drop_succ_cons,List.drop_zero];iterate 1 (refine zab rfl ?_ (fun W hW=>?_) ?_;rotate_left 1;· (obtain⟨r,s,t,u⟩:=d W hW;go_simp;with_reducible rfl))
 refine zaJ rfl 134 #[.pointer (some ⟨b,0,none⟩)] (.int .i64 k.steps) (fun W hW=>?_) (fun W hW=>(zbI (X.below hW X.lt)).mono (fun e w' hh=>⟨hh.1,by rw [hh.2];exact hW⟩)) ?_
 ·go_simp
 iterate 4 (refine zab rfl ?_ (fun W hW=>?_) ?_;rotate_left 1;· (obtain⟨r,s,t,u⟩:=d W hW;go_simp;with_reducible rfl))
 refine wpQuiet_nil ?_;intro W1 f;go_wp2;refine zad 15 (fun W=>Below w.heap.size w W) f.drew (by kernel_rfl) (by kernel_rfl) ?_;simp only [List.take_succ_cons,List.take_zero,List.drop_succ_cons,List.drop_zero];iterate 5 (refine zab rfl ?_ (fun W hW=>?_) ?_;rotate_left 1;· (obtain⟨r,s,t,u⟩:=d W hW;go_simp;with_reducible rfl))
 simp only [Act.put,List.setIfInBounds_toArray,List.set_cons_zero,List.set_cons_succ];iterate 10 go_big_quiet_skip
 refine wpQuiet_nil ?_;intro p a;have c:=j p a;have g:=hg p a;go_wp2_with(first
  | (go_at_call 134;(with_reducible refine c.mono ?_);rintro e wx ⟨rfl,m⟩;have l:=m.symm;subst l)
  | (go_at_call 151;(with_reducible refine g.mono ?_);rintro e y ⟨rfl,x⟩;have i:=hs y x)
  | (go_at_call 152;(with_reducible refine i.mono ?_);rintro e wz ⟨rfl,v⟩))
 go_ret;exact⟨rfl,v⟩
end Go.Proofs.YtfpgjkbjbbgciaaGreatDoor
