import Derived.Test.YtfpgjkbjbbgciaaGreatDoorMi36
set_option maxRecDepth 100000
set_option maxHeartbeats 8000000
namespace Go.Proofs.YtfpgjkbjbbgciaaGreatDoor
open Go.RowKit Sp
theorem zyu{w W5 W:World}{S o B g cap cap':Nat}{ao:Option Addr}{R:Rs}{m:Mk}(A5:RsC W5 S o (.slice (some ⟨g,0,none⟩) (R.marked.length+1) cap') ⟨R.marked++[m],R.steps,R.seen,R.covers⟩)
  (K5:Kept4 w W5 S o (Value.slice ao R.marked.length cap).ownBlock) (O5:W5.ownsRow B 217 51 (.slice (some ⟨g,0,none⟩) (R.marked.length+1) cap') (R.marked.length+1) (zbh (R.marked++[m]))) (F5:∀ q,(Value.slice (some ⟨g,0,none⟩) (R.marked.length+1) cap').ownBlock=some q→(Value.slice ao R.marked.length cap).ownBlock=some q∨w.heap.size≤q)
  (hm:zbC R.steps=true) (hS:S<w.heap.size) (hmS:(Value.slice ao R.marked.length cap).ownBlock≠some S) (hW:Below W5.heap.size W5 W) :
  zda w S o B (.slice ao R.marked.length cap) (R.see m) (.returned (.tuple #[])) ((W.setCell ⟨S,o+3,none⟩ (.bool false)).setCell ⟨S,o+2,none⟩ (.int .i64 ((R.seen:Int)+1))):=by
 have hS5:S<W5.heap.size:=World.block_lt_of_cell? _ _ A5.cM
 have q:=A5.below hW
 have q1:RsC (W.setCell ⟨S,o+3,none⟩ (.bool false)) S o (.slice (some ⟨g,0,none⟩) (R.marked.length+1) cap') ⟨R.marked++[m],R.steps,R.seen,false⟩:=q.set (o+3) _ _ q.cC (by rw [if_neg (by omega)]) (by rw [if_neg (by omega)]) (by rw [if_neg (by omega)]) (by rw [if_pos rfl])
 have q2:RsC ((W.setCell ⟨S,o+3,none⟩ (.bool false)).setCell ⟨S,o+2,none⟩ (.int .i64 ((R.seen:Int)+1))) S o (.slice (some ⟨g,0,none⟩) (R.marked.length+1) cap') ⟨R.marked++[m],R.steps,R.seen+1,false⟩:=q1.set (o+2) _ _ q1.cN (by rw [if_neg (by omega)]) (by rw [if_neg (by omega)]) (by rw [if_pos rfl];go_num) (by rw [if_neg (by omega)])
 have eR:R.see m=⟨R.marked++[m],R.steps,R.seen+1,false⟩:=by unfold Rs.see;rw [hm];simp
 have hgl:=(O5.lt g rfl).2
 have hgS:¬g=S:=fun e=>by
  rcases F5 g rfl with e2|e2
  ·exact hmS (by rw [e2,e])
  ·omega
 refine⟨rfl,.slice (some ⟨g,0,none⟩) (R.marked.length+1) cap',by rw [eR];exact q2,?_,F5,K5.trans ((zc7 hS5 hW).trans ((zcn q.cC (by omega)).trans (zcn q1.cN (by omega))))⟩
 rw [eR]
 show World.ownsRow _ B 217 51 _ (R.marked++[m]).length _
 rw [List.length_append]
 refine zcc O5 (fun q hq=>?_)
 have eq:g=q:=by have:some g=some q:=hq;simpa using this
 subst eq
 exact(Below.heap_setCell _ _ _ g hgS).trans ((Below.heap_setCell _ _ _ g hgS).trans (hW.block g hgl))
theorem zww{w:World}{S o B cap:Nat}{ao:Option Addr}{R:Rs}{x:Wy}(h:RsC w S o (.slice ao R.marked.length cap) R)(fz:∀ j,w.frozen? ⟨S,j,none⟩=false)(hm:zbC R.steps=true)(s0:0≤R.steps)(s1:R.steps≤100000)(M:w.ownsRow B 217 51 (.slice ao R.marked.length cap) R.marked.length (zbh R.marked))(X:WyM w x)(hB:B≤w.heap.size)(hmS:(Value.slice ao R.marked.length cap).ownBlock≠some S)(hl:R.marked.length≤500000)(hn:R.seen≤500000):
  Calls Tryz.prog 152 #[.pointer (some ⟨S,o,none⟩),.pointer (some ⟨x.b,0,none⟩)] w (zda w S o B (.slice ao R.marked.length cap) (R.see ⟨x.ao,x.cap,x.k⟩)):=by
 have hS:S<w.heap.size:=World.block_lt_of_cell? w _ h.cM
 have hmk0:Calls Tryz.prog 167 #[.pointer (some ⟨S,o,none⟩)] w fun e w'=>e=.returned (.bool true)∧Below w.heap.size w w':=by
  have:=zc6 h.cS s0 s1
  rw [hm] at this;exact this
 obtain⟨i0,z0,hi0,hz0,hz1,hz2,hz3⟩:=zk5
 have hkc:(zaT (.slice x.ao x.k.behind.length x.cap) x.k).length=51:=zdr _ _
 have hrow:∀ W,Below w.heap.size w W→W.rangeAt x.b 0 (zaT (.slice x.ao x.k.behind.length x.cap) x.k):=fun W hW=>(X.below hW).kn.cells'
 have hone:∀ u∈zaT (.slice x.ao x.k.behind.length x.cap) x.k,u.oneCell'=true:=znK
 have hmc:Hid (zbh R.marked++zaT (.slice x.ao x.k.behind.length x.cap) x.k=zbh (R.marked++[⟨x.ao,x.cap,x.k⟩])):=(zmc R.marked ⟨x.ao,x.cap,x.k⟩).symm
 generalize hcs:zaT (.slice x.ao x.k.behind.length x.cap) x.k=cs at hkc hrow hone hmc
 clear hcs
 have HF:∀ W,Below w.heap.size w W→W.cell? ⟨S,o,none⟩=some (.slice ao R.marked.length cap):=fun W hW=>(h.below hW).cM
 have hi51:(Tryz.prog.info? 217).map (·.size)=some cs.length:=by rw [hkc];exact Tryz.size217
 have hu:Tryz.prog.underlying 217=some (.struct _):=Tryz.underlying217
 go_enter Tryz.func152,Tryz.ntmps152
 go_wp2_with(go_at_call 167;(with_reducible refine hmk0.mono ?_);rintro e wx ⟨rfl,hbx⟩)
 have hbd:Below w.heap.size w wx.drew:=hbx.drew
 have f1:=HF _ hbd
 have hrd:=hrow _ hbd
 refine wp_region_any (by kernel_rfl) ?_
 change wpAny _ _ _ _ _ _ _ (World.drew _)
 refine wpAny_take (i:=0) (v:=?_) rfl (by kernel_rfl) (by kernel_rfl) (by kernel_rfl) (fun _ _ _ h=>h) (Or.inl ⟨by rfl,?_⟩) ?_
 rotate_left 1
 ·intro w;go_simp;with_reducible rfl
 simp only [List.getElem_toArray,List.getElem_cons_zero,Act.put,List.setIfInBounds_toArray,List.set_cons_zero,List.set_cons_succ]
 refine wpAny_take (i:=1) (v:=?_) rfl (by kernel_rfl) (by kernel_rfl) (by kernel_rfl) (fun _ _ _ h=>h) (Or.inl ⟨by rfl,?_⟩) ?_
 rotate_left 1
 ·intro w;go_simp;with_reducible rfl
 simp only [List.getElem_toArray,List.getElem_cons_zero,List.getElem_cons_succ,Act.put,List.setIfInBounds_toArray,List.set_cons_zero,List.set_cons_succ]
 refine wpAny_take (i:=2) (v:=?_) rfl (by kernel_rfl) (by kernel_rfl) (by kernel_rfl) (fun _ _ _ h=>h) (Or.inl ⟨by rfl,?_⟩) ?_
 rotate_left 1
 ·intro w;go_simp;with_reducible rfl
 simp only [List.getElem_toArray,List.getElem_cons_zero,List.getElem_cons_succ,Act.put,List.setIfInBounds_toArray,List.set_cons_zero,List.set_cons_succ]
 refine wpAny_take (i:=3) (v:=?_) rfl (by kernel_rfl) (by kernel_rfl) (by kernel_rfl) (fun _ _ _ h=>h) (Or.inl ⟨by rfl,?_⟩) ?_
 rotate_left 1
 ·intro w;go_simp;with_reducible rfl
 simp only [List.getElem_toArray,List.getElem_cons_zero,List.getElem_cons_succ,Act.put,List.setIfInBounds_toArray,List.set_cons_zero,List.set_cons_succ]
 refine wpAny_take (i:=5) (v:=?_) rfl (by kernel_rfl) (by kernel_rfl) (by kernel_rfl) (fun _ _ _ h=>h) (Or.inl ⟨by rfl,?_⟩) ?_
 rotate_left 1
 ·intro w;go_simp;with_reducible rfl
 simp only [List.getElem_toArray,List.getElem_cons_zero,List.getElem_cons_succ,Act.put,List.setIfInBounds_toArray,List.set_cons_zero,List.set_cons_succ]
 refine wpAny_take (i:=6) (v:=?_) rfl (by kernel_rfl) (by kernel_rfl) (by kernel_rfl) (fun _ _ _ h=>h) (Or.inl ⟨by rfl,?_⟩) ?_
 rotate_left 1
 ·intro w;go_simp;with_reducible rfl
 simp only [List.getElem_toArray,List.getElem_cons_zero,List.getElem_cons_succ,Act.put,List.setIfInBounds_toArray,List.set_cons_zero,List.set_cons_succ]
 have hal:∀ o,Below w.heap.size w (wx.drew.alloc o):=fun o=>hbd.alloc hbd.size o
 have f2:=HF _ (hal (.cells cs.toArray 217))
 have f3:(wx.alloc (.cells cs.toArray 217)).cell? ⟨S,o,none⟩=some (.slice ao R.marked.length cap):=f2
 have fz2:∀ j,(wx.drew.alloc (.cells cs.toArray 217)).frozen? ⟨S,j,none⟩=false:=fun j=>(World.frozen?_of_block (a:=⟨S,j,none⟩) ((hal _).block S hS)).trans (fz j)
 refine zt8 4 7 (by kernel_rfl) rfl rfl (.slice ao R.marked.length cap) wx.drew (by go_simp) ?_ rfl rfl (.agg cs.toArray) wx.drew (zhh 217 _ rfl x.b 0 rfl cs _ hrd hu rfl hi51) ?_
 simp only [List.getElem_toArray,List.getElem_cons_zero,List.getElem_cons_succ,Act.put,List.setIfInBounds_toArray,List.set_cons_zero,List.set_cons_succ]
 refine zds 7 (by kernel_rfl) rfl rfl (.agg cs.toArray) wx.drew (zhh 217 _ rfl x.b 0 rfl cs _ hrd hu rfl hi51) ?_
 simp only [List.getElem_toArray,List.getElem_cons_zero,List.getElem_cons_succ,Act.put,List.setIfInBounds_toArray,List.set_cons_zero,List.set_cons_succ]
 refine zds 8 (by kernel_rfl) rfl rfl (.slice (some ⟨wx.drew.heap.size,0,none⟩) 1 1) (wx.drew.alloc (.cells cs.toArray 217)) (zeg _ rfl cs rfl hkc _) ?_
 simp only [List.getElem_toArray,List.getElem_cons_zero,List.getElem_cons_succ,Act.put,List.setIfInBounds_toArray,List.set_cons_zero,List.set_cons_succ]
 rotate_left 1
 simp only [List.getElem_toArray,List.getElem_cons_zero,List.getElem_cons_succ,Act.put,List.setIfInBounds_toArray,List.set_cons_zero,List.set_cons_succ]
 refine zt8 4 8 (by kernel_rfl) rfl rfl (.slice ao R.marked.length cap) wx.drew (by go_simp) ?_ rfl rfl (.slice (some ⟨wx.drew.heap.size,0,none⟩) 1 1) (wx.drew.alloc (.cells cs.toArray 217)) (zeg _ rfl cs rfl hkc _) ?_
 simp only [List.getElem_toArray,List.getElem_cons_zero,List.getElem_cons_succ,Act.put,List.setIfInBounds_toArray,List.set_cons_zero,List.set_cons_succ]
 refine zds 8 (by kernel_rfl) rfl rfl (.slice (some ⟨wx.drew.heap.size,0,none⟩) 1 1) (wx.drew.alloc (.cells cs.toArray 217)) (zeg _ rfl cs rfl hkc _) ?_
 simp only [List.getElem_toArray,List.getElem_cons_zero,List.getElem_cons_succ,Act.put,List.setIfInBounds_toArray,List.set_cons_zero,List.set_cons_succ]
 rotate_left 1
 simp only [List.getElem_toArray,List.getElem_cons_zero,List.getElem_cons_succ,Act.put,List.setIfInBounds_toArray,List.set_cons_zero,List.set_cons_succ]
 refine zds 4 (by kernel_rfl) rfl rfl (.slice ao R.marked.length cap) (wx.drew.alloc (.cells cs.toArray 217)) (by go_simp) ?_
 simp only [List.getElem_toArray,List.getElem_cons_zero,List.getElem_cons_succ,Act.put,List.setIfInBounds_toArray,List.set_cons_zero,List.set_cons_succ]
 all_goals
  refine wpAny_ready (rs:=[9]) (by kernel_rfl) (by simp) (AllReady.cons rfl (fun K hK=>?_) AllReady.nil)
  refine step_append_lies _ rfl _ _ _ rfl B 217 i0 z0 51 424 Tryz.under152 hi0 hz0 hz1 hz2 hz3 (by omega) (.slice ao R.marked.length cap) R.marked.length (zbh R.marked) rfl (zcc M (fun q hq=>(hal _).block q (M.lt q hq).2)) ⟨wx.drew.heap.size,0,none⟩ 1 1 cs rfl (by rw [hkc]) (zyq wx.drew cs) hone (by omega) (by unfold maxLen;omega) (by omega) (Nat.le_trans hB (hal _).size) _ rfl ?_
  intro g cap' w4 hown4 hgrow hat hg4
  refine hK _ _ ?_
  clear hK
  simp only [List.getElem_toArray,List.getElem_cons_zero,List.getElem_cons_succ,Act.put,List.setIfInBounds_toArray,List.set_cons_zero,List.set_cons_succ]
  have hne:some S≠(Value.slice ao R.marked.length cap).ownBlock:=fun e=>hmS e.symm
  have hSx:S<(wx.drew.alloc (.cells cs.toArray 217)).heap.size:=Nat.lt_of_lt_of_le hS (hal _).size
  have c4:w4.cell? ⟨S,o,none⟩=some (.slice ao R.marked.length cap):=(World.cell?_of_block (a:=⟨S,o,none⟩) (hgrow.block S hSx hne)).trans f2
  have z4:w4.frozen? ⟨S,o,none⟩=false:=(World.frozen?_of_block (a:=⟨S,o,none⟩) (hgrow.block S hSx hne)).trans (fz2 o)
  refine zds 10 (by kernel_rfl) rfl rfl (.pointer (some ⟨S,o,none⟩)) (w4) ?_ ?_
  ·go_simp
  simp only [List.getElem_toArray,List.getElem_cons_zero,List.getElem_cons_succ,Act.put,List.setIfInBounds_toArray,List.set_cons_zero,List.set_cons_succ]
  refine zds 11 (by kernel_rfl) rfl rfl (.pointer (some ⟨S,o,none⟩)) (w4) ?_ ?_
  ·go_simp
  simp only [List.getElem_toArray,List.getElem_cons_zero,List.getElem_cons_succ,Act.put,List.setIfInBounds_toArray,List.set_cons_zero,List.set_cons_succ]
  refine zwr 12 (by kernel_rfl) rfl rfl (w4.setCell ⟨S,o,none⟩ (.slice (some ⟨g,0,none⟩) (R.marked.length+1) cap')) ?_ ?_
  ·go_simp
  simp only [List.getElem_toArray,List.getElem_cons_zero,List.getElem_cons_succ,Act.put]
  refine wpAny_done (by kernel_rfl) ?_ _
  have K4:Kept4 w w4 S o (Value.slice ao R.marked.length cap).ownBlock:=(zc7 hS (hal _)).trans (znM hSx hmS hgrow)
  have A4:RsC w4 S o (.slice ao R.marked.length cap) R:=by
   have e:∀ j,w4.cell? ⟨S,j,none⟩=w.cell? ⟨S,j,none⟩:=fun j=>(World.cell?_of_block (a:=⟨S,j,none⟩) (hgrow.block S hSx hne)).trans (World.cell?_of_block (a:=⟨S,j,none⟩) ((hal _).block S hS))
   exact⟨c4,(e _).trans h.cS,(e _).trans h.cN,(e _).trans h.cC⟩
  have A5:RsC (w4.setCell ⟨S,o,none⟩ (.slice (some ⟨g,0,none⟩) (R.marked.length+1) cap')) S o (.slice (some ⟨g,0,none⟩) (R.marked.length+1) cap') ⟨R.marked++[⟨x.ao,x.cap,x.k⟩],R.steps,R.seen,R.covers⟩:=A4.set o _ _ c4 (by rw [if_pos rfl]) (by rw [if_neg (by omega)]) (by rw [if_neg (by omega)]) (by rw [if_neg (by omega)])
  have K5:=K4.trans (zcn (o:=o) (hb:=(Value.slice ao R.marked.length cap).ownBlock) (v:=.slice (some ⟨g,0,none⟩) (R.marked.length+1) cap') c4 (by omega))
  have hgS:¬g=S:=by
   rcases hat with e|e
   ·intro e2;exact hmS (by rw [e,e2])
   ·omega
  have O5:(w4.setCell ⟨S,o,none⟩ (.slice (some ⟨g,0,none⟩) (R.marked.length+1) cap')).ownsRow B 217 51 (.slice (some ⟨g,0,none⟩) (R.marked.length+1) cap') (R.marked.length+1) (zbh (R.marked++[⟨x.ao,x.cap,x.k⟩])):=by
   rw [←hmc.out]
   exact zcc hown4 (fun q hq=>Below.heap_setCell _ _ _ q (fun e=>hgS (by cases hq;exact e)))
  have HX:Hid (Kept4 w (w4.setCell ⟨S,o,none⟩ (.slice (some ⟨g,0,none⟩) (R.marked.length+1) cap')) S o (Value.slice ao R.marked.length cap).ownBlock∧(w4.setCell ⟨S,o,none⟩ (.slice (some ⟨g,0,none⟩) (R.marked.length+1) cap')).ownsRow B 217 51 (.slice (some ⟨g,0,none⟩) (R.marked.length+1) cap') (R.marked.length+1) (zbh (R.marked++[⟨x.ao,x.cap,x.k⟩]))∧(∀ q,(Value.slice (some ⟨g,0,none⟩) (R.marked.length+1) cap').ownBlock=some q→(Value.slice ao R.marked.length cap).ownBlock=some q∨w.heap.size≤q)):=⟨K5,O5,fun q hq=>by
   have eq:g=q:=by have:some g=some q:=hq;simpa using this
   rcases hat with e|e
   ·exact .inl (by rw [e,eq])
   ·exact .inr (by have:=(hal (.cells cs.toArray 217)).size;omega)⟩
  have fz5:∀ j,(w4.setCell ⟨S,o,none⟩ (.slice (some ⟨g,0,none⟩) (R.marked.length+1) cap')).frozen? ⟨S,j,none⟩=false:=fun j=>(K5.fz j).trans (fz j)
  clear K4 A4 K5 O5 c4 z4 hgrow hown4 hat hne hSx hgS
  generalize w4.setCell ⟨S,o,none⟩ (.slice (some ⟨g,0,none⟩) (R.marked.length+1) cap')=W5 at A5 HX fz5 ⊢
  go_wp2
  have HE:∀ W,Below W5.heap.size W5 W→RsC W S o (.slice (some ⟨g,0,none⟩) (R.marked.length+1) cap') ⟨R.marked++[⟨x.ao,x.cap,x.k⟩],R.steps,R.seen,R.covers⟩∧∀ j,W.frozen? ⟨S,j,none⟩=false:=fun W hW=>⟨A5.below hW,fun j=>(World.frozen?_of_block (a:=⟨S,j,none⟩) (hW.block S (World.block_lt_of_cell? _ _ A5.cM))).trans (fz5 j)⟩
  have HEND:Hid (∀ W,Below W5.heap.size W5 W→zda w S o B (.slice ao R.marked.length cap) (R.see ⟨x.ao,x.cap,x.k⟩) (.returned (.tuple #[])) ((W.setCell ⟨S,o+3,none⟩ (.bool false)).setCell ⟨S,o+2,none⟩ (.int .i64 ((R.seen:Int)+1)))):=fun W hW=>zyu A5 HX.out.1 HX.out.2.1 HX.out.2.2 hm hS hmS hW
  have hmk5:∀ W,Below W5.heap.size W5 W→Calls Tryz.prog 167 #[.pointer (some ⟨S,o,none⟩)] W fun e w'=>e=.returned (.bool true)∧Below W5.heap.size W5 w':=fun W hW=>by
   have:=zc6 (HE W hW).1.cS s0 s1
   rw [show zbC (⟨R.marked++[⟨x.ao,x.cap,x.k⟩],R.steps,R.seen,R.covers⟩:Rs).steps=true from hm] at this
   exact this.mono fun e w' hh=>⟨hh.1,hW.trans (hh.2.mono hW.size)⟩
  clear HX A5 fz5 hmk0 hbx hbd f1 hrd hal f2 f3 fz2 hone hkc hi51 hmc HF hrow hi0 hz0 hz1 hz2 hz3 hu M X h hmS
  cases hcv:R.covers with
  | true =>
   have HF:∀ W,Below W5.heap.size W5 W→W.cell? ⟨S,o+3,none⟩=some (.bool true):=fun W hW=>by rw [←hcv];exact(HE W hW).1.cC
   refine zad 35 (fun W=>Below W5.heap.size W5 W) (Below.refl _ _).drew (by kernel_rfl) (by kernel_rfl) ?_
   simp only [List.take_succ_cons,List.take_zero,List.drop_succ_cons,List.drop_zero]
   iterate 6 (refine zab rfl ?_ (fun W hW=>?_) ?_;rotate_left 1;· (have q3:=HF W hW;go_simp;with_reducible rfl))
   simp only [Act.put,List.setIfInBounds_toArray,List.set_cons_zero,List.set_cons_succ]
   iterate 1 (go_big_quiet_want;rename_i K hK;refine⟨?_,fun W hW=>?_,hK _ ?_⟩;rotate_left 1;(· (unfold Oper.quietAt;go_simp;with_reducible rfl));clear hK K;simp only [Act.put,List.setIfInBounds_toArray,List.set_cons_zero,List.set_cons_succ])
   go_big_quiet_want;rename_i K hK;refine⟨.bool true,fun W hW=>?_,hK _ ?_⟩
   ·unfold Oper.quietAt;go_simp
   clear hK K
   simp only [Act.put,List.setIfInBounds_toArray,List.set_cons_zero,List.set_cons_succ]
   iterate 1 (go_big_quiet_want;rename_i K hK;refine⟨?_,fun W hW=>?_,hK _ ?_⟩;rotate_left 1;(· (unfold Oper.quietAt;go_simp;with_reducible rfl));clear hK K;simp only [Act.put,List.setIfInBounds_toArray,List.set_cons_zero,List.set_cons_succ])
   iterate 2 (refine zab rfl ?_ (fun W hW=>?_) ?_;rotate_left 1;· (have q3:=HF W hW;go_simp;with_reducible rfl))
   simp only [Act.put,List.setIfInBounds_toArray,List.set_cons_zero,List.set_cons_succ]
   iterate 10 go_big_quiet_skip
   iterate 2 (refine zab rfl ?_ (fun W hW=>?_) ?_;rotate_left 1;· (have q3:=HF W hW;go_simp;with_reducible rfl))
   simp only [Act.put,List.setIfInBounds_toArray,List.set_cons_zero,List.set_cons_succ]
   iterate 11 go_big_quiet_skip
   iterate 1 (refine zab rfl ?_ (fun W hW=>?_) ?_;rotate_left 1;· (have q3:=HF W hW;go_simp;with_reducible rfl))
   simp only [Act.put,List.setIfInBounds_toArray,List.set_cons_zero,List.set_cons_succ]
   refine wpQuiet_nil ?_
   intro W hW
   obtain⟨⟨d0,d1,d2,d3⟩,zz⟩:=HE W hW
   have z2:=zz (o+2)
   have z3:=zz (o+3)
   have hfin:=HEND.out W hW
   have hn0:(0:Int)≤(R.seen:Int):=by omega
   have hn1:(R.seen:Int)≤500000:=by omega
   simp only at d2 d3
   clear HE HEND hmk5
   go_wp2
   exact bodyPost_end (results_none rfl _ _ _) rfl hfin
  | false =>
   have HF:∀ W,Below W5.heap.size W5 W→W.cell? ⟨S,o+3,none⟩=some (.bool false):=fun W hW=>by rw [←hcv];exact(HE W hW).1.cC
   clear hmk5
   refine zad 35 (fun W=>Below W5.heap.size W5 W) (Below.refl _ _).drew (by kernel_rfl) (by kernel_rfl) ?_
   simp only [List.take_succ_cons,List.take_zero,List.drop_succ_cons,List.drop_zero]
   iterate 6 (refine zab rfl ?_ (fun W hW=>?_) ?_;rotate_left 1;· (have q3:=HF W hW;go_simp;with_reducible rfl))
   simp only [Act.put,List.setIfInBounds_toArray,List.set_cons_zero,List.set_cons_succ]
   iterate 3 go_big_quiet_skip
   iterate 2 (refine zab rfl ?_ (fun W hW=>?_) ?_;rotate_left 1;· (have q3:=HF W hW;go_simp;with_reducible rfl))
   simp only [Act.put,List.setIfInBounds_toArray,List.set_cons_zero,List.set_cons_succ]
   iterate 10 go_big_quiet_skip
   iterate 2 (refine zab rfl ?_ (fun W hW=>?_) ?_;rotate_left 1;· (have q3:=HF W hW;go_simp;with_reducible rfl))
   simp only [Act.put,List.setIfInBounds_toArray,List.set_cons_zero,List.set_cons_succ]
   iterate 11 go_big_quiet_skip
   iterate 1 (refine zab rfl ?_ (fun W hW=>?_) ?_;rotate_left 1;· (have q3:=HF W hW;go_simp;with_reducible rfl))
   simp only [Act.put,List.setIfInBounds_toArray,List.set_cons_zero,List.set_cons_succ]
   refine wpQuiet_nil ?_
   intro W hW
   obtain⟨⟨d0,d1,d2,d3⟩,zz⟩:=HE W hW
   have z2:=zz (o+2)
   have z3:=zz (o+3)
   have hfin:=HEND.out W hW
   have hn0:(0:Int)≤(R.seen:Int):=by omega
   have hn1:(R.seen:Int)≤500000:=by omega
   simp only at d2 d3
   clear HE HEND
   go_wp2
   exact bodyPost_end (results_none rfl _ _ _) rfl hfin
theorem znP{w W:World}{S o B cap:Nat}{ao:Option Addr}{R:Rs}{m:Mk}(h:RsC w S o (.slice ao R.marked.length cap) R)(M:w.ownsRow B 217 51 (.slice ao R.marked.length cap) R.marked.length (zbh R.marked))(hm:zbC R.steps=false)(hmS:(Value.slice ao R.marked.length cap).ownBlock≠some S)(hW:Below w.heap.size w W)(c:Bool)(hc:(R.covers&&(decide (R.seen<R.marked.length)&&zci m.k (R.marked.getD R.seen mk0).k))=c):
  zda w S o B (.slice ao R.marked.length cap) (R.see m) (.returned (.tuple #[])) ((W.setCell ⟨S,o+3,none⟩ (.bool c)).setCell ⟨S,o+2,none⟩ (.int .i64 ((R.seen:Int)+1))):=by
 have hS5:S<w.heap.size:=World.block_lt_of_cell? _ _ h.cM
 have q:=h.below hW
 have q1:RsC (W.setCell ⟨S,o+3,none⟩ (.bool c)) S o (.slice ao R.marked.length cap) ⟨R.marked,R.steps,R.seen,c⟩:=q.set (o+3) _ _ q.cC (by rw [if_neg (by omega)]) (by rw [if_neg (by omega)]) (by rw [if_neg (by omega)]) (by rw [if_pos rfl])
 have q2:RsC ((W.setCell ⟨S,o+3,none⟩ (.bool c)).setCell ⟨S,o+2,none⟩ (.int .i64 ((R.seen:Int)+1))) S o (.slice ao R.marked.length cap) ⟨R.marked,R.steps,R.seen+1,c⟩:=q1.set (o+2) _ _ q1.cN (by rw [if_neg (by omega)]) (by rw [if_neg (by omega)]) (by rw [if_pos rfl];go_num) (by rw [if_neg (by omega)])
 have eR:R.see m=⟨R.marked,R.steps,R.seen+1,c⟩:=by unfold Rs.see;rw [hm,←hc];simp
 refine⟨rfl,.slice ao R.marked.length cap,by rw [eR];exact q2,?_,fun q hq=>.inl hq,(zc7 hS5 hW).trans ((zcn q.cC (by omega)).trans (zcn q1.cN (by omega)))⟩
 rw [eR]
 refine zcc M (fun g hg=>?_)
 have hgS:¬g=S:=fun e=>hmS (by rw [hg,e])
 exact(Below.heap_setCell _ _ _ g hgS).trans ((Below.heap_setCell _ _ _ g hgS).trans (hW.block g (M.lt g hg).2))
theorem zqS{w:World}{S o B cap:Nat}{ao:Option Addr}{R:Rs}{x:Wy}(h:RsC w S o (.slice ao R.marked.length cap) R)(fz:∀ j,w.frozen? ⟨S,j,none⟩=false)(hm:zbC R.steps=false)(s0:0≤R.steps)(s1:R.steps≤100000)(M:w.ownsRow B 217 51 (.slice ao R.marked.length cap) R.marked.length (zbh R.marked))(hmS:(Value.slice ao R.marked.length cap).ownBlock≠some S)(hl:R.marked.length≤500000)(hn:R.seen≤500000)(hcv:R.covers=false):
  Calls Tryz.prog 152 #[.pointer (some ⟨S,o,none⟩),.pointer (some ⟨x.b,0,none⟩)] w (zda w S o B (.slice ao R.marked.length cap) (R.see ⟨x.ao,x.cap,x.k⟩)):=by
 have eC:(R.covers&&(decide (R.seen<R.marked.length)&&zci x.k (R.marked.getD R.seen mk0).k))=false:=by rw [hcv];rfl
 have hS:S<w.heap.size:=World.block_lt_of_cell? w _ h.cM
 have hmk0:Calls Tryz.prog 167 #[.pointer (some ⟨S,o,none⟩)] w fun e w'=>e=.returned (.bool false)∧Below w.heap.size w w':=by
  have:=zc6 h.cS s0 s1
  rw [hm] at this;exact this
 have hmk:∀ W,Below w.heap.size w W→Calls Tryz.prog 167 #[.pointer (some ⟨S,o,none⟩)] W fun e w'=>e=.returned (.bool false)∧Below w.heap.size w w':=fun W hW=>by
  have:=zc6 (h.below hW).cS s0 s1
  rw [hm] at this
  exact this.mono fun e w' hh=>⟨hh.1,hW.trans (hh.2.mono hW.size)⟩
 have HE:∀ W,Below w.heap.size w W→RsC W S o (.slice ao R.marked.length cap) R∧∀ j,W.frozen? ⟨S,j,none⟩=false:=fun W hW=>⟨h.below hW,fun j=>(World.frozen?_of_block (a:=⟨S,j,none⟩) (hW.block S hS)).trans (fz j)⟩
 have HEND:∀ W,Below w.heap.size w W→zda w S o B (.slice ao R.marked.length cap) (R.see ⟨x.ao,x.cap,x.k⟩) (.returned (.tuple #[])) ((W.setCell ⟨S,o+3,none⟩ (.bool false)).setCell ⟨S,o+2,none⟩ (.int .i64 ((R.seen:Int)+1))):=fun W hW=>znP h M hm hmS hW false eC
 have hn0:(0:Int)≤(R.seen:Int):=by omega
 have hn1:(R.seen:Int)≤500000:=by omega
 have hl1:(R.marked.length:Int)≤500000:=by omega
 have HF:∀ W,Below w.heap.size w W→W.cell? ⟨S,o,none⟩=some (.slice ao R.marked.length cap)∧W.cell? ⟨S,o+2,none⟩=some (.int .i64 (R.seen:Int))∧W.cell? ⟨S,o+3,none⟩=some (.bool false):=fun W hW=>by
  have q:=h.below hW
  exact⟨q.cM,q.cN,by rw [←hcv];exact q.cC⟩
 go_enter Tryz.func152,Tryz.ntmps152
 go_wp2_with(go_at_call 167;(with_reducible refine hmk0.mono ?_);rintro e wx ⟨rfl,hbx⟩)
 refine zad 35 (fun W=>Below w.heap.size w W) hbx.drew (by kernel_rfl) (by kernel_rfl) ?_
 simp only [List.take_succ_cons,List.take_zero,List.drop_succ_cons,List.drop_zero]
 iterate 6 (refine zab rfl ?_ (fun W hW=>?_) ?_;rotate_left 1;· (obtain⟨q0,q2,q3⟩:=HF W hW;go_simp;with_reducible rfl))
 simp only [Act.put,List.setIfInBounds_toArray,List.set_cons_zero,List.set_cons_succ]
 iterate 3 go_big_quiet_skip
 iterate 2 (refine zab rfl ?_ (fun W hW=>?_) ?_;rotate_left 1;· (obtain⟨q0,q2,q3⟩:=HF W hW;go_simp;with_reducible rfl))
 simp only [Act.put,List.setIfInBounds_toArray,List.set_cons_zero,List.set_cons_succ]
 iterate 10 go_big_quiet_skip
 iterate 2 (refine zab rfl ?_ (fun W hW=>?_) ?_;rotate_left 1;· (obtain⟨q0,q2,q3⟩:=HF W hW;go_simp;with_reducible rfl))
 simp only [Act.put,List.setIfInBounds_toArray,List.set_cons_zero,List.set_cons_succ]
 iterate 11 go_big_quiet_skip
 iterate 1 (refine zab rfl ?_ (fun W hW=>?_) ?_;rotate_left 1;· (obtain⟨q0,q2,q3⟩:=HF W hW;go_simp;with_reducible rfl))
 simp only [Act.put,List.setIfInBounds_toArray,List.set_cons_zero,List.set_cons_succ]
 refine wpQuiet_nil ?_
 intro W hW
 obtain⟨⟨d0,d1,d2,d3⟩,zz⟩:=HE W hW
 have z2:=zz (o+2)
 have z3:=zz (o+3)
 have hfin:=HEND W hW
 clear HE HEND HF hmk
 go_wp2
 exact bodyPost_end (results_none rfl _ _ _) rfl hfin
theorem zqT{w:World}{S o B cap:Nat}{ao:Option Addr}{R:Rs}{x:Wy}(h:RsC w S o (.slice ao R.marked.length cap) R)(fz:∀ j,w.frozen? ⟨S,j,none⟩=false)(hm:zbC R.steps=false)(s0:0≤R.steps)(s1:R.steps≤100000)(M:w.ownsRow B 217 51 (.slice ao R.marked.length cap) R.marked.length (zbh R.marked))(hmS:(Value.slice ao R.marked.length cap).ownBlock≠some S)(hl:R.marked.length≤500000)(hn:R.seen≤500000)(hcv:R.covers=true)(hge:¬R.seen<R.marked.length):
  Calls Tryz.prog 152 #[.pointer (some ⟨S,o,none⟩),.pointer (some ⟨x.b,0,none⟩)] w (zda w S o B (.slice ao R.marked.length cap) (R.see ⟨x.ao,x.cap,x.k⟩)):=by
 have eC:(R.covers&&(decide (R.seen<R.marked.length)&&zci x.k (R.marked.getD R.seen mk0).k))=false:=by rw [hcv];simp [hge]
 have hS:S<w.heap.size:=World.block_lt_of_cell? w _ h.cM
 have hmk0:Calls Tryz.prog 167 #[.pointer (some ⟨S,o,none⟩)] w fun e w'=>e=.returned (.bool false)∧Below w.heap.size w w':=by
  have:=zc6 h.cS s0 s1
  rw [hm] at this;exact this
 have hmk:∀ W,Below w.heap.size w W→Calls Tryz.prog 167 #[.pointer (some ⟨S,o,none⟩)] W fun e w'=>e=.returned (.bool false)∧Below w.heap.size w w':=fun W hW=>by
  have:=zc6 (h.below hW).cS s0 s1
  rw [hm] at this
  exact this.mono fun e w' hh=>⟨hh.1,hW.trans (hh.2.mono hW.size)⟩
 have HE:∀ W,Below w.heap.size w W→RsC W S o (.slice ao R.marked.length cap) R∧∀ j,W.frozen? ⟨S,j,none⟩=false:=fun W hW=>⟨h.below hW,fun j=>(World.frozen?_of_block (a:=⟨S,j,none⟩) (hW.block S hS)).trans (fz j)⟩
 have HEND:∀ W,Below w.heap.size w W→zda w S o B (.slice ao R.marked.length cap) (R.see ⟨x.ao,x.cap,x.k⟩) (.returned (.tuple #[])) ((W.setCell ⟨S,o+3,none⟩ (.bool false)).setCell ⟨S,o+2,none⟩ (.int .i64 ((R.seen:Int)+1))):=fun W hW=>znP h M hm hmS hW false eC
 have hn0:(0:Int)≤(R.seen:Int):=by omega
 have hn1:(R.seen:Int)≤500000:=by omega
 have hl1:(R.marked.length:Int)≤500000:=by omega
 have tl:decide ((R.seen:Int)<(R.marked.length:Int))=false:=by simpa using hge
 have HF:∀ W,Below w.heap.size w W→W.cell? ⟨S,o,none⟩=some (.slice ao R.marked.length cap)∧W.cell? ⟨S,o+2,none⟩=some (.int .i64 (R.seen:Int))∧W.cell? ⟨S,o+3,none⟩=some (.bool true):=fun W hW=>by
  have q:=h.below hW
  exact⟨q.cM,q.cN,by rw [←hcv];exact q.cC⟩
 go_enter Tryz.func152,Tryz.ntmps152
 go_wp2_with(go_at_call 167;(with_reducible refine hmk0.mono ?_);rintro e wx ⟨rfl,hbx⟩)
 refine zad 35 (fun W=>Below w.heap.size w W) hbx.drew (by kernel_rfl) (by kernel_rfl) ?_
 simp only [List.take_succ_cons,List.take_zero,List.drop_succ_cons,List.drop_zero]
 iterate 6 (refine zab rfl ?_ (fun W hW=>?_) ?_;rotate_left 1;· (obtain⟨q0,q2,q3⟩:=HF W hW;go_simp;with_reducible rfl))
 simp only [Act.put,List.setIfInBounds_toArray,List.set_cons_zero,List.set_cons_succ]
 iterate 1 (go_big_quiet_want;rename_i K hK;refine⟨?_,fun W hW=>?_,hK _ ?_⟩;rotate_left 1;(· (obtain⟨q0,q2,q3⟩:=HF W hW;unfold Oper.quietAt;go_simp;with_reducible rfl));clear hK K;simp only [Act.put,List.setIfInBounds_toArray,List.set_cons_zero,List.set_cons_succ])
 go_big_quiet_want;rename_i K hK;refine⟨.bool false,fun W hW=>?_,hK _ ?_⟩
 ·unfold Oper.quietAt;go_simp
 clear hK K
 simp only [Act.put,List.setIfInBounds_toArray,List.set_cons_zero,List.set_cons_succ]
 iterate 1 (go_big_quiet_want;rename_i K hK;refine⟨?_,fun W hW=>?_,hK _ ?_⟩;rotate_left 1;(· (obtain⟨q0,q2,q3⟩:=HF W hW;unfold Oper.quietAt;go_simp;with_reducible rfl));clear hK K;simp only [Act.put,List.setIfInBounds_toArray,List.set_cons_zero,List.set_cons_succ])
 iterate 2 (refine zab rfl ?_ (fun W hW=>?_) ?_;rotate_left 1;· (obtain⟨q0,q2,q3⟩:=HF W hW;go_simp;with_reducible rfl))
 simp only [Act.put,List.setIfInBounds_toArray,List.set_cons_zero,List.set_cons_succ]
 iterate 10 (go_big_quiet_want;rename_i K hK;refine⟨?_,fun W hW=>?_,hK _ ?_⟩;rotate_left 1;(· (obtain⟨q0,q2,q3⟩:=HF W hW;unfold Oper.quietAt;go_simp;with_reducible rfl));clear hK K;simp only [Act.put,List.setIfInBounds_toArray,List.set_cons_zero,List.set_cons_succ])
 iterate 2 (refine zab rfl ?_ (fun W hW=>?_) ?_;rotate_left 1;· (obtain⟨q0,q2,q3⟩:=HF W hW;go_simp;with_reducible rfl))
 simp only [Act.put,List.setIfInBounds_toArray,List.set_cons_zero,List.set_cons_succ]
 iterate 11 go_big_quiet_skip
 iterate 1 (refine zab rfl ?_ (fun W hW=>?_) ?_;rotate_left 1;· (obtain⟨q0,q2,q3⟩:=HF W hW;go_simp;with_reducible rfl))
 simp only [Act.put,List.setIfInBounds_toArray,List.set_cons_zero,List.set_cons_succ]
 refine wpQuiet_nil ?_
 intro W hW
 obtain⟨⟨d0,d1,d2,d3⟩,zz⟩:=HE W hW
 have z2:=zz (o+2)
 have z3:=zz (o+3)
 have hfin:=HEND W hW
 clear HE HEND HF hmk
 go_wp2
 exact bodyPost_end (results_none rfl _ _ _) rfl hfin
theorem zqU{w:World}{S o B cap:Nat}{ao:Option Addr}{R:Rs}{x:Wy}(h:RsC w S o (.slice ao R.marked.length cap) R)(fz:∀ j,w.frozen? ⟨S,j,none⟩=false)(hm:zbC R.steps=false)(s0:0≤R.steps)(s1:R.steps≤100000)(M:w.ownsRow B 217 51 (.slice ao R.marked.length cap) R.marked.length (zbh R.marked))(hmS:(Value.slice ao R.marked.length cap).ownBlock≠some S)(hl:R.marked.length≤500000)(hn:R.seen≤500000)(hcv:R.covers=true)(hlt:R.seen<R.marked.length)(c:Bool)(hcc:zci x.k (R.marked.getD R.seen mk0).k=c)(hK:∀ g,ao=some ⟨g,0,none⟩→∀ W,Below w.heap.size w W→Calls Tryz.prog 168 #[.pointer (some ⟨x.b,0,none⟩),.pointer (some ⟨g,R.seen*51,none⟩)] W fun e w'=>e=.returned (.bool c)∧Below w.heap.size w w'):
  Calls Tryz.prog 152 #[.pointer (some ⟨S,o,none⟩),.pointer (some ⟨x.b,0,none⟩)] w (zda w S o B (.slice ao R.marked.length cap) (R.see ⟨x.ao,x.cap,x.k⟩)):=by
 have eC:(R.covers&&(decide (R.seen<R.marked.length)&&zci x.k (R.marked.getD R.seen mk0).k))=c:=by rw [hcv,hcc];simp [hlt]
 have hS:S<w.heap.size:=World.block_lt_of_cell? w _ h.cM
 have hmk0:Calls Tryz.prog 167 #[.pointer (some ⟨S,o,none⟩)] w fun e w'=>e=.returned (.bool false)∧Below w.heap.size w w':=by
  have:=zc6 h.cS s0 s1
  rw [hm] at this;exact this
 have hmk:∀ W,Below w.heap.size w W→Calls Tryz.prog 167 #[.pointer (some ⟨S,o,none⟩)] W fun e w'=>e=.returned (.bool false)∧Below w.heap.size w w':=fun W hW=>by
  have:=zc6 (h.below hW).cS s0 s1
  rw [hm] at this
  exact this.mono fun e w' hh=>⟨hh.1,hW.trans (hh.2.mono hW.size)⟩
 have HE:∀ W,Below w.heap.size w W→RsC W S o (.slice ao R.marked.length cap) R∧∀ j,W.frozen? ⟨S,j,none⟩=false:=fun W hW=>⟨h.below hW,fun j=>(World.frozen?_of_block (a:=⟨S,j,none⟩) (hW.block S hS)).trans (fz j)⟩
 have HEND:∀ W,Below w.heap.size w W→zda w S o B (.slice ao R.marked.length cap) (R.see ⟨x.ao,x.cap,x.k⟩) (.returned (.tuple #[])) ((W.setCell ⟨S,o+3,none⟩ (.bool c)).setCell ⟨S,o+2,none⟩ (.int .i64 ((R.seen:Int)+1))):=fun W hW=>znP h M hm hmS hW c eC
 have hn0:(0:Int)≤(R.seen:Int):=by omega
 have hn1:(R.seen:Int)≤500000:=by omega
 have hl1:(R.marked.length:Int)≤500000:=by omega
 have tl:(R.seen:Int)<(R.marked.length:Int):=by omega
 obtain⟨g,cap2,hv,_,_⟩:=M.form (by omega)
 simp only [Value.slice.injEq,true_and] at hv
 obtain⟨rfl,rfl⟩:=hv
 have hK2:=hK g rfl
 clear hK hcc eC
 have HF:∀ W,Below w.heap.size w W→W.cell? ⟨S,o,none⟩=some (.slice (some ⟨g,0,none⟩) R.marked.length cap)∧W.cell? ⟨S,o+2,none⟩=some (.int .i64 (R.seen:Int))∧W.cell? ⟨S,o+3,none⟩=some (.bool true):=fun W hW=>by
  have q:=h.below hW
  exact⟨q.cM,q.cN,by rw [←hcv];exact q.cC⟩
 go_enter Tryz.func152,Tryz.ntmps152
 go_wp2_with(go_at_call 167;(with_reducible refine hmk0.mono ?_);rintro e wx ⟨rfl,hbx⟩)
 refine zad 35 (fun W=>Below w.heap.size w W) hbx.drew (by kernel_rfl) (by kernel_rfl) ?_
 simp only [List.take_succ_cons,List.take_zero,List.drop_succ_cons,List.drop_zero]
 iterate 6 (refine zab rfl ?_ (fun W hW=>?_) ?_;rotate_left 1;· (obtain⟨q0,q2,q3⟩:=HF W hW;go_simp;with_reducible rfl))
 simp only [Act.put,List.setIfInBounds_toArray,List.set_cons_zero,List.set_cons_succ]
 iterate 1 (go_big_quiet_want;rename_i K hK;refine⟨?_,fun W hW=>?_,hK _ ?_⟩;rotate_left 1;(· (obtain⟨q0,q2,q3⟩:=HF W hW;unfold Oper.quietAt;go_simp;with_reducible rfl));clear hK K;simp only [Act.put,List.setIfInBounds_toArray,List.set_cons_zero,List.set_cons_succ])
 go_big_quiet_want;rename_i K hK;refine⟨.bool false,fun W hW=>?_,hK _ ?_⟩
 ·unfold Oper.quietAt;go_simp
 clear hK K
 simp only [Act.put,List.setIfInBounds_toArray,List.set_cons_zero,List.set_cons_succ]
 iterate 1 (go_big_quiet_want;rename_i K hK;refine⟨?_,fun W hW=>?_,hK _ ?_⟩;rotate_left 1;(· (obtain⟨q0,q2,q3⟩:=HF W hW;unfold Oper.quietAt;go_simp;with_reducible rfl));clear hK K;simp only [Act.put,List.setIfInBounds_toArray,List.set_cons_zero,List.set_cons_succ])
 iterate 2 (refine zab rfl ?_ (fun W hW=>?_) ?_;rotate_left 1;· (obtain⟨q0,q2,q3⟩:=HF W hW;go_simp;with_reducible rfl))
 simp only [Act.put,List.setIfInBounds_toArray,List.set_cons_zero,List.set_cons_succ]
 iterate 10 (go_big_quiet_want;rename_i K hK;refine⟨?_,fun W hW=>?_,hK _ ?_⟩;rotate_left 1;(· (obtain⟨q0,q2,q3⟩:=HF W hW;unfold Oper.quietAt;go_simp;with_reducible rfl));clear hK K;simp only [Act.put,List.setIfInBounds_toArray,List.set_cons_zero,List.set_cons_succ])
 iterate 2 (refine zab rfl ?_ (fun W hW=>?_) ?_;rotate_left 1;· (obtain⟨q0,q2,q3⟩:=HF W hW;go_simp;with_reducible rfl))
 simp only [Act.put,List.setIfInBounds_toArray,List.set_cons_zero,List.set_cons_succ]
 iterate 10 (go_big_quiet_want;rename_i K hK;refine⟨?_,fun W hW=>?_,hK _ ?_⟩;rotate_left 1;(· (obtain⟨q0,q2,q3⟩:=HF W hW;unfold Oper.quietAt;go_simp;with_reducible rfl));clear hK K;simp only [Act.put,List.setIfInBounds_toArray,List.set_cons_zero,List.set_cons_succ])
 go_big_quiet_want;rename_i K hK;refine⟨.bool c,fun W hW=>?_,hK _ ?_⟩
 ·unfold Oper.quietAt;go_simp
 clear hK K
 simp only [Act.put,List.setIfInBounds_toArray,List.set_cons_zero,List.set_cons_succ]
 iterate 1 (refine zab rfl ?_ (fun W hW=>?_) ?_;rotate_left 1;· (obtain⟨q0,q2,q3⟩:=HF W hW;go_simp;with_reducible rfl))
 simp only [Act.put,List.setIfInBounds_toArray,List.set_cons_zero,List.set_cons_succ]
 refine wpQuiet_nil ?_
 intro W hW
 obtain⟨⟨d0,d1,d2,d3⟩,zz⟩:=HE W hW
 have z2:=zz (o+2)
 have z3:=zz (o+3)
 have hfin:=HEND W hW
 clear HE HEND HF hmk
 go_wp2
 exact bodyPost_end (results_none rfl _ _ _) rfl hfin
end Go.Proofs.YtfpgjkbjbbgciaaGreatDoor
