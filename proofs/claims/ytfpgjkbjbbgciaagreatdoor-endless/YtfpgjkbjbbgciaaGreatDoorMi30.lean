import Derived.Test.YtfpgjkbjbbgciaaGreatDoorMi28
import Derived.Test.YtfpgjkbjbbgciaaGreatDoorMi29
set_option maxRecDepth 100000
set_option maxHeartbeats 8000000
namespace Go.Proofs.YtfpgjkbjbbgciaaGreatDoor
open Go.RowKit Sp
theorem znv{P:Program}{o:Oper}{a:Act}{C:World→Prop}{K:Act→Prop}(t:TypeId)(parts:Array (Nat × Operand))(ho:o.op=.build t parts)(cells:Array Value)(vs:List (Nat × Value))(hv:(parts.map fun(i,x)=>(i,a.eval x))=vs.toArray)(hb:P.built t vs=some cells)
  (h:K (a.put o.dst (.agg cells))):o.quiet P a C K:=by
 refine⟨_,fun w _=>?_,h⟩
 unfold Oper.quietAt execOp
 simp only [ho,hv,Sem.run_bind,run_build w t _ cells hb,Sem.run_pure,Result.andThen_ok]
 exact⟨rfl,rfl⟩
theorem znw(s f p e:Int)(ao:Option Addr)(n c:Nat)(x0 x1 x2 x3 x4 x5 x6 x7 y0 y1 y2 y3 y4 y5 y6 y7 y8 y9 y10 y11 y12 y13 y14 y15:Value):
  Tryz.prog.built 34 [(0,.int .i64 s),(1,.agg #[x0,x1,x2,x3,x4,x5,x6,x7]),(2,.agg #[y0,y1,y2,y3,y4,y5,y6,y7,y8,y9,y10,y11,y12,y13,y14,y15]),(3,.slice ao n c),(4,.int .i64 f),(5,.int .i64 p),(7,.int .i64 e)]
   = some #[.int .i64 s,x0,x1,x2,x3,x4,x5,x6,x7,y0,y1,y2,y3,y4,y5,y6,y7,y8,y9,y10,y11,y12,y13,y14,y15,.slice ao n c,.int .i64 f,.int .i64 p,.int .i64 0,.int .i64 e]:=by kernel_rfl
theorem znx(m:Mc)(ao:Option Addr)(n c:Nat):
  Tryz.prog.built 34 [(0,.int .i64 m.steps),(1,.agg ((List.range 8).map (fun i=>Value.int .i64 (m.regs i))).toArray),(2,.agg ((List.range 16).map (fun i=>Value.int .i64 (m.cells i))).toArray),(3,.slice ao n c),(4,.int .i64 m.frames),(5,.int .i64 m.peak),(7,.int .i64 m.fin)]
   = some (zaV m (.slice ao n c) 0).toArray:=by
 rw [show(List.range 8).map (fun i=>Value.int .i64 (m.regs i))=[.int .i64 (m.regs 0),.int .i64 (m.regs 1),.int .i64 (m.regs 2),.int .i64 (m.regs 3),.int .i64 (m.regs 4),.int .i64 (m.regs 5),.int .i64 (m.regs 6),.int .i64 (m.regs 7)] from rfl,
  show(List.range 16).map (fun i=>Value.int .i64 (m.cells i))=[.int .i64 (m.cells 0),.int .i64 (m.cells 1),.int .i64 (m.cells 2),.int .i64 (m.cells 3),.int .i64 (m.cells 4),.int .i64 (m.cells 5),.int .i64 (m.cells 6),.int .i64 (m.cells 7),.int .i64 (m.cells 8),.int .i64 (m.cells 9),.int .i64 (m.cells 10),.int .i64 (m.cells 11),.int .i64 (m.cells 12),.int .i64 (m.cells 13),.int .i64 (m.cells 14),.int .i64 (m.cells 15)] from rfl,znw]
 rfl
theorem zny(w:World)(b:Nat)(bv iv ov:Value)(m:Mc)(M:MchAt w b m bv iv ov)(hfr:m.frames=if m.fin=2 then 0 else(m.backs.length:Int)+1)(hfew:m.backs.length≤15):Calls Tryz.prog 110 #[.pointer (some ⟨b,0,none⟩)] w fun e w'=>e=.returned (.int .i64 m.frames)∧w'=w:=by
 by_cases h:m.fin=2
 ·rw [hfr,if_pos h];exact zmX w b bv iv ov m M.mem h
 ·rw [hfr,if_neg h]
  obtain⟨ao,c,rfl⟩:=zbb M.backs
  exact zeM w b _ c ao iv ov m M.mem (by omega) (by simpa using h)
theorem MchAt.drewN{w:World}{b:Nat}{m:Mc}{bv iv ov:Value}(h:MchAt w b m bv iv ov)(n:Nat):MchAt (w.drewN n) b m bv iv ov:=⟨h.mem.drewN n,h.backs,h.out,h.inp⟩
theorem MchAt.alloc{w:World}{b:Nat}{m:Mc}{bv iv ov:Value}(h:MchAt w b m bv iv ov)(x:Obj):MchAt (w.alloc x) b m bv iv ov :=
 (h.same (h.mem.alloc x) (World.grownBy_alloc w x _) rfl rfl rfl).1
theorem zqq(w:World)(b:Nat)(bv iv:Value)(ao:Option Addr)(no co:Nat)(m:Mc)(M:MchAt w b m bv iv (.slice ao no co))(hfr:m.frames=if m.fin=2 then 0 else(m.backs.length:Int)+1)(hfew:m.backs.length≤15):
  Calls Tryz.prog 86 #[.pointer (some ⟨b,0,none⟩)] w fun e w'=>e=.returned (.agg (zaV m (.slice ao no co) 0).toArray)∧Below w.heap.size w w':=by
 have M2:=M.alloc Z34
 have hfc:=fun n=>zny ((w.alloc Z34).drewN n) b bv iv _ m (M2.drewN n) hfr hfew
 have lg:=M.mem.lt
 have hne4:¬w.heap.size=b:=by omega
 have hne5:¬b=w.heap.size:=by omega
 have cS:=M2.mem.cS
 have cO:=M2.mem.cO
 have cP:=M2.mem.cP
 have cE:=M2.mem.cE
 have hRS:(w.alloc Z34).rangeAt b 0 ((List.range 8).map (fun i=>Value.int .i64 (m.regs i))):=fun j v hv=>by
  have hj:=(List.getElem?_eq_some_iff.1 hv).1
  simp at hj
  rw [Nat.zero_add,M2.mem.cR j hj,←hv]
  simp [hj]
 have hCS:(w.alloc Z34).rangeAt b 8 ((List.range 16).map (fun i=>Value.int .i64 (m.cells i))):=fun j v hv=>by
  have hj:=(List.getElem?_eq_some_iff.1 hv).1
  simp at hj
  rw [M2.mem.cC j hj,←hv]
  simp [hj]
 have hbuilt:=znx m ao no co
 have hl:=zbX m (.slice ao no co) 0
 have h1:=zcH m ao no co 0
 have hi31:(Tryz.prog.info? 31).map (·.size)=some ((List.range 8).map (fun i=>Value.int .i64 (m.regs i))).length:=by simp only [List.length_map,List.length_range];exact Tryz.info31
 have hi32:(Tryz.prog.info? 32).map (·.size)=some ((List.range 16).map (fun i=>Value.int .i64 (m.cells i))).length:=by simp only [List.length_map,List.length_range];exact Tryz.info32
 generalize (List.range 8).map (fun i=>Value.int .i64 (m.regs i))=RS at hRS hbuilt hi31
 generalize (List.range 16).map (fun i=>Value.int .i64 (m.cells i))=CS at hCS hbuilt hi32
 generalize zaV m (.slice ao no co) 0=ds at hbuilt hl h1 ⊢
 have hu31:Tryz.prog.underlying 31=some (.array _ _):=Tryz.underlying31
 have hu32:Tryz.prog.underlying 32=some (.array _ _):=Tryz.underlying32
 have ht:(w.alloc Z34).there w.heap.size 0 30:=zfS w
 have hinf:(Tryz.prog.info? 34).map (·.size)=some ds.toArray.size:=zcK ds hl
 go_enter Tryz.func86,Tryz.ntmps86
 go_wp2_with fail
 refine zam 27 (by kernel_rfl) (by kernel_rfl) ?_
 simp only [List.take_succ_cons,List.take_zero,List.drop_succ_cons,List.drop_zero]
 repeat(first
  | (refine BigFrame.wpQuiet_want rfl ?_;intro K hK;refine zfi 31 _ rfl b 0 rfl RS _ hRS hu31 rfl hi31 ?_;refine hK _ ?_;clear hK K;simp only [Act.put,List.setIfInBounds_toArray,List.set_cons_succ,List.set_cons_zero])
  | (refine BigFrame.wpQuiet_want rfl ?_;intro K hK;refine zfi 32 _ rfl b 8 rfl CS _ hCS hu32 rfl hi32 ?_;refine hK _ ?_;clear hK K;simp only [Act.put,List.setIfInBounds_toArray,List.set_cons_succ,List.set_cons_zero])
  | go_big_quiet_step (first|(go_at_call 110;exact Calls.quiet_of_same (hfc _))))
 refine BigFrame.wpQuiet_want rfl ?_
 intro K hK
 refine znv 34 _ rfl ds.toArray _ ?_ hbuilt ?_
 ·simp [Act.eval]
 refine hK _ ?_
 clear hK K
 simp only [Act.put,List.setIfInBounds_toArray,List.set_cons_succ,List.set_cons_zero]
 refine wpQuiet_nil ?_
 rintro _ ⟨nr,rfl⟩
 have ht2:((w.alloc Z34).drewN nr).there w.heap.size 0 ds.toArray.size:=by rw [show ds.toArray.size=30 by simp [hl]];exact ht
 have hb0:Below w.heap.size w ((w.alloc Z34).drewN nr):=((Below.refl w.heap.size w).alloc (Nat.le_refl _) _).trans ((zhQ _ nr).mono (by simp))
 generalize (w.alloc Z34).drewN nr=W at ht2 hb0 ⊢
 repeat(first
  | (refine wpList_store_mid rfl 34 _ _ rfl w.heap.size 0 ds.toArray rfl rfl ht2 hinf h1 ?_)
  | go_values|go_skip|go_guarded|go_step|go_upon|go_back)
 have hu34:Tryz.prog.underlying 34=some (.struct _):=Tryz.underlying34
 have hr:=World.rangeAt_setCells_same W w.heap.size 0 ds (by rw [show ds.length=ds.toArray.size by simp];exact ht2)
 have hres:=run_loadVar_mid (W.setCells w.heap.size 0 ds) w.heap.size 0 34 ds _ hr hu34 rfl (by rw [hl];exact Tryz.info34)
 exact bodyPost_ret (v:=.agg ds.toArray) (zdf Tryz.results86 _ ⟨w.heap.size,0,none⟩ rfl hres) rfl ⟨rfl,zaF ds 0 hb0 (Nat.le_refl _)⟩
theorem ztQ{l r:Rg}(hl:l.Ok)(hr:r.Ok)(h:ze6 l r=none)(h':zbk l r=none):False:=by
 unfold Rg.Ok at hl hr
 unfold ze6 at h
 unfold zbk at h'
 split at h
 ·split at h'
  ·omega
  ·cases h'
 ·cases h
theorem ztR{l r:Rg}(h:ze7 l r=none)(h':za8 l r=none):False:=by
 unfold ze7 at h
 unfold za8 at h'
 split at h
 ·cases h
 ·split at h'
  ·omega
  ·cases h'
theorem zmo{w:World}{b:Nat}{bv:Value}{k:Kn}(h:KnM w b bv k)(hbv:bv.oneCell'=true)(K:KnOk k)(l r:Nat)(hl:l<8)(hr:r<8)(hne:¬l=r)(z:Int)(h0:0≤k.steps)(h1:k.steps≤100000)(n0:0≤k.next)(n1:k.next≤100000):
  Calls Tryz.prog 270 #[.pointer (some ⟨b,0,none⟩),.int .i64 (l:Int),.int .i64 (r:Int),.func (.func 271) #[] #[],.func (.func 272) #[] #[],.int .i64 z] w (zc5 w b bv (zbr k l r ze6 zbk z)):=by
 have hF:=fun(q:Option (Rg × Rg)) (hq:ze6 (k.regs l) (k.regs r)=q) W b2 (hk:KnM W b2 bv k)=>zpn (F:=271) (fun _ _=>by kernel_rfl) hk l r hl hr hne q (fun W=>by rw [←hq];exact zwj _ _ W (K.regs l hl) (K.regs r hr))
 have hG:=fun(q:Option (Rg × Rg)) (hq:zbk (k.regs l) (k.regs r)=q) W b2 (hk:KnM W b2 bv k)=>zpn (F:=272) (fun _ _=>by kernel_rfl) hk l r hl hr hne q (fun W=>by rw [←hq];exact znC _ _ W)
 unfold zbr
 cases hh:ze6 (k.regs l) (k.regs r) with
 | none=>cases hf:zbk (k.regs l) (k.regs r) with
  | none=>exact(ztQ (K.regs l hl) (K.regs r hr) hh hf).elim
  | some p=>obtain⟨x,y⟩:=p;exact zi7 h hbv l r z x y (hF _ hh) (hG _ hf) h0 h1 n0 n1
 | some p =>
  obtain⟨x,y⟩:=p
  cases hf:zbk (k.regs l) (k.regs r) with
  | none=>exact zi6 h hbv l r z x y (hF _ hh) (hG _ hf) h0 h1
  | some p=>obtain⟨x',y'⟩:=p;exact zi8 h hbv l r z x y x' y' (hF _ hh) (hG _ hf) h0 h1 n0 n1
theorem zmp{w:World}{b:Nat}{bv:Value}{k:Kn}(h:KnM w b bv k)(hbv:bv.oneCell'=true)(K:KnOk k)(l r:Nat)(hl:l<8)(hr:r<8)(hne:¬l=r)(z:Int)(h0:0≤k.steps)(h1:k.steps≤100000)(n0:0≤k.next)(n1:k.next≤100000):
  Calls Tryz.prog 270 #[.pointer (some ⟨b,0,none⟩),.int .i64 (l:Int),.int .i64 (r:Int),.func (.func 276) #[] #[],.func (.func 277) #[] #[],.int .i64 z] w (zc5 w b bv (zbr k l r ze7 za8 z)):=by
 have hF:=fun(q:Option (Rg × Rg)) (hq:ze7 (k.regs l) (k.regs r)=q) W b2 (hk:KnM W b2 bv k)=>zpn (F:=276) (fun _ _=>by kernel_rfl) hk l r hl hr hne q (fun W=>by rw [←hq];exact zw2 _ _ W)
 have hG:=fun(q:Option (Rg × Rg)) (hq:za8 (k.regs l) (k.regs r)=q) W b2 (hk:KnM W b2 bv k)=>zpn (F:=277) (fun _ _=>by kernel_rfl) hk l r hl hr hne q (fun W=>by rw [←hq];exact znU _ _ W (K.regs l hl) (K.regs r hr))
 unfold zbr
 cases hh:ze7 (k.regs l) (k.regs r) with
 | none=>cases hf:za8 (k.regs l) (k.regs r) with
  | none=>exact(ztR hh hf).elim
  | some p=>obtain⟨x,y⟩:=p;exact zi7 h hbv l r z x y (hF _ hh) (hG _ hf) h0 h1 n0 n1
 | some p =>
  obtain⟨x,y⟩:=p
  cases hf:za8 (k.regs l) (k.regs r) with
  | none=>exact zi6 h hbv l r z x y (hF _ hh) (hG _ hf) h0 h1
  | some p=>obtain⟨x',y'⟩:=p;exact zi8 h hbv l r z x y x' y' (hF _ hh) (hG _ hf) h0 h1 n0 n1
theorem zfZ(w:World)(ao:Option Addr)(n cap:Nat)(_hn:n≤1000000):Calls Tryz.prog 114 #[.slice ao n cap] w fun e w'=>e=.returned (.int .i64 (n:Int))∧w'=w:=by
 go_enter Tryz.func114,Tryz.ntmps114
 go_wp2
 go_ret
 exact⟨rfl,rfl⟩
theorem zlM{w:World}{S o:Nat}{v:Value}:Below S w (w.setCell ⟨S,o,none⟩ v):=(Below.refl S w).setCell (p:=⟨S,o,none⟩) (Nat.le_refl _) v
theorem zth{w:World}{S:Nat}{ao:Option Addr}{n cap looks:Nat}(c1:w.cell? ⟨S,1,none⟩=some (.slice ao n cap))(c6:w.cell? ⟨S,6,none⟩=some (.int .i64 (looks:Int)))(fz:w.frozen? ⟨S,6,none⟩=false)(hl:looks<500000)(hn:n≤1000):
  Calls Tryz.prog 115 #[.pointer (some ⟨S,0,none⟩)] w fun e w'=>e=.returned (.tuple #[])∧w'=w.setCell ⟨S,6,none⟩ (.int .i64 ((looks:Int)+1)):=by
 have h1:(0:Int)≤(looks:Int):=by omega
 have h2:(looks:Int)<500000:=by omega
 have t1:decide ((500000:Int)<(looks:Int)+1)=false:=by simpa using (by omega:¬(500000:Int)<(looks:Int)+1)
 have t2:decide ((1000:Int)<(n:Int))=false:=by simpa using (by omega:¬(1000:Int)<(n:Int))
 have hlen:=fun W=>zfZ W ao n cap (by omega)
 go_enter Tryz.func115,Tryz.ntmps115
 go_wp2_with(go_at_call 114;(with_reducible refine(hlen _).mono ?_);rintro e wx ⟨rfl,hww⟩;have hw2:=hww.symm;subst hw2)
 exact bodyPost_end (results_none rfl _ _ _) rfl ⟨rfl,rfl⟩
theorem zti{w:World}{S:Nat}{ao:Option Addr}{n cap looks:Nat}(c1:w.cell? ⟨S,1,none⟩=some (.slice ao n cap))(c6:w.cell? ⟨S,6,none⟩=some (.int .i64 (looks:Int)))(fz:w.frozen? ⟨S,6,none⟩=false)(hl:looks≤500000)(hn:n≤100000)(h:500000≤looks∨1000<n):
  Calls Tryz.prog 115 #[.pointer (some ⟨S,0,none⟩)] w fun e w'=>e=zak 8 0∧Below S w w':=by
 have h1:(0:Int)≤(looks:Int):=by omega
 have hlen:=fun W=>zfZ W ao n cap (by omega)
 by_cases h5:looks=500000
 ·subst h5
  go_enter Tryz.func115,Tryz.ntmps115
  go_wp2_with(go_at_call 114;(with_reducible refine(hlen _).mono ?_);rintro e wx ⟨rfl,hww⟩;have hw2:=hww.symm;subst hw2)
  all_goals go_wp2
  exact⟨rfl,rfl,rfl,rfl,zlM⟩
 ·have h2:(looks:Int)<500000:=by omega
  have t1:decide ((500000:Int)<(looks:Int)+1)=false:=by simpa using (by omega:¬(500000:Int)<(looks:Int)+1)
  have t2:(1000:Int)<(n:Int):=by omega
  go_enter Tryz.func115,Tryz.ntmps115
  go_wp2_with(go_at_call 114;(with_reducible refine(hlen _).mono ?_);rintro e wx ⟨rfl,hww⟩;have hw2:=hww.symm;subst hw2)
  all_goals go_wp2
  exact⟨rfl,rfl,rfl,rfl,zlM⟩
theorem zka{w w2:World}{b:Nat}{bv:Value}{ks:List Kn}{e:Ending}{w':World}(hg:w.grownBy w2 (some b))(h:zc5 w2 b bv ks e w'):zc5 w b bv ks e w':=by
 obtain⟨ao,cap,ps,rfl,A⟩:=h
 refine⟨ao,cap,ps,rfl,⟨zae hg A.grown,fun i p hp=>?_,A.len,A.kn,A.nodup,fun p hp=>?_⟩⟩
 ·obtain⟨g,e,h1,h2⟩:=A.ptrs i p hp
  exact⟨g,e,Nat.le_trans hg.size h1,h2⟩
 ·rcases A.from' p hp with e|e
  ·exact .inl e
  ·exact .inr (Nat.le_trans hg.size e)
theorem znV{w:World}{b:Nat}{bv:Value}{k:Kn}(h:KnM w b bv k)(r:Nat)(h0:0≤k.steps)(h1:k.steps≤100000)(n0:0≤k.next)(n1:k.next≤100000):
  Calls Tryz.prog 263 #[.agg #[.int .i64 (r:Int)],.pointer (some ⟨b,0,none⟩)] w (zaQ w b bv (k.goTo (k.next+1))):=by
 have hK:=h.alloc (.cells #[.int .i64 (r:Int)] 182)
 go_enter Tryz.func263,Tryz.ntmps263
 go_wp2_with(go_at_call 227;(with_reducible refine(zcb hK h0 h1 n0 n1).mono ?_);intro e w6 hw6;have hw7:=zcX (zaJ (b:=some b) box1) hw6;clear hw6;obtain⟨g,rfl,hg,hc,hk,hgr⟩:=hw7)
 go_ret
 exact⟨g,rfl,hg,hc,hk,hgr⟩
theorem zrh{w:World}{b:Nat}{bv:Value}{k:Kn}(h:KnM w b bv k)(z:Int)(h0:0≤k.steps)(h1:k.steps≤100000):
  Calls Tryz.prog 266 #[.agg #[.int .i64 z],.pointer (some ⟨b,0,none⟩)] w (zaQ w b bv (k.goTo z)):=by
 have hK:=h.alloc (.cells #[.int .i64 z] 185)
 go_enter Tryz.func266,Tryz.ntmps266
 go_wp2_with(go_at_call 229;(with_reducible refine(zgb hK z h0 h1).mono ?_);intro e w6 hw6;have hw7:=zcX (zaJ (b:=some b) box1) hw6;clear hw6;obtain⟨g,rfl,hg,hc,hk,hgr⟩:=hw7)
 go_ret
 exact⟨g,rfl,hg,hc,hk,hgr⟩
theorem zri{w:World}(p:Value):Calls Tryz.prog 289 #[.agg #[],p] w fun e w'=>e=.returned (.slice none 0 0)∧Below w.heap.size w w':=by
 go_enter Tryz.func289,Tryz.ntmps289
 go_wp2
 go_ret
 exact⟨rfl,box1⟩
theorem zrj{w:World}{b cap:Nat}{ao:Option Addr}{k:Kn}(h:KnM w b (.slice ao k.behind.length cap) k)(B:BhM w ao cap k.behind)(z:Int)(hlen:k.behind.length<15)(h0:0≤k.steps)(h1:k.steps≤100000)(n0:0≤k.next)(n1:k.next≤100000):
  Calls Tryz.prog 280 #[.agg #[.int .i64 z],.pointer (some ⟨b,0,none⟩)] w (zpr w b k z):=by
 have hK:=h.alloc (.cells #[.int .i64 z] 190)
 have hB:=B.below (w':=w.alloc (.cells #[.int .i64 z] 190)) box1
 go_enter Tryz.func280,Tryz.ntmps280
 go_wp2_with(go_at_call 282;(with_reducible refine(zt1 hK hB z hlen h0 h1 n0 n1).mono ?_);intro e w6 hw6;obtain⟨g4,c4,hw7,hB7,hg7⟩:=hw6;have hw8:=zcX (zaJ (b:=some b) box1) hw7;clear hw7;obtain⟨g,rfl,hg,hc,hk,hgr⟩:=hw8)
 go_ret
 exact⟨g4,c4,⟨g,rfl,hg,hc,hk,hgr⟩,hB7,Nat.le_trans (by simp) hg7⟩
theorem ziI{w:World}{b cap:Nat}{ao:Option Addr}{k:Kn}(h:KnM w b (.slice ao k.behind.length cap) k)(z:Int)(hlen:k.behind.length=15):
  Calls Tryz.prog 280 #[.agg #[.int .i64 z],.pointer (some ⟨b,0,none⟩)] w fun e w'=>e=zak 8 0∧Below w.heap.size w w':=by
 have hK:=h.alloc (.cells #[.int .i64 z] 190)
 go_enter Tryz.func280,Tryz.ntmps280
 go_wp2_with(go_at_call 282;(with_reducible refine(zrf hK z hlen).mono ?_);rintro e wx ⟨rfl,hww⟩;have hw2:=hww.symm;subst hw2)
 exact⟨rfl,rfl,box1⟩
theorem ziJ{w:World}{b cap:Nat}{ao:Option Addr}{k:Kn}(h:KnM w b (.slice ao 0 cap) k):Calls Tryz.prog 285 #[.agg #[],.pointer (some ⟨b,0,none⟩)] w fun e w'=>e=.returned (.slice none 0 0)∧Below w.heap.size w w':=by
 have hK:=h.alloc (.cells #[] 192)
 go_enter Tryz.func285,Tryz.ntmps285
 go_wp2_with(go_at_call 287;(with_reducible refine(zt0 hK).mono ?_);rintro e wx ⟨rfl,hww⟩;have hw2:=hww.symm;subst hw2)
 go_ret
 exact⟨rfl,box1⟩
theorem ziK{w:World}{b cap:Nat}{ao:Option Addr}{k:Kn}{x:Int}{l:List Int}(h:KnM w b (.slice ao k.behind.length cap) k)(B:BhM w ao cap k.behind)(hk:k.behind=l++[x])(ap:∀ a,ao=some a→¬a.block=b)(h0:0≤k.steps)(h1:k.steps≤100000):
  Calls Tryz.prog 285 #[.agg #[],.pointer (some ⟨b,0,none⟩)] w fun e w'=>zaQ w b (.slice ao l.length cap) ({ k with behind:=l }.goTo x) e w'∧BhM w' ao cap l:=by
 have hK:=h.alloc (.cells #[] 192)
 have hB:=B.below (w':=w.alloc (.cells #[] 192)) box1
 go_enter Tryz.func285,Tryz.ntmps285
 go_wp2_with(go_at_call 287;(with_reducible refine(zrg hK hB hk ap h0 h1).mono ?_);intro e w6 hw6;obtain⟨hw7,hB7⟩:=hw6;have hw8:=zcX (zaJ (b:=some b) box1) hw7;clear hw7;obtain⟨g,rfl,hg,hc,hk,hgr⟩:=hw8)
 go_ret
 exact⟨⟨g,rfl,hg,hc,hk,hgr⟩,hB7⟩
def zhr(s:ByteArray)(i:Nat):Nat:=(s.data.toList.take i).count 10
theorem zwO(s:ByteArray)(i:Nat):zhr s i≤i:=by
 unfold zhr
 refine Nat.le_trans List.count_le_length ?_
 rw [List.length_take]
 omega
theorem zr3{s:ByteArray}{i:Nat}(h:i<s.size):zhr s (i+1)=zhr s i+if s[i].toNat=10 then 1 else 0:=by
 unfold zhr
 have hl:i<s.data.toList.length:=h
 rw [List.take_add_one,List.count_append,List.getElem?_eq_getElem hl]
 have e:s.data.toList[i]=s[i]:=rfl
 rw [e]
 refine congrArg _ ?_
 show List.count 10 [s[i]]=_
 rw [List.count_singleton]
 by_cases hh:s[i]=10
 ·rw [hh];rfl
 ·have:¬s[i].toNat=10:=fun x=>hh (UInt8.toNat_inj.1 x)
  rw [if_neg this,if_neg (by simpa using hh)]
theorem zun(s:ByteArray):(lines s).length=zhr s s.size+1:=by
 rw [(zdZ s).1]
 unfold Lib.countByte zhr
 rw [List.take_of_length_le (Nat.le_of_eq (show s.data.toList.length=s.size from rfl))]
def zwP(s:ByteArray):Bool:=decide (¬(4000<s.size∨300<(lines s).length))
theorem zp3(s:ByteArray)(w:World)(hs:s.size≤4611686018427387904):
  Calls Tryz.prog 33 #[.string s] w fun e w'=>e=.returned (.bool (zwP s))∧w'=w:=by
 unfold zwP
 rw [zun]
 go_enter Tryz.func33,Tryz.ntmps33
 go_wp2
 go_loopw [3,4] (fun tl ti wr=>∃ i:Nat,i≤s.size∧tl=.int .i64 (1+(zhr s i:Int))∧ti=.int .i64 (i:Int)∧wr=w) (fun _ ti _=>s.size-(intOf ti).toNat)
 case atStart=>exact⟨0,by omega,rfl,rfl,rfl⟩
 case round =>
  obtain⟨i,hi,rfl,rfl,rfl⟩:=hrel
  have hc:=zwO s i
  by_cases hlt:i<s.size
  ·have hx:=zr3 hlt
   have HX:Hid (zhr s (i+1)=zhr s i+if s[i].toNat=10 then 1 else 0):=hx
   clear hx
   have hc0:0≤(s[i].toNat:Int):=by omega
   have hc1:(s[i].toNat:Int)≤255:=by have:=s[i].toNat_lt;omega
   have hi1:(i:Int)<(s.size:Int):=by omega
   generalize zhr s i=c at hc HX ⊢
   by_cases h10:((s[i].toNat:Int) == 10)=true
   ·go_wp2
    go_roundw
    case rel=>exact⟨i+1,by omega,by rw [HX.out,if_pos (by simp at h10;omega)];go_num,by go_num,trivial⟩
    case measure=>simp [intOf];omega
   ·have h10':((s[i].toNat:Int) == 10)=false:=by simpa using h10
    go_wp2
    go_roundw
    case rel=>exact⟨i+1,by omega,by rw [HX.out,if_neg (by simp at h10';omega)];rfl,by go_num,trivial⟩
    case measure=>simp [intOf];omega
  ·obtain rfl:i=s.size:=by omega
   generalize hcc:zhr s s.size=c at hc ⊢
   have hi1:¬(s.size:Int)<(s.size:Int):=by omega
   by_cases h1:s.size≤4000
   ·by_cases h2:1+(c:Int)≤300
    ·go_wp2
     go_ret
     exact⟨by show Ending.returned (.bool true)=Ending.returned (.bool (decide _));rw [decide_eq_true (by omega)],rfl⟩
    ·go_wp2
     go_ret
     first
      | exact⟨rfl,rfl⟩
      | exact⟨by show Ending.returned (.bool false)=Ending.returned (.bool (decide _));rw [decide_eq_false (by omega)],rfl⟩
   ·go_wp2
    go_ret
    first
      | exact⟨rfl,rfl⟩
      | exact⟨by show Ending.returned (.bool false)=Ending.returned (.bool (decide _));rw [decide_eq_false (by omega)],rfl⟩
theorem zop(s:ByteArray)(w:World)(hw:LibW w)(hs:s.size≤4611686018427387904)(hR:zcg s=if 4000<s.size∨300<(lines s).length then(6,0) else(0,0)):
  Calls Tryz.prog 32 #[.string s] w fun e w'=>e=.returned (.bool true)∧Below w.heap.size w w':=by
 have hck:=zss s (zcg s) (ziq s (by omega)) w hw
 have hf:=fun W=>zp3 s W hs
 unfold zwP at hf
 by_cases h:4000<s.size∨300<(lines s).length
 ·rw [hR,if_pos h] at hck
  rw [decide_eq_false (fun x=>x h)] at hf
  clear h hR
  go_enter Tryz.func32,Tryz.ntmps32
  go_wp2_with(first
   | (go_at_call 15;(with_reducible refine hck.mono ?_);rintro e w1 ⟨rfl,hb1⟩)
   | (go_at_call 33;(with_reducible refine(hf _).mono ?_);rintro e w2 ⟨rfl,rfl⟩))
  go_ret
  exact⟨rfl,hb1⟩
 ·rw [hR,if_neg h] at hck
  rw [decide_eq_true h] at hf
  clear h hR
  go_enter Tryz.func32,Tryz.ntmps32
  go_wp2_with(first
   | (go_at_call 15;(with_reducible refine hck.mono ?_);rintro e w1 ⟨rfl,hb1⟩)
   | (go_at_call 33;(with_reducible refine(hf _).mono ?_);rintro e w2 ⟨rfl,rfl⟩))
  go_ret
  exact⟨rfl,hb1⟩
section
attribute [local go_sem ↓] Go.wp_at_zero Go.wp_at_succ
def wrL(px:Nat)(most:Int)(kv:Value):List Value:=[.pointer (some ⟨px,0,none⟩),.slice none 0 0,.int .i64 0,.bool false,.bool false,.bool false,.bool false,.bool false,.bool false,.bool false,.bool false,.slice none 0 0,.bool false,.bool false,.bool false,.bool false,.bool false,.bool false,.bool false,.bool false,.int .i64 0,.int .i64 most,.int .i64 1,kv]
def wrV(px:Nat)(most:Int)(kv:Value):Nat→Value:=fun j=>((wrL px most kv)[j]?).getD kv
theorem zx2{w:World}{q:Nat}{c:Array Value}{t:TypeId}(h:w.heap[q]?=some (.cells c t (0,0)))(j:Nat):w.frozen? ⟨q,j,none⟩=false:=by
 exact frozen_of_row w q j c t h
theorem DiM.new{w:World}{cv:Value}{code:List Int}(hc:SlB w w.heap.size cv code)(hl:code.length≤9223372036854775807)(hn:∀ x∈code,i64 x):DiM w.heap.size (w.alloc (.cells #[cv,.int .i64 0] 76)) w.heap.size cv code 0:=by
 have hb:Below w.heap.size w (w.alloc (.cells #[cv,.int .i64 0] 76)):=(Below.refl _ _).alloc (Nat.le_refl _) _
 have hh:(w.alloc (.cells #[cv,.int .i64 0] 76)).heap[w.heap.size]?=some (.cells #[cv,.int .i64 0] 76 (0,0)):=heap_alloc_new w _
 refine⟨by rw [cell_of_row _ _ 0 _ _ _ hh];rfl,hc.below hb,by rw [cell_of_row _ _ 1 _ _ _ hh];rfl,Nat.zero_le _,fun j=>?_,hl,hn,Nat.le_refl _,⟨_,hh⟩⟩
 exact zx2 hh j
theorem WrM.new{B:Nat}{w:World}{px:Nat}{cv:Value}{code:List Int}{k nk:Nat}{kv:Value}{most:Int}(hd:DiM B w px cv code k)(hk:KnRow B w kv nk):
  WrM B (w.alloc (.cells (wrL px most kv).toArray 109)) w.heap.size px cv code ⟨[],0,fun _=>false,[],0,most,nk⟩ k (wrV px most kv):=by
 have hpx:=hd.lt
 have hB:=hd.hB
 have hb:Below w.heap.size w (w.alloc (.cells (wrL px most kv).toArray 109)):=(Below.refl _ _).alloc (Nat.le_refl _) _
 have hh:(w.alloc (.cells (wrL px most kv).toArray 109)).heap[w.heap.size]?=some (.cells (wrL px most kv).toArray 109 (0,0)):=heap_alloc_new w _
 refine⟨⟨hd.block (hb.mono (by omega)) (hb.block px hpx),fun j hj=>?_,fun j=>zx2 hh j,⟨_,hh⟩,by omega⟩,rfl,World.ownsRow_nil _ _ _ _,rfl,fun i hi=>?_,World.ownsRow_nil _ _ _ _,(fun c hc=>(by cases hc)),fun i hi=>?_,rfl,rfl,⟨1,rfl,by omega⟩,?_⟩
 ·rw [cell_of_row _ _ j _ _ _ hh]
  unfold wrV
  have hlen:(wrL px most kv).length=24:=rfl
  rw [List.getElem?_toArray,List.getElem?_eq_getElem (by omega)]
  rfl
 ·have hi2:i=0∨i=1∨i=2∨i=3∨i=4∨i=5∨i=6∨i=7:=by omega
  rcases hi2 with rfl|rfl|rfl|rfl|rfl|rfl|rfl|rfl <;> rfl
 ·have hi2:i=0∨i=1∨i=2∨i=3∨i=4∨i=5∨i=6∨i=7:=by omega
  rcases hi2 with rfl|rfl|rfl|rfl|rfl|rfl|rfl|rfl <;> exact⟨false,rfl⟩
 ·obtain⟨xs,h1,h2⟩:=hk
  refine⟨xs,zaj h1 (fun g hg=>hb.block g (h1.lt g hg).2),h2⟩
theorem KnRow.nil(B:Nat)(w:World):KnRow B w (.slice none 0 0) 0:=⟨[],World.ownsRow_nil _ _ _ _,fun j hj=>by omega⟩
end
theorem ziL{w:World}{b:Nat}{bv:Value}{k:Kn}(h:KnM w b bv k)(r:Nat)(z:Int)(h0:0≤k.steps)(h1:k.steps≤100000)(n0:0≤k.next)(n1:k.next≤100000):
  Calls Tryz.prog 268 #[.agg #[.int .i64 (r:Int),.int .i64 (r:Int),.int .i64 z],.pointer (some ⟨b,0,none⟩)] w (zaQ w b bv (k.goTo (k.next+1))):=by
 have hK:=h.alloc (.cells #[.int .i64 (r:Int),.int .i64 (r:Int),.int .i64 z] 187)
 go_enter Tryz.func268,Tryz.ntmps268
 go_wp2_with(go_at_call 227;(with_reducible refine(zcb hK h0 h1 n0 n1).mono ?_);intro e w6 hw6;have hw7:=zcX (zaJ (b:=some b) box1) hw6;clear hw6;obtain⟨g,rfl,hg,hc,hk,hgr⟩:=hw7)
 go_ret
 exact⟨g,rfl,hg,hc,hk,hgr⟩
theorem ziM{w:World}{b:Nat}{bv:Value}{k:Kn}(h:KnM w b bv k)(r:Nat)(z:Int)(h0:0≤k.steps)(h1:k.steps≤100000):
  Calls Tryz.prog 275 #[.agg #[.int .i64 (r:Int),.int .i64 (r:Int),.int .i64 z],.pointer (some ⟨b,0,none⟩)] w (zaQ w b bv (k.goTo z)):=by
 have hK:=h.alloc (.cells #[.int .i64 (r:Int),.int .i64 (r:Int),.int .i64 z] 188)
 go_enter Tryz.func275,Tryz.ntmps275
 go_wp2_with(go_at_call 229;(with_reducible refine(zgb hK z h0 h1).mono ?_);intro e w6 hw6;have hw7:=zcX (zaJ (b:=some b) box1) hw6;clear hw6;obtain⟨g,rfl,hg,hc,hk,hgr⟩:=hw7)
 go_ret
 exact⟨g,rfl,hg,hc,hk,hgr⟩
theorem zhp{w:World}{b:Nat}{bv:Value}{k:Kn}(h:KnM w b bv k)(hbv:bv.oneCell'=true)(K:KnOk k)(l r:Nat)(hl:l<8)(hr:r<8)(hne:¬l=r)(z:Int)(h0:0≤k.steps)(h1:k.steps≤100000)(n0:0≤k.next)(n1:k.next≤100000):
  Calls Tryz.prog 268 #[.agg #[.int .i64 (l:Int),.int .i64 (r:Int),.int .i64 z],.pointer (some ⟨b,0,none⟩)] w (zc5 w b bv (zbr k l r ze6 zbk z)):=by
 have hK:=h.alloc (.cells #[.int .i64 (l:Int),.int .i64 (r:Int),.int .i64 z] 187)
 have t0:((l:Int) == (r:Int))=false:=by simpa using (by omega:¬(l:Int)=(r:Int))
 go_enter Tryz.func268,Tryz.ntmps268
 go_wp2_with(go_at_call 270;(with_reducible refine(zmo hK hbv K l r hl hr hne z h0 h1 n0 n1).mono ?_);intro e w6 hw6;have hw7:=zka (zaJ (b:=some b) box1) hw6;clear hw6;obtain⟨ao,cap,ps,rfl,A⟩:=hw7)
 go_ret
 exact⟨ao,cap,ps,rfl,A⟩
theorem zhq{w:World}{b:Nat}{bv:Value}{k:Kn}(h:KnM w b bv k)(hbv:bv.oneCell'=true)(K:KnOk k)(l r:Nat)(hl:l<8)(hr:r<8)(hne:¬l=r)(z:Int)(h0:0≤k.steps)(h1:k.steps≤100000)(n0:0≤k.next)(n1:k.next≤100000):
  Calls Tryz.prog 275 #[.agg #[.int .i64 (l:Int),.int .i64 (r:Int),.int .i64 z],.pointer (some ⟨b,0,none⟩)] w (zc5 w b bv (zbr k l r ze7 za8 z)):=by
 have hK:=h.alloc (.cells #[.int .i64 (l:Int),.int .i64 (r:Int),.int .i64 z] 188)
 have t0:((l:Int) == (r:Int))=false:=by simpa using (by omega:¬(l:Int)=(r:Int))
 go_enter Tryz.func275,Tryz.ntmps275
 go_wp2_with(go_at_call 270;(with_reducible refine(zmp hK hbv K l r hl hr hne z h0 h1 n0 n1).mono ?_);intro e w6 hw6;have hw7:=zka (zaJ (b:=some b) box1) hw6;clear hw6;obtain⟨ao,cap,ps,rfl,A⟩:=hw7)
 go_ret
 exact⟨ao,cap,ps,rfl,A⟩
end Go.Proofs.YtfpgjkbjbbgciaaGreatDoor
