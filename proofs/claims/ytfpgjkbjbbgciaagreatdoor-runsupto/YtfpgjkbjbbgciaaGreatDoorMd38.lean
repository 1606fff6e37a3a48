import Derived.Test.YtfpgjkbjbbgciaaGreatDoorMd35
set_option maxRecDepth 100000
set_option maxHeartbeats 8000000
namespace Go.Proofs.YtfpgjkbjbbgciaaGreatDoor
open Go.RowKit Sp
theorem zdl{w w2:World}{b:Nat}{bv:Value}{k:Kn}{e:Ending}{w':World}(hg:w.grownBy w2 (some b))(h:zaZ w2 b bv k e w'):zaZ w b bv k e w':=by
 obtain⟨g,e1,hg1,hc,hk,hgr⟩:=h
 exact⟨g,e1,Nat.le_trans hg.size hg1,hc,hk,zag hg hgr⟩
theorem za8{w wx:World}{cs:Array Value}{t:TypeId}(hbx:Below (w.alloc (.cells cs t)).heap.size (w.alloc (.cells cs t)) wx)(j:Nat):wx.cell? ⟨w.heap.size,j,none⟩=cs[j]? :=
 (World.cell?_of_block (a:=⟨w.heap.size,j,none⟩) (hbx.block w.heap.size (by simp))).trans (World.cell?_alloc_new _ _ _ j)
theorem zeF{w wx w':World}{o:Obj}{b i j:Nat}{u v bv:Value}{k:Kn}{e:Ending}(hX:Below (w.alloc o).heap.size (w.alloc o) wx)(h:zaZ ((wx.setCell ⟨b,i,none⟩ u).setCell ⟨b,j,none⟩ v) b bv k e w'):zaZ w b bv k e w' :=
 zdl (zag (zac (box1.trans (hX.mono (by simp)))) (zac (Below.refl _ _))) h
theorem zty{w:World}{b:Nat}{bv:Value}{k:Kn}(h:KnM w b bv k)(r:Nat)(hr:r<8)(n:Int)(h0:0≤k.steps)(h1:k.steps≤100000)(n0:0≤k.next)(n1:k.next≤100000):
  Calls Tryz.prog 224 #[.agg #[.int .i64 (r:Int),.int .i64 n],.pointer (some ⟨b,0,none⟩)] w (zaZ w b bv ({ k with regs:=updR k.regs r (only n) }.goTo (k.next+1))):=by
 have hlt:=h.lt
 have r0:(0:Int)≤(r:Int):=by omega
 have r1:(r:Int)<8:=by omega
 have HB:∀ W,Below (w.alloc (.cells #[.int .i64 (r:Int),.int .i64 n] 167)).heap.size (w.alloc (.cells #[.int .i64 (r:Int),.int .i64 n] 167)) W→KnM W b bv k:=fun W hW=>(h.alloc _).below hW (by simp;omega)
 go_enter Tryz.func224,Tryz.ntmps224
 go_wp2
 go_region_with(first
  | (go_at_call 226;(with_reducible refine(zhl n _).mono ?_);rintro e wx0 ⟨rfl,hbx0⟩;have hX0:Below (w.alloc (.cells #[.int .i64 (r:Int),.int .i64 n] 167)).heap.size (w.alloc (.cells #[.int .i64 (r:Int),.int .i64 n] 167)) wx0:=(Below.refl _ _).drew.trans hbx0;have hK0:=HB _ hX0;have c0:=(hK0.cR r hr).1;have c1:=(hK0.cR r hr).2;have z0:=hK0.fz (r*2);have z1:=hK0.fz (r*2+1);have v0:wx0.cell? ⟨w.heap.size,0,none⟩=some (.int .i64 (r:Int)):=za8 hX0 0;have v1:wx0.cell? ⟨w.heap.size,1,none⟩=some (.int .i64 n):=za8 hX0 1;have hKK:=hK0.putR r hr (only n)))
 all_goals go_wp2_with(go_at_call 227;(with_reducible refine(zcq hKK h0 h1 n0 n1).mono ?_);intro e w6 hw6;have hw7:=zeF hX0 hw6;clear hw6;obtain⟨g,rfl,hg,hc,hk,hgr⟩:=hw7)
 all_goals go_ret
 all_goals exact⟨g,rfl,hg,hc,hk,hgr⟩
theorem zqL{w:World}{b cap:Nat}{ao:Option Addr}{k:Kn}(h:KnM w b (.slice ao k.behind.length cap) k)(z:Int)(hlen:k.behind.length=15):
  Calls Tryz.prog 282 #[.pointer (some ⟨b,0,none⟩),.int .i64 z] w fun e w'=>e=zaj 8 0∧w'=w:=by
 have hfr:=zf4 h (by omega)
 rw [hlen] at hfr
 go_enter Tryz.func282,Tryz.ntmps282
 go_wp2_with(first
  | (go_at_call 136;(with_reducible refine hfr.mono ?_);rintro e wx ⟨rfl,hww⟩;have hw2:=hww.symm;subst hw2))
 all_goals go_wp2
 exact⟨rfl,rfl,rfl,rfl,rfl⟩
theorem zxC{w:World}{b g m cap:Nat}{k:Kn}{z:Int}(h:KnM w b (.slice (some ⟨g,0,none⟩) (m+1) cap) k)(hm:m≤15)(hc:m+1≤cap)(_hc2:cap≤maxLen)(hz:w.cell? ⟨g,m,none⟩=some (.int .i64 z))(l:List Int)(h0:0≤k.steps)(h1:k.steps≤100000):Calls Tryz.prog 287 #[.pointer (some ⟨b,0,none⟩)] w (zaZ w b (.slice (some ⟨g,0,none⟩) m cap) ({ k with behind:=l }.goTo z)):=by
 have c:=h.cS
 have n:=h.cN
 have d:=h.cB
 have f1:=h.fz 50
 have f2:=h.fz 48
 have f3:=h.fz 49
 have hlt:=h.lt
 unfold maxLen at _hc2
 have K:=h.putB (.slice (some ⟨g,0,none⟩) m cap) l
 go_enter Tryz.func287,Tryz.ntmps287
 go_wp2
 go_ret
 obtain⟨g2,e2,l2,c2,k2,gr⟩:=zoL K z
 rw [World.size_setCell] at e2 l2
 exact⟨g2,e2,l2,c2,k2,zag (zac (Below.refl _ _)) gr⟩
theorem zqM{w:World}{b cap:Nat}{ao:Option Addr}{k:Kn}{x:Int}{l:List Int}(h:KnM w b (.slice ao k.behind.length cap) k)(B:BhM w ao cap k.behind)(hk:k.behind=l++[x])(ap:∀ a,ao=some a→¬a.block=b)(h0:0≤k.steps)(h1:k.steps≤100000):
  Calls Tryz.prog 287 #[.pointer (some ⟨b,0,none⟩)] w fun e w'=>zaZ w b (.slice ao l.length cap) ({ k with behind:=l }.goTo x) e w'∧BhM w' ao cap l:=by
 have hl:k.behind.length=l.length+1:=by rw [hk];simp
 cases ao with
 | none=>obtain⟨e,_⟩:=B.nil rfl;rw [e] at hl;simp at hl
 | some a =>
  obtain⟨g,rfl⟩:=B.at0 a rfl
  have b1:=B.len
  have b2:=B.le
  rw [hl] at h b1 b2
  refine(zxC h (by omega) b2 B.top ((B.cell g rfl).2 l.length x (by rw [hk];simp)) l h0 h1).mono ?_
  rintro e w' hw
  refine⟨hw,?_⟩
  obtain⟨g2,e2,l2,c2,k2,gr⟩:=hw
  have B2:BhM w' (some ⟨g,0,none⟩) cap k.behind:=B.grown gr ap
  exact⟨by omega,by omega,B2.top,fun e=>(by cases e),B2.at0,fun g' e=>⟨(B2.cell g' e).1,fun i v hv=>(B2.cell g' e).2 i v (by rw [hk,List.getElem?_append_left (List.getElem?_eq_some_iff.1 hv).1];exact hv)⟩⟩
theorem zn2{w:World}{b:Nat}{bv:Value}{k:Kn}(h:KnM w b bv k)(a n:Nat)(hn:1≤n)(ha:a+n≤15)(v:Rg):Calls Tryz.prog 258 #[.pointer (some ⟨b,0,none⟩),rv ⟨(a:Int),(a:Int)+(n:Int)⟩,rv v] w (zlL w b bv { k with cells:=zaL k.cells a (a+n) v }):=by
 have hlt:=h.lt
 have hT:∀(W:World),KnM W b bv k→Calls Tryz.prog 255 #[.pointer (some ⟨b,0,none⟩),rv ⟨(a:Int),(a:Int)+(n:Int)⟩] W fun e w'=>e=.returned (.slice (some ⟨b,16+a*2,none⟩) (n+1) (16-a))∧Below W.heap.size W w':=fun W hW=>by
  have t:=zej hW ⟨(a:Int),(a:Int)+(n:Int)⟩ ⟨⟨by show _≤(a:Int);omega,by show(a:Int)≤_;omega⟩,⟨by show _≤(a:Int)+(n:Int);omega,by show(a:Int)+(n:Int)≤_;omega⟩,by show(a:Int)≤(a:Int)+(n:Int);omega⟩ (by show(0:Int)≤(a:Int);omega) (by show(a:Int)+(n:Int)≤15;omega)
  have e1:((a:Int)+(n:Int)+1).toNat=a+n+1:=by omega
  have e2:((a:Nat):Int).toNat=a:=by omega
  have e3:a+n+1-a=n+1:=by omega
  simp only [e1,e2,e3] at t
  exact t
 have t1:((n:Int)+1 == 1)=false:=by simpa using (by omega:¬((n:Int)+1=1))
 have t2:¬n=0:=by omega
 go_enter Tryz.func258,Tryz.ntmps258
 go_wp2_with(go_at_call 255;(with_reducible refine(hT _ ((h.alloc _).alloc _)).mono ?_);rintro e wx ⟨rfl,hbx⟩)
 have L0:StM w wx b bv { k with cells:=zb6 k.cells a 0 v } v:=by
  rw [zlM]
  have hl:Below w.heap.size w wx:=box2.trans (hbx.mono (by simp;omega))
  exact⟨((h.alloc _).alloc _).below hbx (by simp;omega),zd7 hbx 0,zd7 hbx 1,⟨hl.os,hl.tape,hl.output,hl.size,fun q hq _=>hl.block q hq⟩⟩
 clear hbx hT
 go_loopw [19] (fun ti wr=>∃ j:Nat,j≤n+1∧ti=.int .i64 (j:Int)∧StM w wr b bv { k with cells:=zb6 k.cells a j v } v) (fun ti _=>n+1-(intOf ti).toNat)
 case atStart=>exact⟨0,by omega,rfl,L0⟩
 case round =>
  obtain⟨j,hj,rfl,L⟩:=hrel
  clear L0
  by_cases hjn:j<n+1
  ·obtain⟨d0,d1⟩:=L.kn.cC (a+j) (by omega)
   have z0:=L.kn.fz (16+(a+j)*2)
   have z1:=L.kn.fz (16+(a+j)*2+1)
   have HS:∀ wy,StM w wy b bv { k with cells:=zb6 k.cells a j v } v→StM w ((wy.setCell ⟨b,16+a*2+j*2,none⟩ (.int .i64 ((k.cells (a+j)).or v).lo)).setCell ⟨b,16+a*2+j*2+1,none⟩ (.int .i64 ((k.cells (a+j)).or v).hi)) b bv { k with cells:=zb6 k.cells a (j+1) v } v:=fun wy Ly=>by
    have t:=Ly.put hlt (a+j) (by omega) ((k.cells (a+j)).or v)
    have e:updR (zb6 k.cells a j v) (a+j) ((k.cells (a+j)).or v)=zb6 k.cells a (j+1) v:=zlN _ _ _ _
    rw [show 16+(a+j)*2=16+a*2+j*2 by omega] at t
    show StM w _ b bv { k with cells:=zb6 k.cells a (j+1) v } v
    rw [←e]
    exact t
   rw [show 16+(a+j)*2=16+a*2+j*2 by omega] at d0 d1 z0 z1
   have d0':wr.cell? ⟨b,16+a*2+j*2,none⟩=some (.int .i64 (k.cells (a+j)).lo):=by rw [d0];show some (Value.int .i64 (zb6 k.cells a j v (a+j)).lo)=_;rw [zjz]
   have d1':wr.cell? ⟨b,16+a*2+j*2+1,none⟩=some (.int .i64 (k.cells (a+j)).hi):=by rw [d1];show some (Value.int .i64 (zb6 k.cells a j v (a+j)).hi)=_;rw [zjz]
   clear d0 d1
   have hj0:(0:Int)≤(j:Int):=by omega
   have hj1:(j:Int)<(n:Int)+1:=by omega
   have hlL:=L.kn.lt
   have f0:=L.lo
   have f1:=L.hi
   have HH:Hid (∀ wy,StM w wy b bv { k with cells:=zb6 k.cells a j v } v→StM w ((wy.setCell ⟨b,16+a*2+j*2,none⟩ (.int .i64 ((k.cells (a+j)).or v).lo)).setCell ⟨b,16+a*2+j*2+1,none⟩ (.int .i64 ((k.cells (a+j)).or v).hi)) b bv { k with cells:=zb6 k.cells a (j+1) v } v):=HS
   clear HS
   generalize k.cells (a+j)=c at d0' d1' HH
   have HB:∀ W,Below wr.heap.size wr W→StM w W b bv { k with cells:=zb6 k.cells a j v } v∧W.cell? ⟨b,16+a*2+j*2,none⟩=some (.int .i64 c.lo)∧W.cell? ⟨b,16+a*2+j*2+1,none⟩=some (.int .i64 c.hi)∧W.frozen? ⟨b,16+a*2+j*2,none⟩=false∧W.frozen? ⟨b,16+a*2+j*2+1,none⟩=false∧W.cell? ⟨w.heap.size+1,0,none⟩=some (.int .i64 v.lo)∧W.cell? ⟨w.heap.size+1,1,none⟩=some (.int .i64 v.hi):=fun W hW=>by
    have LW:=L.below hW
    have e:∀ i,W.cell? ⟨b,i,none⟩=wr.cell? ⟨b,i,none⟩:=fun i=>World.cell?_of_block (w:=wr) (a:=⟨b,i,none⟩) (hW.block b hlL)
    exact⟨LW,(e _).trans d0',(e _).trans d1',LW.kn.fz _,LW.kn.fz _,LW.lo,LW.hi⟩
   clear L
   go_wp2
   go_region_with(first|(go_at_call 156;(with_reducible refine(zoD c v _).mono ?_);rintro e wy ⟨rfl,hby⟩;have hX:Below wr.heap.size wr wy:=(Below.refl _ wr).drew.trans hby;have LY:=(HB _ hX).1;have y0:=(HB _ hX).2.1;have y1:=(HB _ hX).2.2.1;have y2:=(HB _ hX).2.2.2.1;have y3:=(HB _ hX).2.2.2.2.1))
   all_goals go_wp2
   all_goals exact⟨⟨j+1,by omega,by go_num,HH.out _ LY⟩,by simp [intOf];omega⟩
  ·obtain rfl:j=n+1:=by omega
   go_wp2
   refine bodyPost_end (results_none rfl _ _ _) rfl ⟨rfl,?_,L.low⟩
   rw [←znp k.cells a n v hn]
   exact L.kn
theorem zqF{w:World}{b:Nat}{bv:Value}{k:Kn}(h:KnM w b bv k)(r v:Rg)(hr:r.lo≤r.hi)(h0:0≤r.lo)(h1:r.hi≤15):Calls Tryz.prog 258 #[.pointer (some ⟨b,0,none⟩),rv r,rv v] w (zlL w b bv { k with cells:=zaL k.cells r.lo.toNat r.hi.toNat v }):=by
 obtain⟨lo,hi⟩:=r
 obtain⟨a,rfl⟩:∃ a:Nat,lo=(a:Int):=⟨lo.toNat,by have:0≤lo:=h0;omega⟩
 obtain⟨n,rfl⟩:∃ n:Nat,hi=(a:Int)+(n:Int):=⟨(hi-a).toNat,by have:(a:Int)≤hi:=hr;omega⟩
 have h1':(a:Int)+(n:Int)≤15:=h1
 have e1:((a:Int)+(n:Int)).toNat=a+n:=by omega
 have e2:((a:Nat):Int).toNat=a:=by omega
 show Calls Tryz.prog 258 #[.pointer (some ⟨b,0,none⟩),rv ⟨(a:Int),(a:Int)+(n:Int)⟩,rv v] w (zlL w b bv { k with cells:=zaL k.cells ((a:Nat):Int).toNat ((a:Int)+(n:Int)).toNat v })
 rw [e1,e2]
 by_cases hn:n=0
 ·subst hn
  have e3:zaL k.cells a (a+0) v=updR k.cells a v:=by unfold zaL;rw [if_pos (by omega)]
  rw [e3]
  have e4:(a:Int)+((0:Nat):Int)=(a:Int):=by omega
  rw [e4]
  exact zq0 h a (by omega) v
 ·exact zn2 h a n (by omega) (by omega) v
theorem zis(w:World)(r o:Rg):TimesAt w ((((w.alloc (.cells #[.int .i64 r.lo,.int .i64 r.hi] 213)).alloc (.cells #[.int .i64 o.lo,.int .i64 o.hi] 213)).alloc (.cells #[.int .i64 0,.int .i64 0] 213)).alloc (.cells #[.int .i64 0,.int .i64 0,.int .i64 0,.int .i64 0] 304)) r o 0:=by
 have hs:((((w.alloc (.cells #[.int .i64 r.lo,.int .i64 r.hi] 213)).alloc (.cells #[.int .i64 o.lo,.int .i64 o.hi] 213)).alloc (.cells #[.int .i64 0,.int .i64 0] 213)).alloc (.cells #[.int .i64 0,.int .i64 0,.int .i64 0,.int .i64 0] 304)).heap.size=w.heap.size+1+1+1+1:=by simp
 refine⟨fun j hj=>?_,fun j=>World.frozen?_alloc_at _ _ _ _ (by simp),fun j hj=>?_,fun j=>(World.frozen?_alloc_past _ _ _ (by simp)).trans (zeZ _ _ _ _ _ j),zbE,by omega,fun j hj=>by omega⟩
 ·rw [if_neg (by omega),za5]
  match j,hj with
  | 0,_=>rfl
  | 1,_=>rfl
  | 2,_=>rfl
  | 3,_=>rfl
 ·rw [zaH]
  match j,hj with
  | 0,_=>rfl
  | 1,_=>rfl
theorem zb9{w w':World}(hb:Below w.heap.size w w'){b j:Nat}(hlt:b<w.heap.size)(h:w.frozen? ⟨b,j,none⟩=false):w'.frozen? ⟨b,j,none⟩=false:=(World.frozen?_of_block (w:=w) (a:=⟨b,j,none⟩) (hb.block b hlt)).trans h
theorem zj3(x0 x1 x2 x3 x4 x5 x6 x7:Int)(W:World):(Instr.index 306 (.agg #[.int .i64 x0,.int .i64 x1,.int .i64 x2,.int .i64 x3,.int .i64 x4,.int .i64 x5,.int .i64 x6,.int .i64 x7]) (.int .i64 0)).run Tryz.prog W=.ok (.agg #[.int .i64 x0,.int .i64 x1]) W:=by kernel_rfl
theorem zj4(x0 x1 x2 x3 x4 x5 x6 x7:Int)(W:World):(Instr.index 306 (.agg #[.int .i64 x0,.int .i64 x1,.int .i64 x2,.int .i64 x3,.int .i64 x4,.int .i64 x5,.int .i64 x6,.int .i64 x7]) (.int .i64 1)).run Tryz.prog W=.ok (.agg #[.int .i64 x2,.int .i64 x3]) W:=by kernel_rfl
theorem zj5(x0 x1 x2 x3 x4 x5 x6 x7:Int)(W:World):(Instr.index 306 (.agg #[.int .i64 x0,.int .i64 x1,.int .i64 x2,.int .i64 x3,.int .i64 x4,.int .i64 x5,.int .i64 x6,.int .i64 x7]) (.int .i64 2)).run Tryz.prog W=.ok (.agg #[.int .i64 x4,.int .i64 x5]) W:=by kernel_rfl
theorem zj6(x0 x1 x2 x3 x4 x5 x6 x7:Int)(W:World):(Instr.index 306 (.agg #[.int .i64 x0,.int .i64 x1,.int .i64 x2,.int .i64 x3,.int .i64 x4,.int .i64 x5,.int .i64 x6,.int .i64 x7]) (.int .i64 3)).run Tryz.prog W=.ok (.agg #[.int .i64 x6,.int .i64 x7]) W:=by kernel_rfl
theorem zxA(a b c d:Int)(w:World)(hr:(⟨a,b⟩:Rg).Ok)(ho:(⟨c,d⟩:Rg).Ok)(hne:¬a=b):Calls Tryz.prog 245 #[rv (⟨a,b⟩:Rg),rv (⟨c,d⟩:Rg)] w fun e w'=>e=.returned (rv ((⟨a,b⟩:Rg).times (⟨c,d⟩:Rg)))∧Below w.heap.size w w':=by
 have hn1:¬((⟨a,b⟩:Rg).lo=(⟨a,b⟩:Rg).hi∧(⟨c,d⟩:Rg).lo=(⟨c,d⟩:Rg).hi):=fun h=>hne h.1
 have Z0:=zis w (⟨a,b⟩:Rg) (⟨c,d⟩:Rg)
 have hb5:∀ a b W,(Instr.build 305 #[(0,.int .i64 a),(1,.int .i64 b)]).run Tryz.prog W=.ok (.agg #[.int .i64 a,.int .i64 b]) W:=fun a b W=>run_build W 305 _ _ (by kernel_rfl)
 have hb6:∀ a b c d W,(Instr.build 306 #[(0,.agg #[.int .i64 a,.int .i64 b]),(1,.agg #[.int .i64 a,.int .i64 d]),(2,.agg #[.int .i64 c,.int .i64 b]),(3,.agg #[.int .i64 c,.int .i64 d])]).run Tryz.prog W=.ok (.agg #[.int .i64 a,.int .i64 b,.int .i64 a,.int .i64 d,.int .i64 c,.int .i64 b,.int .i64 c,.int .i64 d]) W:=fun a b c d W=>run_build W 306 _ _ (by kernel_rfl)
 have hx0:=zj3
 have hx1:=zj4
 have hx2:=zj5
 have hx3:=zj6
 have t1:(a == b)=false:=by simpa using hne
 go_enter Tryz.func245,Tryz.ntmps245
 go_wp2
 change TimesAt w ((((w.alloc (.cells #[.int .i64 a,.int .i64 b] 213)).alloc (.cells #[.int .i64 c,.int .i64 d] 213)).alloc (.cells #[.int .i64 0,.int .i64 0] 213)).alloc (.cells #[.int .i64 0,.int .i64 0,.int .i64 0,.int .i64 0] 304)) _ _ _ at Z0
 generalize (((w.alloc (.cells #[.int .i64 a,.int .i64 b] 213)).alloc (.cells #[.int .i64 c,.int .i64 d] 213)).alloc (.cells #[.int .i64 0,.int .i64 0] 213)).alloc (.cells #[.int .i64 0,.int .i64 0,.int .i64 0,.int .i64 0] 304)=Ws at Z0
 go_loopw [47] (fun ti wr=>∃ k:Nat,k≤4∧ti=.int .i64 (k:Int)∧TimesAt w wr (⟨a,b⟩:Rg) (⟨c,d⟩:Rg) k) (fun ti _=>4-(intOf ti).toNat)
 case atStart=>exact⟨0,by omega,rfl,Z0⟩
 case round =>
  obtain⟨k,hk,rfl,Z⟩:=hrel
  by_cases hlt:k<4
  ·have hcase:k=0∨k=1∨k=2∨k=3:=by omega
   have hany:=zif
   rcases hcase with rfl|rfl|rfl|rfl
   ·have hwr:=fun W=>zdk a c W
    have Z1:=Z.alloc (.cells #[.int .i64 a,.int .i64 c] 305)
    have cc:=Z1.cells 0 (by omega)
    have cf:=Z1.fz 0
    cases hwq:zbC a c with
    | true =>
     have e0:=zck (r:=(⟨a,b⟩:Rg)) (o:=(⟨c,d⟩:Rg)) hn1 (k:=0) (by omega) hwq
     rw [hwq] at hwr
     have r0:=Z1.res 0 (by omega)
     have r1:=Z1.res 1 (by omega)
     have z0:=Z1.rz 0
     have z1:=Z1.rz 1
     have hlw:=Z1.low
     have hsz:=Z1.size
     clear Z Z1 cc cf
     go_wp2_with(first|(go_at_call 246;(with_reducible refine(hwr _).mono ?_);rintro e wx ⟨rfl,hww⟩;have h2:=hww.symm;subst h2)|(go_at_call 238;(with_reducible refine(hany _).mono ?_);rintro e w4 ⟨rfl,hb4⟩;have d0:=zaC hb4 r0;have d1:=zaC hb4 r1;have g0:=zb9 hb4 (by omega) z0;have g1:=zb9 hb4 (by omega) z1))
     exact zbD (r:=anyR) Tryz.results245 rfl rfl (zau d0 d1).1 (zau d0 d1).2 ⟨by rw [e0],zaz (hlw.trans (hb4.mono hlw.size)) (by omega)⟩
    | false =>
     rw [hwq] at hwr
     have Z2:=Z1.put (by omega) hwq
     clear Z
     go_wp2_with(go_at_call 246;(with_reducible refine(hwr _).mono ?_);rintro e wx ⟨rfl,hww⟩;have h2:=hww.symm;subst h2)
     go_roundw
     case rel=>exact⟨1,by omega,rfl,Z2⟩
     case measure=>simp [intOf]
   ·have hwr:=fun W=>zdk a d W
    have Z1:=Z.alloc (.cells #[.int .i64 a,.int .i64 d] 305)
    have cc:=Z1.cells 1 (by omega)
    have cf:=Z1.fz 1
    cases hwq:zbC a d with
    | true =>
     have e0:=zck (r:=(⟨a,b⟩:Rg)) (o:=(⟨c,d⟩:Rg)) hn1 (k:=1) (by omega) hwq
     rw [hwq] at hwr
     have r0:=Z1.res 0 (by omega)
     have r1:=Z1.res 1 (by omega)
     have z0:=Z1.rz 0
     have z1:=Z1.rz 1
     have hlw:=Z1.low
     have hsz:=Z1.size
     clear Z Z1 cc cf
     go_wp2_with(first|(go_at_call 246;(with_reducible refine(hwr _).mono ?_);rintro e wx ⟨rfl,hww⟩;have h2:=hww.symm;subst h2)|(go_at_call 238;(with_reducible refine(hany _).mono ?_);rintro e w4 ⟨rfl,hb4⟩;have d0:=zaC hb4 r0;have d1:=zaC hb4 r1;have g0:=zb9 hb4 (by omega) z0;have g1:=zb9 hb4 (by omega) z1))
     exact zbD (r:=anyR) Tryz.results245 rfl rfl (zau d0 d1).1 (zau d0 d1).2 ⟨by rw [e0],zaz (hlw.trans (hb4.mono hlw.size)) (by omega)⟩
    | false =>
     rw [hwq] at hwr
     have Z2:=Z1.put (by omega) hwq
     clear Z
     go_wp2_with(go_at_call 246;(with_reducible refine(hwr _).mono ?_);rintro e wx ⟨rfl,hww⟩;have h2:=hww.symm;subst h2)
     go_roundw
     case rel=>exact⟨2,by omega,rfl,Z2⟩
     case measure=>simp [intOf]
   ·have hwr:=fun W=>zdk b c W
    have Z1:=Z.alloc (.cells #[.int .i64 b,.int .i64 c] 305)
    have cc:=Z1.cells 2 (by omega)
    have cf:=Z1.fz 2
    cases hwq:zbC b c with
    | true =>
     have e0:=zck (r:=(⟨a,b⟩:Rg)) (o:=(⟨c,d⟩:Rg)) hn1 (k:=2) (by omega) hwq
     rw [hwq] at hwr
     have r0:=Z1.res 0 (by omega)
     have r1:=Z1.res 1 (by omega)
     have z0:=Z1.rz 0
     have z1:=Z1.rz 1
     have hlw:=Z1.low
     have hsz:=Z1.size
     clear Z Z1 cc cf
     go_wp2_with(first|(go_at_call 246;(with_reducible refine(hwr _).mono ?_);rintro e wx ⟨rfl,hww⟩;have h2:=hww.symm;subst h2)|(go_at_call 238;(with_reducible refine(hany _).mono ?_);rintro e w4 ⟨rfl,hb4⟩;have d0:=zaC hb4 r0;have d1:=zaC hb4 r1;have g0:=zb9 hb4 (by omega) z0;have g1:=zb9 hb4 (by omega) z1))
     exact zbD (r:=anyR) Tryz.results245 rfl rfl (zau d0 d1).1 (zau d0 d1).2 ⟨by rw [e0],zaz (hlw.trans (hb4.mono hlw.size)) (by omega)⟩
    | false =>
     rw [hwq] at hwr
     have Z2:=Z1.put (by omega) hwq
     clear Z
     go_wp2_with(go_at_call 246;(with_reducible refine(hwr _).mono ?_);rintro e wx ⟨rfl,hww⟩;have h2:=hww.symm;subst h2)
     go_roundw
     case rel=>exact⟨3,by omega,rfl,Z2⟩
     case measure=>simp [intOf]
   ·have hwr:=fun W=>zdk b d W
    have Z1:=Z.alloc (.cells #[.int .i64 b,.int .i64 d] 305)
    have cc:=Z1.cells 3 (by omega)
    have cf:=Z1.fz 3
    cases hwq:zbC b d with
    | true =>
     have e0:=zck (r:=(⟨a,b⟩:Rg)) (o:=(⟨c,d⟩:Rg)) hn1 (k:=3) (by omega) hwq
     rw [hwq] at hwr
     have r0:=Z1.res 0 (by omega)
     have r1:=Z1.res 1 (by omega)
     have z0:=Z1.rz 0
     have z1:=Z1.rz 1
     have hlw:=Z1.low
     have hsz:=Z1.size
     clear Z Z1 cc cf
     go_wp2_with(first|(go_at_call 246;(with_reducible refine(hwr _).mono ?_);rintro e wx ⟨rfl,hww⟩;have h2:=hww.symm;subst h2)|(go_at_call 238;(with_reducible refine(hany _).mono ?_);rintro e w4 ⟨rfl,hb4⟩;have d0:=zaC hb4 r0;have d1:=zaC hb4 r1;have g0:=zb9 hb4 (by omega) z0;have g1:=zb9 hb4 (by omega) z1))
     exact zbD (r:=anyR) Tryz.results245 rfl rfl (zau d0 d1).1 (zau d0 d1).2 ⟨by rw [e0],zaz (hlw.trans (hb4.mono hlw.size)) (by omega)⟩
    | false =>
     rw [hwq] at hwr
     have Z2:=Z1.put (by omega) hwq
     clear Z
     go_wp2_with(go_at_call 246;(with_reducible refine(hwr _).mono ?_);rintro e wx ⟨rfl,hww⟩;have h2:=hww.symm;subst h2)
     go_roundw
     case rel=>exact⟨4,by omega,rfl,Z2⟩
     case measure=>simp [intOf]
  ·obtain rfl:k=4:=by omega
   have e0:=zig hr ho hn1 Z.no
   have q0:wr.cell? ⟨w.heap.size+1+1+1,0,none⟩=some (.int .i64 (wrap64 (a*c))):=Z.cells 0 (by omega)
   have q1:wr.cell? ⟨w.heap.size+1+1+1,1,none⟩=some (.int .i64 (wrap64 (a*d))):=Z.cells 1 (by omega)
   have q2:wr.cell? ⟨w.heap.size+1+1+1,2,none⟩=some (.int .i64 (wrap64 (b*c))):=Z.cells 2 (by omega)
   have q3:wr.cell? ⟨w.heap.size+1+1+1,3,none⟩=some (.int .i64 (wrap64 (b*d))):=Z.cells 3 (by omega)
   have hcs:∀ j (h:j<[wrap64 (a*c),wrap64 (a*d),wrap64 (b*c),wrap64 (b*d)].length),wr.cell? ⟨w.heap.size+1+1+1,j,none⟩=some (.int .i64 [wrap64 (a*c),wrap64 (a*d),wrap64 (b*c),wrap64 (b*d)][j]):=fun j hj=>by
    match j,hj with
    | 0,_=>exact q0
    | 1,_=>exact q1
    | 2,_=>exact q2
    | 3,_=>exact q3
   have hmin:Calls Tryz.prog 247 #[.slice (some ⟨w.heap.size+1+1+1,0,none⟩) 4 4] wr.drew fun e w'=>e=.returned (.int .i64 (zf2 [wrap64 (a*c),wrap64 (a*d),wrap64 (b*c),wrap64 (b*d)] 3))∧w'=wr.drew:=zoG wr.drew (w.heap.size+1+1+1) 4 [wrap64 (a*c),wrap64 (a*d),wrap64 (b*c),wrap64 (b*d)] (by simp) (by simp) hcs
   have hmax:Calls Tryz.prog 248 #[.slice (some ⟨w.heap.size+1+1+1,0,none⟩) 4 4] wr.drew fun e w'=>e=.returned (.int .i64 (zf3 [wrap64 (a*c),wrap64 (a*d),wrap64 (b*c),wrap64 (b*d)] 3))∧w'=wr.drew:=zoH wr.drew (w.heap.size+1+1+1) 4 [wrap64 (a*c),wrap64 (a*d),wrap64 (b*c),wrap64 (b*d)] (by simp) (by simp) hcs
   have r0:=Z.res 0 (by omega)
   have r1:=Z.res 1 (by omega)
   have z0:=Z.rz 0
   have z1:=Z.rz 1
   have hlw:=Z.low
   have hbd:=zcp (zf2 [wrap64 (a*c),wrap64 (a*d),wrap64 (b*c),wrap64 (b*d)] 3) (zf3 [wrap64 (a*c),wrap64 (a*d),wrap64 (b*c),wrap64 (b*d)] 3)
   clear Z hcs q0 q1 q2 q3
   generalize zf2 [wrap64 (a*c),wrap64 (a*d),wrap64 (b*c),wrap64 (b*d)] 3=x at hmin hbd e0
   generalize zf3 [wrap64 (a*c),wrap64 (a*d),wrap64 (b*c),wrap64 (b*d)] 3=y at hmax hbd e0
   go_wp2
   go_region_held3 (fun _=>True)
    (trivial)
    (first|(go_at_call 247;(with_reducible refine hmin.mono ?_);rintro e wx ⟨rfl,hww⟩;have h2:=hww.symm;subst h2)|(go_at_call 248;(with_reducible refine hmax.mono ?_);rintro e wx ⟨rfl,hww⟩;have h2:=hww.symm;subst h2))
   go_wp2
   exact zbD (r:=⟨x,y⟩) Tryz.results245 rfl rfl (zau (X:=wr.drew) r0 r1).1 (zau (X:=wr.drew) r0 r1).2 ⟨by rw [e0],zaz hlw.drew (by omega)⟩
end Go.Proofs.YtfpgjkbjbbgciaaGreatDoor
