import Derived.Test.YtfpgjkbjbbgciaaGreatDoorMj34
import Derived.Test.YtfpgjkbjbbgciaaGreatDoorMj36
set_option maxRecDepth 100000
set_option maxHeartbeats 8000000
namespace Go.Proofs.YtfpgjkbjbbgciaaGreatDoor
open Go.RowKit Sp
theorem zwT{w wx:World}{o:Obj}{b:Nat}{bv:Value}{k:Kn}(f:Rg)(hlt:b<w.heap.size)(hbx:Below ((w.alloc o).alloc (.cells #[.int .i64 0,.int .i64 0] 213)).heap.size ((w.alloc o).alloc (.cells #[.int .i64 0,.int .i64 0] 213)) wx)(hK:KnM wx b bv k):LdM w (wx.alloc (.cells #[.int .i64 f.lo,.int .i64 f.hi] 213)) b wx.heap.size bv k f:=by
 have d:=hbx.size;have e2:((w.alloc o).alloc (.cells #[.int .i64 0,.int .i64 0] 213)).heap.size=w.heap.size+1+1:=by simp
 rw [e2] at d hbx;have c:Below (w.heap.size+1+1) _ (wx.alloc (.cells #[.int .i64 f.lo,.int .i64 f.hi] 213)):=hbx.alloc d _;have g:∀ j,(wx.alloc (.cells #[.int .i64 f.lo,.int .i64 f.hi] 213)).cell? ⟨w.heap.size+1,j,none⟩=(#[.int .i64 0,.int .i64 0]:Array Value)[j]?:=fun j=>by
  have e:=World.cell?_of_block (a:=⟨w.heap.size+1,j,none⟩) (c.block (w.heap.size+1) (by omega));rw [e];have:=World.cell?_alloc_new (w:=w.alloc o) #[.int .i64 0,.int .i64 0] 213 j;rw [World.size_alloc] at this;exact this
 refine⟨hK.alloc _,World.cell?_alloc_new _ _ _ 0,World.cell?_alloc_new _ _ _ 1,fun j=>World.frozen?_alloc_at _ _ _ _ (by simp),⟨_,g 0⟩,⟨_,g 1⟩,fun j=>?_,box2.trans (c.mono (by omega)),by simp,by omega,by omega⟩;have e:=World.frozen?_of_block (a:=⟨w.heap.size+1,j,none⟩) (c.block (w.heap.size+1) (by omega));rw [e];exact World.frozen?_alloc_at _ _ _ _ (by simp)
theorem zr2{w:World}{b:Nat}{bv:Value}{k:Kn}(h:KnM w b bv k):qC 254 #[.pointer (some ⟨b,0,none⟩),rv ⟨15,15⟩] w (qR w (rv (k.cells 15))):=by
 have f:=h.lt;have g:∀(W:World),KnM W b bv k→qC 255 #[.pointer (some ⟨b,0,none⟩),rv ⟨15,15⟩] W (qR W (.slice (some ⟨b,46,none⟩) 1 1)):=fun W hW=>ze2 hW ⟨15,15⟩ ⟨⟨by decide,by decide⟩,⟨by decide,by decide⟩,by decide⟩ (by decide) (by decide);go_enter Tryz.func254,Tryz.ntmps254;go_wp2_with(go_at_call 255;(with_reducible refine(g _ ((h.alloc _).alloc _)).mono ?_);rintro e c ⟨rfl,a⟩;have d:KnM c b bv k:=((h.alloc _).alloc _).below a (by simp;omega);have n:c.cell? ⟨b,46,none⟩=some (.int .i64 (k.cells 15).lo):=(d.cC 15 (by omega)).1;have m:c.cell? ⟨b,47,none⟩=some (.int .i64 (k.cells 15).hi):=(d.cC 15 (by omega)).2)
 have i:=zwT (k.cells 15) f a d;clear a d n m g
 go_loopw [18] (fun ti wr=>ti=.int .i64 0∧LdM w wr b c.heap.size bv k (k.cells 15)) (fun _ _=>0)
 case atStart=>exact⟨rfl,i⟩
 case round =>
  obtain⟨rfl,L⟩:=hrel;have f0:=L.lo;have f1:=L.hi;obtain⟨x0,j⟩:=L.r0;obtain⟨x1,l⟩:=L.r1;have y0:=L.rz 0;have y1:=L.rz 1;have o:=L.low;clear L i;go_wp2;exact zbK (r:=k.cells 15) Tryz.results254 rfl rfl (zay j l).1 (zay j l).2 ⟨rfl,za4 o (by omega)⟩
theorem zu8{w:World}{b:Nat}{bv:Value}{k:Kn}(h:KnM w b bv k)(r:Rg)(hr:r.lo≤r.hi)(h0:0≤r.lo)(h1:r.hi≤15):qC 254 #[.pointer (some ⟨b,0,none⟩),rv r] w (qR w (rv (zc4 k.cells r.lo.toNat (r.hi.toNat-r.lo.toNat)))):=by
 obtain⟨lo,hi⟩:=r;obtain⟨a,rfl⟩:∃ a:Nat,lo=(a:Int):=⟨lo.toNat,by have:0≤lo:=h0;omega⟩
 obtain⟨n,rfl⟩:∃ n:Nat,hi=(a:Int)+(n:Int):=⟨(hi-a).toNat,by have:(a:Int)≤hi:=hr;omega⟩
 have h1':(a:Int)+(n:Int)≤15:=h1;have e1:((a:Int)+(n:Int)).toNat-((a:Nat):Int).toNat=n:=by omega
 have c:((a:Nat):Int).toNat=a:=by omega
 show qC 254 #[.pointer (some ⟨b,0,none⟩),rv ⟨(a:Int),(a:Int)+(n:Int)⟩] w (qR w (rv (zc4 k.cells ((a:Nat):Int).toNat (((a:Int)+(n:Int)).toNat-((a:Nat):Int).toNat))))
 rw [e1,c];by_cases d:a<15
 ·exact zr1 h a n d (by omega)
 ·obtain rfl:a=15:=by omega
  obtain rfl:n=0:=by omega
  exact zr2 h
theorem zuB{w:World}{p:Value}(r:Rg)(hr:r.Ok)(h:¬(0≤r.lo∧r.hi≤15)):qC 254 #[p,rv r] w fun e w'=>e=zak 8 0∧qB w w':=by
 go_enter Tryz.func254,Tryz.ntmps254;go_wp2_with(go_at_call 255;(with_reducible refine(zht r hr h).mono ?_);rintro e wx ⟨rfl,a⟩)
 exact⟨rfl,rfl,box2.trans (a.mono (by simp;omega))⟩
theorem zr6{w:World}{p:Value}(r v:Rg)(hr:r.Ok)(h:¬(0≤r.lo∧r.hi≤15)):qC 258 #[p,rv r,rv v] w fun e w'=>e=zak 8 0∧qB w w':=by
 go_enter Tryz.func258,Tryz.ntmps258;go_wp2_with(go_at_call 255;(with_reducible refine(zht r hr h).mono ?_);rintro e wx ⟨rfl,a⟩)
 exact⟨rfl,rfl,box2.trans (a.mono (by simp;omega))⟩
theorem zjp{w:World}{b:Nat}{bv:Value}{k:Kn}(h:KnM w b bv k)(r:Nat)(s:Nat)(hs:s<8)(K:(k.regs s).Ok)(hout:¬(0≤(k.regs s).lo∧(k.regs s).hi≤15)):
  qC 252 #[.agg #[.int .i64 (r:Int),.int .i64 (s:Int)],.pointer (some ⟨b,0,none⟩)] w fun e w'=>e=zak 8 0∧qB w w':=by
 have hlt:=h.lt;have s0:(0:Int)≤(s:Int):=by omega
 have s1:(s:Int)<8:=by omega
 have a0:=((h.alloc (.cells #[.int .i64 (r:Int),.int .i64 (s:Int)] 176)).cR s hs).1;have a1:=((h.alloc (.cells #[.int .i64 (r:Int),.int .i64 (s:Int)] 176)).cR s hs).2;go_enter Tryz.func252,Tryz.ntmps252;go_wp2
 go_region_dies
 all_goals(go_at_call 254;(with_reducible refine(zuB (k.regs s) K hout).mono ?_);rintro e wx ⟨rfl,a⟩)
 all_goals exact⟨rfl,rfl,(box1.drew).trans (a.mono (by simp))⟩
theorem ziR{w:World}{b:Nat}{bv:Value}{k:Kn}(h:KnM w b bv k)(r:Nat)(hr:r<8)(s:Nat)(hs:s<8)(K:(k.regs r).Ok)(hout:¬(0≤(k.regs r).lo∧(k.regs r).hi≤15)):
  qC 257 #[.agg #[.int .i64 (r:Int),.int .i64 (s:Int)],.pointer (some ⟨b,0,none⟩)] w fun e w'=>e=zak 8 0∧qB w w':=by
 have hlt:=h.lt;have r0:(0:Int)≤(r:Int):=by omega
 have r1:(r:Int)<8:=by omega
 have s0:(0:Int)≤(s:Int):=by omega
 have s1:(s:Int)<8:=by omega
 obtain⟨A,f⟩:∃ A,w.alloc (.cells #[.int .i64 (r:Int),.int .i64 (s:Int)] 178)=A:=⟨_,rfl⟩
 have g:∀ W,qB A W→KnM W b bv k:=fun W a=>by subst f;exact(h.alloc _).below a (by simp;omega)
 have j:∀ W,qB A W→qB w W:=fun W a=>by subst f;exact box1.trans (a.mono (by simp))
 have i:∀ W,qB A W→(W.cell? ⟨w.heap.size,0,none⟩=some (.int .i64 (r:Int))∧W.cell? ⟨w.heap.size,1,none⟩=some (.int .i64 (s:Int)))∧(W.cell? ⟨b,r*2,none⟩=some (.int .i64 (k.regs r).lo)∧W.cell? ⟨b,r*2+1,none⟩=some (.int .i64 (k.regs r).hi))∧(W.cell? ⟨b,s*2,none⟩=some (.int .i64 (k.regs s).lo)∧W.cell? ⟨b,s*2+1,none⟩=some (.int .i64 (k.regs s).hi)):=fun W a =>
  ⟨by subst f;exact⟨zaD a 0,zaD a 1⟩,(g W a).cR r hr,(g W a).cR s hs⟩
 go_enter Tryz.func257,Tryz.ntmps257;go_wp2;refine zaf 15 (fun W=>qB A W) (Below.refl _ _).drew (by kernel_rfl) (by kernel_rfl) ?_;simp only [q2];repeat(refine zab rfl ?_ (fun W a=>?_) ?_;rotate_left 1;· (obtain⟨⟨f0,f1⟩,⟨f2,f3⟩,f4,f5⟩:=i W a;go_simp;with_reducible rfl))
 refine wpQuiet_nil ?_;intro W a;have c:=j W a;go_wp2_with(first|(go_at_call 258;(with_reducible refine(zr6 (k.regs r) (k.regs s) K hout).mono ?_);rintro e w5 ⟨rfl,d⟩))
 exact⟨rfl,rfl,c.trans (d.mono c.size)⟩
theorem zuA{w:World}{b:Nat}{bv:Value}{k:Kn}(h:KnM w b bv k)(r:Nat)(hr:r<8)(s:Nat)(hs:s<8)(t:Nat)(ht:t<8)(h0:0≤k.steps)(h1:k.steps≤100000)(n0:0≤k.next)(n1:k.next≤100000):
  qC 240 #[.agg #[.int .i64 (r:Int),.int .i64 (s:Int),.int .i64 (t:Int)],.pointer (some ⟨b,0,none⟩)] w (zbe w b bv ({ k with regs:=updR k.regs r (subR k s t) }.goTo (k.next+1))):=by
 have hlt:=h.lt;have r0:(0:Int)≤(r:Int):=by omega
 have r1:(r:Int)<8:=by omega
 have s0:(0:Int)≤(s:Int):=by omega
 have s1:(s:Int)<8:=by omega
 have t0:(0:Int)≤(t:Int):=by omega
 have t1:(t:Int)<8:=by omega
 obtain⟨A,i⟩:∃ A,w.alloc (.cells #[.int .i64 (r:Int),.int .i64 (s:Int),.int .i64 (t:Int)] 172)=A:=⟨_,rfl⟩
 have f:∀ W,qB A W→KnM W b bv k:=fun W a=>by subst i;exact(h.alloc _).below a (by simp;omega)
 have n:∀ W,qB A W→(W.cell? ⟨w.heap.size,0,none⟩=some (.int .i64 (r:Int))∧W.cell? ⟨w.heap.size,1,none⟩=some (.int .i64 (s:Int))∧W.cell? ⟨w.heap.size,2,none⟩=some (.int .i64 (t:Int)))∧(W.cell? ⟨b,s*2,none⟩=some (.int .i64 (k.regs s).lo)∧W.cell? ⟨b,s*2+1,none⟩=some (.int .i64 (k.regs s).hi))∧(W.cell? ⟨b,t*2,none⟩=some (.int .i64 (k.regs t).lo)∧W.cell? ⟨b,t*2+1,none⟩=some (.int .i64 (k.regs t).hi)):=fun W a=>⟨by subst i;exact⟨zaD a 0,zaD a 1,zaD a 2⟩,(f W a).cR s hs,(f W a).cR t ht⟩
 go_enter Tryz.func240,Tryz.ntmps240;go_wp2;refine zaf 8 (fun W=>qB A W) (Below.refl _ _).drew (by kernel_rfl) (by kernel_rfl) ?_;simp only [q2];repeat(refine zab rfl ?_ (fun W a=>?_) ?_;rotate_left 1;· (obtain⟨⟨v,u,x⟩,⟨B,z⟩,⟨q,C⟩⟩:=n W a;go_simp;with_reducible rfl))
 refine zaU rfl 241 #[.agg #[.int .i64 (r:Int),.int .i64 (s:Int),.int .i64 (t:Int)],.pointer (some ⟨b,0,none⟩)] (rv (subR k s t)) (fun W a=>?_) (fun W a=>(zwU (f W a) r s hs t ht).mono (fun e w' hh=>⟨hh.1,a.trans (hh.2.mono a.size)⟩)) ?_
 ·go_simp
 repeat(refine zab rfl ?_ (fun W a=>?_) ?_;rotate_left 1;· (obtain⟨⟨v,u,x⟩,⟨B,z⟩,⟨q,C⟩⟩:=n W a;go_simp;with_reducible rfl))
 refine wpQuiet_nil ?_;intro W a;have c:=f W a;have c0:=(c.cR r hr).1;have c1:=(c.cR r hr).2;have z0:=c.fz (r*2);have z1:=c.fz (r*2+1);have j:=c.putR r hr (subR k s t);go_wp2_with(go_at_call 227;(with_reducible refine(zc0 j h0 h1 n0 n1).mono ?_);intro e w6 d;have m:=zeU (i▸a) d;clear d;obtain⟨g,rfl,y,p,o,l⟩:=m)
 go_ret;exact⟨g,rfl,y,p,o,l⟩
theorem zr5{w:World}{b:Nat}{bv:Value}{k:Kn}(h:KnM w b bv k)(r:Nat)(hr:r<8)(s:Nat)(hs:s<8)(hle:(k.regs s).lo≤(k.regs s).hi)(q0:0≤(k.regs s).lo)(q1:(k.regs s).hi≤15)(h0:0≤k.steps)(h1:k.steps≤100000)(n0:0≤k.next)(n1:k.next≤100000):
  qC 252 #[.agg #[.int .i64 (r:Int),.int .i64 (s:Int)],.pointer (some ⟨b,0,none⟩)] w (zbe w b bv ({ k with regs:=updR k.regs r (zc4 k.cells (k.regs s).lo.toNat ((k.regs s).hi.toNat-(k.regs s).lo.toNat)) }.goTo (k.next+1))):=by
 have hlt:=h.lt;have r0:(0:Int)≤(r:Int):=by omega
 have r1:(r:Int)<8:=by omega
 have s0:(0:Int)≤(s:Int):=by omega
 have s1:(s:Int)<8:=by omega
 obtain⟨A,j⟩:∃ A,w.alloc (.cells #[.int .i64 (r:Int),.int .i64 (s:Int)] 176)=A:=⟨_,rfl⟩
 have l:∀ W,qB A W→KnM W b bv k:=fun W a=>by subst j;exact(h.alloc _).below a (by simp;omega)
 have n:∀ W,qB A W→(W.cell? ⟨w.heap.size,0,none⟩=some (.int .i64 (r:Int))∧W.cell? ⟨w.heap.size,1,none⟩=some (.int .i64 (s:Int)))∧(W.cell? ⟨b,s*2,none⟩=some (.int .i64 (k.regs s).lo)∧W.cell? ⟨b,s*2+1,none⟩=some (.int .i64 (k.regs s).hi)):=fun W a=>⟨by subst j;exact⟨zaD a 0,zaD a 1⟩,(l W a).cR s hs⟩
 go_enter Tryz.func252,Tryz.ntmps252;go_wp2;refine zaf 14 (fun W=>qB A W) (Below.refl _ _).drew (by kernel_rfl) (by kernel_rfl) ?_;simp only [q2];repeat(refine zab rfl ?_ (fun W a=>?_) ?_;rotate_left 1;· (obtain⟨⟨t,o⟩,⟨x,v⟩⟩:=n W a;go_simp;with_reducible rfl))
 refine zaU rfl 254 #[.pointer (some ⟨b,0,none⟩),rv (k.regs s)] (rv (zc4 k.cells (k.regs s).lo.toNat ((k.regs s).hi.toNat-(k.regs s).lo.toNat))) (fun W a=>?_) (fun W a=>(zu8 (l W a) (k.regs s) hle q0 q1).mono (fun e w' hh=>⟨hh.1,a.trans (hh.2.mono a.size)⟩)) ?_
 ·go_simp
 repeat(refine zab rfl ?_ (fun W a=>?_) ?_;rotate_left 1;· (obtain⟨⟨t,o⟩,⟨x,v⟩⟩:=n W a;go_simp;with_reducible rfl))
 refine wpQuiet_nil ?_;intro W a;have c:=l W a;have c0:=(c.cR r hr).1;have c1:=(c.cR r hr).2;have z0:=c.fz (r*2);have z1:=c.fz (r*2+1);have f:=c.putR r hr (zc4 k.cells (k.regs s).lo.toNat ((k.regs s).hi.toNat-(k.regs s).lo.toNat));go_wp2_with(go_at_call 227;(with_reducible refine(zc0 f h0 h1 n0 n1).mono ?_);intro e w6 d;have m:=zeU (j▸a) d;clear d;obtain⟨g,rfl,u,q,p,i⟩:=m)
 go_ret;exact⟨g,rfl,u,q,p,i⟩
theorem zoi{w:World}{b:Nat}{bv:Value}{k:Kn}(h:KnM w b bv k)(r:Nat)(hr:r<8)(s:Nat)(hs:s<8)(hle:(k.regs r).lo≤(k.regs r).hi)(q0:0≤(k.regs r).lo)(q1:(k.regs r).hi≤15)(h0:0≤k.steps)(h1:k.steps≤100000)(n0:0≤k.next)(n1:k.next≤100000):
  qC 257 #[.agg #[.int .i64 (r:Int),.int .i64 (s:Int)],.pointer (some ⟨b,0,none⟩)] w (zbe w b bv ({ k with cells:=zaP k.cells (k.regs r).lo.toNat (k.regs r).hi.toNat (k.regs s) }.goTo (k.next+1))):=by
 have hlt:=h.lt;have r0:(0:Int)≤(r:Int):=by omega
 have r1:(r:Int)<8:=by omega
 have s0:(0:Int)≤(s:Int):=by omega
 have s1:(s:Int)<8:=by omega
 obtain⟨A,j⟩:∃ A,w.alloc (.cells #[.int .i64 (r:Int),.int .i64 (s:Int)] 178)=A:=⟨_,rfl⟩
 have m:∀ W,qB A W→KnM W b bv k:=fun W a=>by subst j;exact(h.alloc _).below a (by simp;omega)
 have v:∀ W,qB A W→qB w W:=fun W a=>by subst j;exact box1.trans (a.mono (by simp))
 have u:∀ W,qB A W→(W.cell? ⟨w.heap.size,0,none⟩=some (.int .i64 (r:Int))∧W.cell? ⟨w.heap.size,1,none⟩=some (.int .i64 (s:Int)))∧(W.cell? ⟨b,r*2,none⟩=some (.int .i64 (k.regs r).lo)∧W.cell? ⟨b,r*2+1,none⟩=some (.int .i64 (k.regs r).hi))∧(W.cell? ⟨b,s*2,none⟩=some (.int .i64 (k.regs s).lo)∧W.cell? ⟨b,s*2+1,none⟩=some (.int .i64 (k.regs s).hi)):=fun W a =>
  ⟨by subst j;exact⟨zaD a 0,zaD a 1⟩,(m W a).cR r hr,(m W a).cR s hs⟩
 go_enter Tryz.func257,Tryz.ntmps257;go_wp2;refine zaf 15 (fun W=>qB A W) (Below.refl _ _).drew (by kernel_rfl) (by kernel_rfl) ?_;simp only [q2];repeat(refine zab rfl ?_ (fun W a=>?_) ?_;rotate_left 1;· (obtain⟨⟨f0,f1⟩,⟨f2,f3⟩,f4,f5⟩:=u W a;go_simp;with_reducible rfl))
 refine wpQuiet_nil ?_;intro W a;have q:=m W a;have n:=v W a;go_wp2_with(first|(go_at_call 258;(with_reducible refine(zr3 q (k.regs r) (k.regs s) hle q0 q1).mono ?_);rintro e w5 ⟨rfl,f,l⟩)|(go_at_call 227;(with_reducible refine(zc0 f h0 h1 n0 n1).mono ?_);intro e w6 c;have d:=zdv (zag (zaV n) l) c;clear c;obtain⟨g,rfl,t,p,o,i⟩:=d))
 go_ret;exact⟨g,rfl,t,p,o,i⟩
def insL:Ins→Nat
 | .set _ _=>224|.mov _ _=>231|.alu o _ _ _=>if o=0 then 233 else if o=1 then 240 else 244|.inc _ _=>250|.load _ _=>252|.store _ _=>257
 | .read _=>260|.write _=>263|.jump _=>266|.less _ _ _=>268|.same _ _ _=>275|.call _=>280|.back=>285|.stop=>289
def zej(w:World)(b:Nat)(ao:Option Addr):Option (List Kn)→Ending→World→Prop
 | none=>fun e w'=>e=zak 8 0∧w.grownBy w' (some b)
 | some ks=>fun e w'=>∃(so:Option Addr) (sc:Nat) (ps:List Nat) (ao':Option Addr) (cap' n':Nat),e=.returned (.slice so ps.length sc)∧WaysAt w w' b (.slice ao' n' cap') ks so ps∧(∀ k'∈ks,n'=k'.behind.length∧BhM w' ao' cap' k'.behind)∧(ao'=ao∨∀ a,ao'=some a→w.heap.size≤a.block)∧∀ p∈ps,∀ a,ao'=some a→¬a.block=p
theorem ziX{w:World}{b f:Nat}{ao:Option Addr}{args:Array Value}(h:qC f args w fun e w'=>e=zak 8 0∧qB w w'):qC f args w (zej w b ao none) :=
 h.mono fun _ _ hh=>⟨hh.1,zaV hh.2⟩
theorem zkT{w:World}{b f cap:Nat}{ao:Option Addr}{args:Array Value}{l:List Int}{ks:List Kn}(_hlt:b<w.heap.size)(B:BhM w ao cap l)(ap:∀ a,ao=some a→¬a.block=b)(hks:∀ k'∈ks,k'.behind=l)(h:qC f args w (zcU w b (.slice ao l.length cap) ks)):qC f args w (zej w b ao (some ks)):=by
 refine h.mono ?_;rintro e w' ⟨i,c,d,rfl,A⟩;refine⟨i,c,d,ao,cap,l.length,rfl,A,fun k' hk'=>?_,.inl rfl,fun p hp a ha=>?_⟩
 ·rw [hks k' hk'];exact⟨rfl,B.grown A.grown ap⟩
 ·obtain⟨g,rfl⟩:=B.at0 a ha;rcases A.from' p hp with e|e
  ·rw [e];exact ap _ ha
  ·have:=(B.cell g ha).1;show ¬g=p;omega
theorem zbM{w:World}{b f cap:Nat}{ao:Option Addr}{args:Array Value}{l:List Int}{k':Kn}(hlt:b<w.heap.size)(B:BhM w ao cap l)(ap:∀ a,ao=some a→¬a.block=b)(hk:k'.behind=l)(h:qC f args w (zbe w b (.slice ao l.length cap) k')):qC f args w (zej w b ao (some [k'])) :=
 zkT hlt B ap (fun x hx=>by rw [List.mem_singleton.1 hx];exact hk) (h.mono fun _ _ hh=>zkL hh)
theorem zmI{w:World}{b f:Nat}{ao:Option Addr}{args:Array Value}(h:qC f args w (qR w (.slice none 0 0))):qC f args w (zej w b ao (some [])):=by
 refine h.mono ?_;rintro e w' ⟨rfl,a⟩;exact⟨none,0,[],ao,0,0,rfl,⟨zaV a,fun i p hp=>by simp at hp,rfl,fun i p k hp=>by simp at hp,List.nodup_nil,fun p hp=>by cases hp⟩,fun k' hk'=>(by cases hk'),.inl rfl,fun p hp=>(by cases hp)⟩
theorem zz9{w:World}{b:Nat}{bv:Value}{k:Kn}{e:Ending}{w':World}(h:zbe w b bv k e w'):∃ g,e=.returned (.slice (some ⟨g,0,none⟩) [b].length 1)∧WaysAt w w' b bv [k] (some ⟨g,0,none⟩) [b]:=by
 obtain⟨g,rfl,c,f,d,a⟩:=h;refine⟨g,rfl,⟨a,fun i p hp=>?_,rfl,fun i p k' hp hk'=>?_,by simp,fun p hp=>.inl (List.mem_singleton.1 hp)⟩⟩
 ·cases i with
  | zero=>cases hp;exact⟨g,rfl,c,f⟩
  | succ i=>simp at hp
 ·cases i with
  | zero=>cases hp;cases hk';exact d
  | succ i=>simp at hp
theorem zgx{k:Kn}{l r:Nat}{f g:Rg→Rg→Option (Rg × Rg)}{z:Int}:∀ k'∈zbE k l r f g z,k'.behind=k.behind:=by
 intro k' a;unfold zbE at a;split at a
 ·rcases List.mem_cons.1 a with rfl|h
  ·rfl
  ·rw [List.mem_singleton.1 h];rfl
 ·rw [List.mem_singleton.1 a];rfl
 ·rw [List.mem_singleton.1 a];rfl
 ·rw [List.mem_singleton.1 a];rfl
theorem zom{l:List Int}(h:l≠[]):l=l.dropLast++[l.getLastD 0]:=by
 rw [List.getLastD_eq_getLast?,List.getLast?_eq_some_getLast h];exact(List.dropLast_concat_getLast h).symm
theorem zuE{w:World}{b cap:Nat}{ao:Option Addr}{k:Kn}(i:Ins)(hi:zhw i)(h:KnM w b (.slice ao k.behind.length cap) k)(B:BhM w ao cap k.behind)(ap:∀ a,ao=some a→¬a.block=b)(K:KnOk k)(h0:0≤k.steps)(h1:k.steps≤100000)(n0:0≤k.next)(n1:k.next≤100000):
  qC (insL i) #[.agg (insA i),.pointer (some ⟨b,0,none⟩)] w (zej w b ao (za7 i k)):=by
 have d:=h.lt;cases i with
 | set r n=>exact zbM d B ap rfl (zut h r hi n h0 h1 n0 n1)
 | mov r s=>exact zbM d B ap rfl (zu7 h r hi.1 s hi.2 h0 h1 n0 n1)
 | alu o r s t =>
  obtain⟨ho,u,j,y⟩:=hi;rcases(by omega:o=0∨o=1∨o=2) with rfl|rfl|rfl
  ·exact zbM d B ap rfl (zu4 h r u s j t y h0 h1 n0 n1)
  ·exact zbM d B ap rfl (zuA h r u s j t y h0 h1 n0 n1)
  ·exact zbM d B ap rfl (zu5 h K r u s j t y h0 h1 n0 n1)
 | inc r n=>exact zbM d B ap rfl (zu6 h r hi n h0 h1 n0 n1)
 | load r s =>
  have j:=(K.regs s hi.2)
  by_cases f:0≤(k.regs s).lo∧(k.regs s).hi≤15
  ·have e:za7 (.load r s) k=some [{ k with regs:=updR k.regs r (zc4 k.cells (k.regs s).lo.toNat ((k.regs s).hi.toNat-(k.regs s).lo.toNat)) }.goTo (k.next+1)]:=by simp only [za7,zcm,if_pos f]
   rw [e];exact zbM d B ap rfl (zr5 h r hi.1 s hi.2 j.2.2 f.1 f.2 h0 h1 n0 n1)
  ·have e:za7 (.load r s) k=none:=by simp only [za7,zcm,if_neg f]
   rw [e];exact ziX (zjp h r s hi.2 j f)
 | store r s =>
  have j:=(K.regs r hi.1)
  by_cases f:0≤(k.regs r).lo∧(k.regs r).hi≤15
  ·have e:za7 (.store r s) k=some [{ k with cells:=zaP k.cells (k.regs r).lo.toNat (k.regs r).hi.toNat (k.regs s) }.goTo (k.next+1)]:=by simp only [za7,zcm,if_pos f]
   rw [e];exact zbM d B ap rfl (zoi h r hi.1 s hi.2 j.2.2 f.1 f.2 h0 h1 n0 n1)
  ·have e:za7 (.store r s) k=none:=by simp only [za7,zcm,if_neg f]
   rw [e];exact ziX (ziR h r hi.1 s hi.2 j f)
 | read r=>exact zbM d B ap rfl (zr0 h r hi h0 h1 n0 n1)
 | write r=>exact zbM d B ap rfl (zol h r h0 h1 n0 n1)
 | jump to=>exact zbM d B ap rfl (zrB h to h0 h1)
 | less l r to =>
  by_cases e:l=r
  ·subst e;have m:za7 (.less l l to) k=some [k.goTo (k.next+1)]:=by simp only [za7,if_true]
   rw [m];exact zbM d B ap rfl (ziV h l to h0 h1 n0 n1)
  ·have m:za7 (.less l r to) k=some (zbE k l r zeQ zb4 to):=by simp only [za7,if_neg e]
   rw [m];exact zkT d B ap zgx (zhx h rfl K l r hi.1 hi.2 e to h0 h1 n0 n1)
 | same l r to =>
  by_cases e:l=r
  ·subst e;have m:za7 (.same l l to) k=some [k.goTo to]:=by simp only [za7,if_true]
   rw [m];exact zbM d B ap rfl (ziW h l to h0 h1)
  ·have m:za7 (.same l r to) k=some (zbE k l r zeR zaM to):=by simp only [za7,if_neg e]
   rw [m];exact zkT d B ap zgx (zhy h rfl K l r hi.1 hi.2 e to h0 h1 n0 n1)
 | call to =>
  have hl:=B.len;by_cases e:k.behind.length+1=16
  ·have m:za7 (.call to) k=none:=by simp only [za7,if_pos e]
   rw [m];exact ziX (ziS h to (by omega))
  ·have m:za7 (.call to) k=some [{ k with behind:=k.behind++[k.next+1] }.goTo to]:=by simp only [za7,if_neg e]
   rw [m];refine(zrD h B to (by omega) h0 h1 n0 n1).mono ?_;rintro e E ⟨g,c,v,q,G⟩;obtain⟨F,rfl,A⟩:=zz9 v;refine⟨some ⟨F,0,none⟩,1,[b],some ⟨g,0,none⟩,c,_,rfl,A,fun k' hk'=>?_,.inr fun a ha=>(by cases ha;exact G),fun p hp a ha=>?_⟩
   ·rw [List.mem_singleton.1 hk'];exact⟨by show _=(k.behind++[k.next+1]).length;simp,q⟩
   ·cases ha;rw [List.mem_singleton.1 hp];show ¬g=b;omega
 | back =>
  cases hb:k.behind with
  | nil =>
   have m:za7 .back k=some []:=by simp only [za7,hb]
   rw [m];rw [hb] at h;exact zmI (ziT h)
  | cons x r =>
   have z:k.behind≠[]:=by rw [hb];simp
   have m:za7 .back k=some [{ k with behind:=k.behind.dropLast }.goTo (k.behind.getLastD 0)]:=by simp only [za7,hb]
   rw [m];refine(ziU h B (zom z) ap h0 h1).mono ?_;rintro e E ⟨v,q⟩;obtain⟨H,C,D,rfl,A⟩:=zkL v;refine⟨H,C,D,ao,cap,_,rfl,A,fun k' hk'=>?_,.inl rfl,fun p hp a ha=>?_⟩
   ·rw [List.mem_singleton.1 hk'];exact⟨rfl,q⟩
   ·obtain⟨g,rfl⟩:=B.at0 a ha;rcases A.from' p hp with e|e
    ·rw [e];exact ap _ ha
    ·have:=(B.cell g ha).1;show ¬g=p;omega
 | stop=>exact zmI (zrC _)
theorem zrE (v:Value) (w:World):(method 422 171 v "Learn").run Tryz.prog w=.ok (233,v) w:=by kernel_rfl
theorem zon(args:Array Value)(w:World):(callFunc 233 args).run Tryz.prog w=.ok (.enter 233 args) w:=by kernel_rfl
theorem zrF (v:Value) (w:World):(method 422 172 v "Learn").run Tryz.prog w=.ok (240,v) w:=by kernel_rfl
theorem zoo(args:Array Value)(w:World):(callFunc 240 args).run Tryz.prog w=.ok (.enter 240 args) w:=by kernel_rfl
theorem zrG (v:Value) (w:World):(method 422 173 v "Learn").run Tryz.prog w=.ok (244,v) w:=by kernel_rfl
theorem zop(args:Array Value)(w:World):(callFunc 244 args).run Tryz.prog w=.ok (.enter 244 args) w:=by kernel_rfl
theorem zuF (i:Ins) (hi:zhw i) (w:World):(method 422 (insT i) (.agg (insA i)) "Learn").run Tryz.prog w=.ok (insL i,.agg (insA i)) w:=by
 cases i with
 | alu o r s t =>
  have ho:=hi.1;clear hi;rcases(by omega:o=0∨o=1∨o=2) with rfl|rfl|rfl
  ·exact zrE _ w
  ·exact zrF _ w
  ·exact zrG _ w
 | _=>kernel_rfl
theorem zrH(i:Ins)(hi:zhw i)(args:Array Value)(w:World):(callFunc (insL i) args).run Tryz.prog w=.ok (.enter (insL i) args) w:=by
 cases i with
 | alu o r s t =>
  have ho:=hi.1;clear hi;rcases(by omega:o=0∨o=1∨o=2) with rfl|rfl|rfl
  ·exact zon args w
  ·exact zoo args w
  ·exact zop args w
 | _=>kernel_rfl
theorem zuG{w:World}{S b:Nat}{bv:Value}{k:Kn}(X:KnM w b bv k)(e:k.steps=100000):
  qC 116 #[.pointer (some ⟨S,0,none⟩),.pointer (some ⟨b,0,none⟩)] w fun e w'=>e=zak 8 0∧w'=w:=by
 have d:=zcf X;rw [e] at d;go_enter Tryz.func116,Tryz.ntmps116;go_wp2_with(go_at_call 134;(with_reducible refine d.mono ?_);rintro e wx ⟨rfl,c⟩;have a:=c.symm;subst a)
 all_goals go_wp2
 exact⟨rfl,rfl,rfl,rfl,rfl⟩
theorem zrI{w:World}{S b:Nat}{bv:Value}{k:Kn}(X:KnM w b bv k)(e:¬k.steps=100000)(h:qC 135 #[.pointer (some ⟨S,2,none⟩),.pointer (some ⟨b,0,none⟩)] w (qR w (.bool true))):
  qC 116 #[.pointer (some ⟨S,0,none⟩),.pointer (some ⟨b,0,none⟩)] w fun e w'=>e=zak 8 0∧qB w w':=by
 have f:=zcf X;have t:(k.steps == 100000)=false:=by simpa using e
 go_enter Tryz.func116,Tryz.ntmps116;go_wp2_with(first
  | (go_at_call 134;(with_reducible refine f.mono ?_);rintro e wx ⟨rfl,d⟩;have a:=d.symm;subst a)
  | (go_at_call 135;(with_reducible refine h.mono ?_);rintro e wy ⟨rfl,c⟩))
 all_goals go_wp2
 exact⟨rfl,rfl,rfl,rfl,c⟩
theorem zgp(w:World)(ao:Option Addr)(n cap:Nat)(_hn:n≤1000000):qC 114 #[.slice ao n cap] w fun e w'=>e=.returned (.int .i64 (n:Int))∧w'=w:=by
 go_enter Tryz.func114,Tryz.ntmps114;go_wp2;go_ret;exact⟨rfl,rfl⟩
theorem zmo{w:World}{S o:Nat}{v:Value}:Below S w (w.setCell ⟨S,o,none⟩ v):=(Below.refl S w).setCell (p:=⟨S,o,none⟩) (Nat.le_refl _) v
theorem ztT{w:World}{S:Nat}{ao:Option Addr}{n cap looks:Nat}(c1:w.cell? ⟨S,1,none⟩=some (.slice ao n cap))(c6:w.cell? ⟨S,6,none⟩=some (.int .i64 (looks:Int)))(fz:w.frozen? ⟨S,6,none⟩=false)(hl:looks<500000)(hn:n≤1000):
  qC 115 #[.pointer (some ⟨S,0,none⟩)] w fun e w'=>e=.returned (.tuple #[])∧w'=w.setCell ⟨S,6,none⟩ (.int .i64 ((looks:Int)+1)):=by
 have h1:(0:Int)≤(looks:Int):=by omega
 have h2:(looks:Int)<500000:=by omega
 have t1:decide ((500000:Int)<(looks:Int)+1)=false:=by simpa using (by omega:¬(500000:Int)<(looks:Int)+1)
 have t2:decide ((1000:Int)<(n:Int))=false:=by simpa using (by omega:¬(1000:Int)<(n:Int))
 have a:=fun W=>zgp W ao n cap (by omega);go_enter Tryz.func115,Tryz.ntmps115;go_wp2_with(go_at_call 114;(with_reducible refine(a _).mono ?_);rintro e wx ⟨rfl,c⟩;have b:=c.symm;subst b)
 exact bodyPost_end (results_none rfl _ _ _) rfl ⟨rfl,rfl⟩
theorem ztU{w:World}{S:Nat}{ao:Option Addr}{n cap looks:Nat}(c1:w.cell? ⟨S,1,none⟩=some (.slice ao n cap))(c6:w.cell? ⟨S,6,none⟩=some (.int .i64 (looks:Int)))(fz:w.frozen? ⟨S,6,none⟩=false)(hl:looks≤500000)(hn:n≤100000)(h:500000≤looks∨1000<n):
  qC 115 #[.pointer (some ⟨S,0,none⟩)] w fun e w'=>e=zak 8 0∧Below S w w':=by
 have h1:(0:Int)≤(looks:Int):=by omega
 have a:=fun W=>zgp W ao n cap (by omega);by_cases d:looks=500000
 ·subst d;go_enter Tryz.func115,Tryz.ntmps115;go_wp2_with(go_at_call 114;(with_reducible refine(a _).mono ?_);rintro e f ⟨rfl,b⟩;have c:=b.symm;subst c)
  all_goals go_wp2
  exact⟨rfl,rfl,rfl,rfl,zmo⟩
 ·have h2:(looks:Int)<500000:=by omega
  have t1:decide ((500000:Int)<(looks:Int)+1)=false:=by simpa using (by omega:¬(500000:Int)<(looks:Int)+1)
  have t2:(1000:Int)<(n:Int):=by omega
  go_enter Tryz.func115,Tryz.ntmps115;go_wp2_with(go_at_call 114;(with_reducible refine(a _).mono ?_);rintro e f ⟨rfl,b⟩;have c:=b.symm;subst c)
  all_goals go_wp2
  exact⟨rfl,rfl,rfl,rfl,zmo⟩
end Go.Proofs.YtfpgjkbjbbgciaaGreatDoor
