import Derived.Test.YtfpgjkbjbbgciaaGreatDoorMk19
import Derived.Test.YtfpgjkbjbbgciaaGreatDoorMk20
set_option maxRecDepth 100000
set_option maxHeartbeats 8000000
namespace Go.Proofs.YtfpgjkbjbbgciaaGreatDoor
section
open Go.RowKit Sp
theorem KnM.putC{w:World}{b:Nat}{bv:Value}{k:Kn}(h:KnM w b bv k)(a:Nat)(ha:a<16)(v:Rg):KnM ((w.setCell ⟨b,16+a*2,none⟩ (.int .i64 v.lo)).setCell ⟨b,16+a*2+1,none⟩ (.int .i64 v.hi)) b bv { k with cells:=updR k.cells a v }:=by
 have d:KnM (w.setCell ⟨b,16+a*2,none⟩ (.int .i64 v.lo)) b bv { k with cells:=updR k.cells a ⟨v.lo,(k.cells a).hi⟩ }:=h.set (16+a*2) _ _ (h.cC a ha).1 (fun r hr=>⟨by rw [if_neg (by omega)],by rw [if_neg (by omega)]⟩) (fun c hc=>⟨by
  by_cases e:c=a
  ·subst e;rw [if_pos rfl];show _=Value.int .i64 (updR k.cells c ⟨v.lo,(k.cells c).hi⟩ c).lo;rw [zdm]
  ·rw [if_neg (by omega)];show _=Value.int .i64 (updR k.cells a ⟨v.lo,(k.cells a).hi⟩ c).lo;unfold updR;rw [if_neg e],by
  rw [if_neg (by omega)];show _=Value.int .i64 (updR k.cells a ⟨v.lo,(k.cells a).hi⟩ c).hi;unfold updR;by_cases e:c=a
  ·subst e;rw [if_pos rfl]
  ·rw [if_neg e]⟩) (by rw [if_neg (by omega)]) (by rw [if_neg (by omega)]) (by rw [if_neg (by omega)])
 refine d.set (16+a*2+1) _ _ (d.cC a ha).2 (fun r hr=>⟨by rw [if_neg (by omega)],by rw [if_neg (by omega)]⟩) (fun c hc=>⟨?_,?_⟩) (by rw [if_neg (by omega)]) (by rw [if_neg (by omega)]) (by rw [if_neg (by omega)])
 ·rw [if_neg (by omega)];show Value.int .i64 (updR k.cells a ⟨v.lo,(k.cells a).hi⟩ c).lo=Value.int .i64 (updR k.cells a v c).lo;unfold updR;by_cases e:c=a
  ·rw [if_pos e,if_pos e]
  ·rw [if_neg e,if_neg e]
 ·show _=Value.int .i64 (updR k.cells a v c).hi;by_cases e:c=a
  ·subst e;rw [if_pos rfl,zdm]
  ·rw [if_neg (by omega)];show Value.int .i64 (updR k.cells a ⟨v.lo,(k.cells a).hi⟩ c).hi=_;unfold updR;rw [if_neg e,if_neg e]
theorem zdx{w wx:World}{o:Obj}{cs:Array Value}{t:TypeId}(hbx:Below ((w.alloc o).alloc (.cells cs t)).heap.size ((w.alloc o).alloc (.cells cs t)) wx)(j:Nat):wx.cell? ⟨w.heap.size+1,j,none⟩=cs[j]?:=by
 have e:=World.cell?_of_block (a:=⟨w.heap.size+1,j,none⟩) (hbx.block (w.heap.size+1) (by simp));rw [e];have:=World.cell?_alloc_new (w:=w.alloc o) cs t j;rw [World.size_alloc] at this;exact this
def zmp(w:World)(b:Nat)(bv:Value)(k:Kn):Ending→World→Prop:=fun e w'=>e=.returned (.tuple #[])∧KnM w' b bv k∧w.grownBy w' (some b)
theorem zrg{w:World}{b:Nat}{bv:Value}{k:Kn}(h:KnM w b bv k)(a:Nat)(ha:a≤15)(v:Rg):Calls Tryz.prog 258 #[.pointer (some ⟨b,0,none⟩),rv ⟨(a:Int),(a:Int)⟩,rv v] w (zmp w b bv { k with cells:=updR k.cells a v }):=by
 have hlt:=h.lt;have j:∀(W:World),KnM W b bv k→Calls Tryz.prog 255 #[.pointer (some ⟨b,0,none⟩),rv ⟨(a:Int),(a:Int)⟩] W fun e w'=>e=.returned (.slice (some ⟨b,16+a*2,none⟩) 1 (16-a))∧Below W.heap.size W w':=fun W hW=>by
  have t:=zdY hW ⟨(a:Int),(a:Int)⟩ ⟨⟨by show _≤(a:Int);omega,by show(a:Int)≤_;omega⟩,⟨by show _≤(a:Int);omega,by show(a:Int)≤_;omega⟩,by show(a:Int)≤(a:Int);omega⟩ (by show(0:Int)≤(a:Int);omega) (by show(a:Int)≤15;omega);have e1:((a:Int)+1).toNat=a+1:=by omega
  have g:((a:Nat):Int).toNat=a:=by omega
  have i:a+1-a=1:=by omega
  simp only [e1,g,i] at t;exact t
 go_enter Tryz.func258,Tryz.ntmps258;go_wp2_with(go_at_call 255;(with_reducible refine(j _ ((h.alloc _).alloc _)).mono ?_);rintro e f ⟨rfl,c⟩;have d:KnM f b bv k:=((h.alloc _).alloc _).below c (by simp;omega);have c0:=(d.cC a (by omega)).1;have c1:=(d.cC a (by omega)).2;have z0:=d.fz (16+a*2);have z1:=d.fz (16+a*2+1);have v0:f.cell? ⟨w.heap.size+1,0,none⟩=some (.int .i64 v.lo):=zdx c 0;have v1:f.cell? ⟨w.heap.size+1,1,none⟩=some (.int .i64 v.hi):=zdx c 1)
 have l:Below w.heap.size w f:=box2.trans (c.mono (by simp;omega));refine bodyPost_ret (results_none rfl _ _ _) rfl ?_;exact⟨rfl,d.putC a (by omega) v,zae (zah l) (zah (Below.refl _ _))⟩
theorem zxb{w wx:World}{o:Obj}{b:Nat}{bv:Value}{k:Kn}(f:Rg)(hlt:b<w.heap.size)(hbx:Below ((w.alloc o).alloc (.cells #[.int .i64 0,.int .i64 0] 213)).heap.size ((w.alloc o).alloc (.cells #[.int .i64 0,.int .i64 0] 213)) wx)(hK:KnM wx b bv k):LdM w (wx.alloc (.cells #[.int .i64 f.lo,.int .i64 f.hi] 213)) b wx.heap.size bv k f:=by
 have g:=hbx.size;have e2:((w.alloc o).alloc (.cells #[.int .i64 0,.int .i64 0] 213)).heap.size=w.heap.size+1+1:=by simp
 rw [e2] at g hbx;have c:Below (w.heap.size+1+1) _ (wx.alloc (.cells #[.int .i64 f.lo,.int .i64 f.hi] 213)):=hbx.alloc g _;have d:∀ j,(wx.alloc (.cells #[.int .i64 f.lo,.int .i64 f.hi] 213)).cell? ⟨w.heap.size+1,j,none⟩=(#[.int .i64 0,.int .i64 0]:Array Value)[j]?:=fun j=>by
  have e:=World.cell?_of_block (a:=⟨w.heap.size+1,j,none⟩) (c.block (w.heap.size+1) (by omega));rw [e];have:=World.cell?_alloc_new (w:=w.alloc o) #[.int .i64 0,.int .i64 0] 213 j;rw [World.size_alloc] at this;exact this
 refine⟨hK.alloc _,World.cell?_alloc_new _ _ _ 0,World.cell?_alloc_new _ _ _ 1,fun j=>World.frozen?_alloc_at _ _ _ _ (by simp),⟨_,d 0⟩,⟨_,d 1⟩,fun j=>?_,box2.trans (c.mono (by omega)),by simp,by omega,by omega⟩;have e:=World.frozen?_of_block (a:=⟨w.heap.size+1,j,none⟩) (c.block (w.heap.size+1) (by omega));rw [e];exact World.frozen?_alloc_at _ _ _ _ (by simp)
theorem zr3{w:World}{b:Nat}{bv:Value}{k:Kn}(h:KnM w b bv k):Calls Tryz.prog 254 #[.pointer (some ⟨b,0,none⟩),rv ⟨15,15⟩] w fun e w'=>e=.returned (rv (k.cells 15))∧Below w.heap.size w w':=by
 have f:=h.lt;have i:∀(W:World),KnM W b bv k→Calls Tryz.prog 255 #[.pointer (some ⟨b,0,none⟩),rv ⟨15,15⟩] W fun e w'=>e=.returned (.slice (some ⟨b,46,none⟩) 1 1)∧Below W.heap.size W w':=fun W hW=>zdY hW ⟨15,15⟩ ⟨⟨by decide,by decide⟩,⟨by decide,by decide⟩,by decide⟩ (by decide) (by decide);go_enter Tryz.func254,Tryz.ntmps254;go_wp2_with(go_at_call 255;(with_reducible refine(i _ ((h.alloc _).alloc _)).mono ?_);rintro e d ⟨rfl,a⟩;have c:KnM d b bv k:=((h.alloc _).alloc _).below a (by simp;omega);have m:d.cell? ⟨b,46,none⟩=some (.int .i64 (k.cells 15).lo):=(c.cC 15 (by omega)).1;have n:d.cell? ⟨b,47,none⟩=some (.int .i64 (k.cells 15).hi):=(c.cC 15 (by omega)).2)
 have g:=zxb (k.cells 15) f a c;clear a c m n i
 go_loopw [18] (fun ti wr=>ti=.int .i64 0∧LdM w wr b d.heap.size bv k (k.cells 15)) (fun _ _=>0)
 case atStart=>exact⟨rfl,g⟩
 case round =>
  obtain⟨rfl,L⟩:=hrel;have f0:=L.lo;have f1:=L.hi;obtain⟨x0,j⟩:=L.r0;obtain⟨x1,l⟩:=L.r1;have y0:=L.rz 0;have y1:=L.rz 1;have o:=L.low;clear L g;go_wp2;exact zcd (r:=k.cells 15) Tryz.results254 rfl rfl (za4 j l).1 (za4 j l).2 ⟨rfl,zaM o (by omega)⟩
theorem zuq{w:World}{b:Nat}{bv:Value}{k:Kn}(h:KnM w b bv k)(r:Rg)(hr:r.lo≤r.hi)(h0:0≤r.lo)(h1:r.hi≤15):Calls Tryz.prog 254 #[.pointer (some ⟨b,0,none⟩),rv r] w fun e w'=>e=.returned (rv (zbz k.cells r.lo.toNat (r.hi.toNat-r.lo.toNat)))∧Below w.heap.size w w':=by
 obtain⟨lo,hi⟩:=r;obtain⟨a,rfl⟩:∃ a:Nat,lo=(a:Int):=⟨lo.toNat,by have:0≤lo:=h0;omega⟩
 obtain⟨n,rfl⟩:∃ n:Nat,hi=(a:Int)+(n:Int):=⟨(hi-a).toNat,by have:(a:Int)≤hi:=hr;omega⟩
 have h1':(a:Int)+(n:Int)≤15:=h1;have e1:((a:Int)+(n:Int)).toNat-((a:Nat):Int).toNat=n:=by omega
 have c:((a:Nat):Int).toNat=a:=by omega
 show Calls Tryz.prog 254 #[.pointer (some ⟨b,0,none⟩),rv ⟨(a:Int),(a:Int)+(n:Int)⟩] w fun e w'=>e=.returned (rv (zbz k.cells ((a:Nat):Int).toNat (((a:Int)+(n:Int)).toNat-((a:Nat):Int).toNat)))∧Below w.heap.size w w'
 rw [e1,c];by_cases d:a<15
 ·exact zr2 h a n d (by omega)
 ·obtain rfl:a=15:=by omega
  obtain rfl:n=0:=by omega
  exact zr3 h
theorem za9{w w':World}{B b o n:Nat}(h:w.there b o n)(hb:Below B w w')(hB:b<B):w'.there b o n:=fun j hj=>by
 obtain⟨h1,h2⟩:=h j hj;exact⟨by rw [hb.cell (p:=⟨b,o+j,none⟩) hB];exact h1,by rw [World.frozen?_of_block (w:=w) (hb.block b hB)];exact h2⟩
theorem zcv(ds:List Value)(hl:ds.length=30):(Tryz.prog.info? 34).map (·.size)=some ds.toArray.size:=by rw [show ds.toArray.size=30 by simp [hl]];exact Tryz.info34
theorem zlH(w:World)(a:Value):∀ j u,[a][j]?=some u→(w.alloc (.cells #[a] 3)).cell? ((⟨w.heap.size,0,none⟩:Addr).add j)=some u:=by
 intro j u b;have c:=World.cell?_alloc_new (w:=w) #[a] 3 j;have h2:(⟨w.heap.size,0,none⟩:Addr).add j=⟨w.heap.size,j,none⟩:=by simp [Addr.add];omega
 rw [h2,c];rw [←List.getElem?_toArray] at b;exact b
theorem zeY{P:Program}{o:Oper}{a:Act}{W:World}{K:Act→Prop}(ty:TypeId)(x:Operand)(ho:o.op=.load ty x)(b f:Nat)(hx:a.eval x=.pointer (some ⟨b,f,none⟩))(cs:List Value)(d:TypeDesc)(hc:W.rangeAt b f cs)
  (hu:P.underlying ty=some d) (hd:d.isRow=true) (hi:(P.info? ty).map (·.size)=some cs.length) (h:K (a.put o.dst (.agg cs.toArray))):o.quiet P a (fun w'=>∃ k,w'=W.drewN k) K:=by
 refine⟨_,fun w hw=>?_,h⟩;obtain⟨k,rfl⟩:=hw;have c:(W.drewN k).rangeAt b f cs:=hc;unfold Oper.quietAt execOp;simp only [ho,hx,Instr.loadAt,Instr.sureAddr,Sem.run_bind,Sem.run_pure,Result.andThen_ok,run_loadVar_mid _ b f ty cs d c hu hd hi];exact⟨rfl,rfl⟩
theorem zix(w:World)(ds:List Value)(t:TypeId):(w.alloc (.cells ds.toArray t)).rangeAt w.heap.size 0 ds:=by
 intro j v a;rw [Nat.zero_add,World.cell?_alloc_new (w:=w) ds.toArray t j,List.getElem?_toArray];exact a
theorem Tryz.info31:(Tryz.prog.info? 31).map (·.size)=some 8:=by kernel_rfl
theorem Tryz.info32:(Tryz.prog.info? 32).map (·.size)=some 16:=by kernel_rfl
end
namespace Sp
theorem zf6{x:List UInt8}(h:(!x.isEmpty&&x.all fun c=>decide (33≤c.toNat∧c.toNat<127∧¬c.toNat=59))=true):Wd x:=by
 rw [Bool.and_eq_true] at h;refine⟨fun e=>?_,fun c hc=>of_decide_eq_true (List.all_eq_true.1 h.2 c hc)⟩;rw [e] at h;exact absurd h.1 (by decide)
theorem zya(n:Int):Wd (digL n):=⟨zzl n,fun c hc=>by
 rcases zrX n c hc with e|e
 ·rw [e];decide
 ·omega⟩
def regW(r:Nat):List UInt8:=[114,UInt8.ofNat (48+r)]
theorem zfa(r:Nat)(h:r<8):Wd (regW r):=⟨by simp [regW],fun c hc=>by
 rcases List.mem_cons.1 hc with e|e
 ·rw [e];decide
 ·rw [List.mem_singleton.1 e];have:(UInt8.ofNat (48+r)).toNat=48+r:=by simp;omega
  omega⟩
theorem zbo(r:Nat)(h:r<8):opOk 82 (ba (regW r))=true:=by
 have:reg (ba (regW r))=(r:Int):=zxZ r h;unfold opOk;rw [if_pos rfl,this];simp
theorem zpP(n:Int)(h:-9223372036854775808≤n)(h':n≤9223372036854775807):opOk 75 (ba (digL n))=true:=by
 unfold opOk;rw [if_neg (by decide),if_pos rfl,zpL n h h']
theorem blk0:∀ c∈([]:List UInt8),c=32∨c=9:=fun c hc=>by cases hc
end Sp
section
open Go.RowKit Sp
theorem zo0(x:Int)(w:World):Calls Tryz.prog 277 #[rv ⟨x,x⟩,rv ⟨x,x⟩] w (zey w ⟨x,x⟩ ⟨x,x⟩ none):=by
 go_enter Tryz.func277,Tryz.ntmps277;go_wp2
 go_region
 all_goals go_wp2
 all_goals exact zez (l:=⟨x,x⟩) (r:=⟨x,x⟩) Tryz.results277 rfl rfl rfl rfl (zaR _ _ _ _ _ _ 0) (zaR _ _ _ _ _ _ 1) (zaC _ _ _ _ _ _ 0) (zaC _ _ _ _ _ _ 1) ⟨zbV.drew,_,_,rfl⟩
theorem zo1(l r:Rg)(w:World)(hl:l.Ok)(hr:r.Ok):Calls Tryz.prog 277 #[rv l,rv r] w (zey w l r (zbd l r)):=by
 obtain⟨a,b⟩:=l;obtain⟨c,d⟩:=r;by_cases e:a=c
 ·subst e;by_cases f:b=d
  ·subst f;by_cases g:a=b
   ·subst g;rw [show zbd ⟨a,a⟩ ⟨a,a⟩=none from by unfold zbd;rw [if_pos ⟨⟨rfl,rfl⟩,rfl⟩]];exact zo0 a w
   ·exact zf5 a b a b w hl hl (.inr (.inr ⟨by simp,by simp,by simpa using g⟩))
  ·exact zf5 a b a d w hl hr (.inr (.inl ⟨by simp,by simpa using f⟩))
 ·exact zf5 a b c d w hl hr (.inl (by simpa using e))
theorem zhB{w wx:World}{o:Obj}{cs:Array Value}{t:TypeId}(hbx:Below ((w.alloc o).alloc (.cells cs t)).heap.size ((w.alloc o).alloc (.cells cs t)) wx)(j:Nat):wx.frozen? ⟨w.heap.size+1,j,none⟩=false:=by
 have e:=World.frozen?_of_block (a:=⟨w.heap.size+1,j,none⟩) (hbx.block (w.heap.size+1) (by simp));rw [e];exact World.frozen?_alloc_at _ _ _ _ (by simp)
theorem zki{w wx:World}{o:Obj}{cs:Array Value}{t:TypeId}(hbx:Below ((w.alloc (.cells cs t)).alloc o).heap.size ((w.alloc (.cells cs t)).alloc o) wx)(j:Nat):wx.cell? ⟨w.heap.size,j,none⟩=cs[j]? :=
 (World.cell?_of_block (a:=⟨w.heap.size,j,none⟩) ((hbx.block w.heap.size (by simp;omega)).trans (Below.heap_alloc _ _ _ (by simp)))).trans (World.cell?_alloc_new _ _ _ j)
def subR(k:Kn)(s t:Nat):Rg:=if s=t then only 0 else(k.regs s).minus (k.regs t)
theorem zur{w:World}{b:Nat}{k:Kn}(r s:Nat):Calls Tryz.prog 241 #[.agg #[.int .i64 (r:Int),.int .i64 (s:Int),.int .i64 (s:Int)],.pointer (some ⟨b,0,none⟩)] w fun e w'=>e=.returned (rv (subR k s s))∧Below w.heap.size w w':=by
 have e0:subR k s s=only 0:=if_pos rfl;rw [e0];go_enter Tryz.func241,Tryz.ntmps241;go_wp2_with(go_at_call 226;(with_reducible refine(zh7 0 _).mono ?_);rintro e f ⟨rfl,a⟩;have c:f.cell? ⟨w.heap.size+1,0,none⟩=some (.int .i64 0):=zdx a 0;have d:f.cell? ⟨w.heap.size+1,1,none⟩=some (.int .i64 0):=zdx a 1;have z0:=zhB a 0;have z1:=zhB a 1)
 exact zcd (r:=only 0) Tryz.results241 rfl rfl (za4 c d).1 (za4 c d).2 ⟨rfl,zaM (box2.trans (a.mono (by simp;omega))) (by omega)⟩
theorem zr5{w:World}{b:Nat}{bv:Value}{k:Kn}(h:KnM w b bv k)(r s:Nat)(hs:s<8)(t:Nat)(ht:t<8)(hne:¬s=t):Calls Tryz.prog 241 #[.agg #[.int .i64 (r:Int),.int .i64 (s:Int),.int .i64 (t:Int)],.pointer (some ⟨b,0,none⟩)] w fun e w'=>e=.returned (rv (subR k s t))∧Below w.heap.size w w':=by
 have e0:subR k s t=(k.regs s).minus (k.regs t):=if_neg hne;rw [e0];have hlt:=h.lt;have s0:(0:Int)≤(s:Int):=by omega
 have s1:(s:Int)<8:=by omega
 have u0:(0:Int)≤(t:Int):=by omega
 have u1:(t:Int)<8:=by omega
 have t0:((s:Int) == (t:Int))=false:=by simpa using (by omega:¬(s:Int)=(t:Int))
 obtain⟨A,c⟩:∃ A,(w.alloc (.cells #[.int .i64 (r:Int),.int .i64 (s:Int),.int .i64 (t:Int)] 172)).alloc (.cells #[.int .i64 0,.int .i64 0] 213)=A:=⟨_,rfl⟩
 have d:∀ W,Below A.heap.size A W→KnM W b bv k:=fun W a=>by subst c;exact((h.alloc _).alloc _).below a (by simp;omega)
 have m:∀ W,Below A.heap.size A W→W.cell? ⟨w.heap.size+1,0,none⟩=some (.int .i64 0)∧W.cell? ⟨w.heap.size+1,1,none⟩=some (.int .i64 0)∧W.frozen? ⟨w.heap.size+1,0,none⟩=false∧W.frozen? ⟨w.heap.size+1,1,none⟩=false:=fun W a=>by subst c;exact⟨zdx a 0,zdx a 1,zhB a 0,zhB a 1⟩
 have n:∀ W,Below A.heap.size A W→Below w.heap.size w W:=fun W a=>by subst c;exact box2.trans (a.mono (by simp;omega))
 have f:∀ W,Below A.heap.size A W→(W.cell? ⟨w.heap.size,1,none⟩=some (.int .i64 (s:Int))∧W.cell? ⟨w.heap.size,2,none⟩=some (.int .i64 (t:Int)))∧(W.cell? ⟨b,s*2,none⟩=some (.int .i64 (k.regs s).lo)∧W.cell? ⟨b,s*2+1,none⟩=some (.int .i64 (k.regs s).hi))∧(W.cell? ⟨b,t*2,none⟩=some (.int .i64 (k.regs t).lo)∧W.cell? ⟨b,t*2+1,none⟩=some (.int .i64 (k.regs t).hi)):=fun W a =>
  ⟨by subst c;exact⟨zki a 1,zki a 2⟩,(d W a).cR s hs,(d W a).cR t ht⟩
 obtain⟨⟨j,l⟩,_⟩:=f A (Below.refl _ _);go_enter Tryz.func241,Tryz.ntmps241;go_wp2;refine zad 15 (fun W=>Below A.heap.size A W) (Below.refl _ _).drew (by kernel_rfl) (by kernel_rfl) ?_;simp only [List.take_succ_cons,List.take_zero,List.drop_succ_cons,List.drop_zero];clear j l;repeat(refine zab rfl ?_ (fun W a=>?_) ?_;rotate_left 1;· (obtain⟨⟨f0,j⟩,⟨l,f3⟩,f4,f5⟩:=f W a;go_simp;with_reducible rfl))
 refine zaJ rfl 242 #[rv (k.regs s),rv (k.regs t)] (rv ((k.regs s).minus (k.regs t))) (fun W a=>?_) (fun W a=>(zui _ _ W).mono (fun e w' hh=>⟨hh.1,a.trans (hh.2.mono a.size)⟩)) ?_
 ·go_simp
 refine wpQuiet_nil ?_;intro W a;obtain⟨g,i,z0,z1⟩:=m W a;go_wp2;exact zcd (r:=(k.regs s).minus (k.regs t)) Tryz.results241 rfl rfl (za4 g i).1 (za4 g i).2 ⟨rfl,zaM (n W a) (by omega)⟩
theorem zxc{w:World}{b:Nat}{bv:Value}{k:Kn}(h:KnM w b bv k)(r s:Nat)(hs:s<8)(t:Nat)(ht:t<8):Calls Tryz.prog 241 #[.agg #[.int .i64 (r:Int),.int .i64 (s:Int),.int .i64 (t:Int)],.pointer (some ⟨b,0,none⟩)] w fun e w'=>e=.returned (rv (subR k s t))∧Below w.heap.size w w':=by
 by_cases e:s=t
 ·subst e;exact zur r s
 ·exact zr5 h r s hs t ht e
end
end Go.Proofs.YtfpgjkbjbbgciaaGreatDoor
