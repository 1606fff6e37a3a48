import Derived.Test.YtfpgjkbjbbgciaaGreatDoorMj31
import Derived.Test.YtfpgjkbjbbgciaaGreatDoorMj33
set_option maxRecDepth 100000
set_option maxHeartbeats 8000000
namespace Go.Proofs.YtfpgjkbjbbgciaaGreatDoor
open Go.RowKit Sp
structure Rs where
 marked:List Mk
 steps:Int
 seen:Nat
 covers:Bool
def Rs.begin(R:Rs)(s:Int):Rs:=⟨if zcc s then [] else R.marked,s,0,true⟩
structure RsC(w:World)(S o:Nat)(mv:Value)(R:Rs):Prop where
 cM:w.cell? ⟨S,o,none⟩=some mv
 cS:w.cell? ⟨S,o+1,none⟩=some (.int .i64 R.steps)
 cN:w.cell? ⟨S,o+2,none⟩=some (.int .i64 (R.seen:Int))
 cC:w.cell? ⟨S,o+3,none⟩=some (.bool R.covers)
structure Kept4(w w':World)(S o:Nat)(hb:Option Nat):Prop where
 os:w'.os=w.os
 tape:w'.tape=w.tape
 output:w'.output=w.output
 size:w.heap.size≤w'.heap.size
 block:∀ q,q<w.heap.size→¬q=S→some q≠hb→w'.heap[q]?=w.heap[q]?
 cell:∀ j,¬j=o→¬j=o+1→¬j=o+2→¬j=o+3→w'.cell? ⟨S,j,none⟩=w.cell? ⟨S,j,none⟩
 fz:∀ j,w'.frozen? ⟨S,j,none⟩=w.frozen? ⟨S,j,none⟩
theorem RsC.below{w w':World}{S o:Nat}{mv:Value}{R:Rs}(h:RsC w S o mv R)(hb:qB w w'):RsC w' S o mv R:=by
 have b:S<w.heap.size:=World.block_lt_of_cell? w _ h.cM;have c:∀ j,w'.cell? ⟨S,j,none⟩=w.cell? ⟨S,j,none⟩:=fun j=>World.cell?_of_block (a:=⟨S,j,none⟩) (hb.block S b);exact⟨(c _).trans h.cM,(c _).trans h.cS,(c _).trans h.cN,(c _).trans h.cC⟩
theorem RsC.set{w:World}{S o:Nat}{mv mv2:Value}{R R2:Rs}(h:RsC w S o mv R)(n:Nat)(v u:Value)(hu:w.cell? ⟨S,n,none⟩=some u)
  (h1:(if o=n then v else mv)=mv2) (h2:(if o+1=n then v else .int .i64 R.steps)=.int .i64 R2.steps) (h3:(if o+2=n then v else .int .i64 (R.seen:Int))=.int .i64 (R2.seen:Int)) (h4:(if o+3=n then v else .bool R.covers)=.bool R2.covers):RsC (w.setCell ⟨S,n,none⟩ v) S o mv2 R2:=by
 have e:∀ j x,w.cell? ⟨S,j,none⟩=some x→(w.setCell ⟨S,n,none⟩ v).cell? ⟨S,j,none⟩=some (if j=n then v else x):=fun j x hx=>by
  rw [zat w S n j v u hu];split
  ·rfl
  ·exact hx
 exact⟨by rw [e _ _ h.cM,h1],by rw [e _ _ h.cS,h2],by rw [e _ _ h.cN,h3],by rw [e _ _ h.cC,h4]⟩
theorem zc8{w:World}{S o n:Nat}{v u:Value}{hb:Option Nat}(hu:w.cell? ⟨S,n,none⟩=some u)(hn:n=o∨n=o+1∨n=o+2∨n=o+3):Kept4 w (w.setCell ⟨S,n,none⟩ v) S o hb :=
 ⟨rfl,rfl,rfl,by rw [World.size_setCell];exact Nat.le_refl _,fun q _ h1 _=>Below.heap_setCell w _ _ q h1,fun j h1 h2 h3 h4=>by rw [zat w S n j v u hu,if_neg (by omega)],fun j=>zdj⟩
theorem Kept4.trans{a b c:World}{S o:Nat}{hb:Option Nat}(h:Kept4 a b S o hb)(k:Kept4 b c S o hb):Kept4 a c S o hb :=
 ⟨k.os.trans h.os,k.tape.trans h.tape,k.output.trans h.output,Nat.le_trans h.size k.size,fun q hq h1 h2=>(k.block q (Nat.lt_of_lt_of_le hq h.size) h1 h2).trans (h.block q hq h1 h2),fun j h1 h2 h3 h4=>(k.cell j h1 h2 h3 h4).trans (h.cell j h1 h2 h3 h4),fun j=>(k.fz j).trans (h.fz j)⟩
theorem zcW{w w':World}{S o:Nat}{hb:Option Nat}(hS:S<w.heap.size)(h:qB w w'):Kept4 w w' S o hb :=
 ⟨h.os,h.tape,h.output,h.size,fun q hq _ _=>h.block q hq,fun j _ _ _ _=>World.cell?_of_block (a:=⟨S,j,none⟩) (h.block S hS),fun j=>World.frozen?_of_block (a:=⟨S,j,none⟩) (h.block S hS)⟩
def begN(s:Int)(n:Nat):Nat:=if zcc s then 0 else n
def zob(w:World)(S o:Nat)(mv:Value)(R:Rs):Ending→World→Prop:=fun e w'=>e=.returned (.tuple #[])∧RsC w' S o mv R∧Kept4 w w' S o none
theorem zru{w:World}{S o n cap:Nat}{ao:Option Addr}{R:Rs}(h:RsC w S o (.slice ao n cap) R)(fz:∀ j,w.frozen? ⟨S,j,none⟩=false)(hn:n≤cap)(hcap:cap≤maxLen)(h0:ao=none→n=0∧cap=0)(s:Int)(s0:0≤s)(s1:s≤100000):
  qC 151 #[.pointer (some ⟨S,o,none⟩),.int .i64 s] w (zob w S o (.slice ao (begN s n) cap) (R.begin s)):=by
 have hS:S<w.heap.size:=World.block_lt_of_cell? w _ h.cM;have C:=h.cM;have c1:=h.cS;have c2:=h.cN;have c3:=h.cC;have f0:=fz o;have f1:=fz (o+1);have f2:=fz (o+2);have f3:=fz (o+3);obtain⟨X,B⟩:∃ X,(((w.setCell ⟨S,o,none⟩ (.slice ao n cap)).setCell ⟨S,o+1,none⟩ (.int .i64 s)).setCell ⟨S,o+2,none⟩ (.int .i64 0)).setCell ⟨S,o+3,none⟩ (.bool true)=X:=⟨_,rfl⟩
 have u:RsC (w.setCell ⟨S,o,none⟩ (.slice ao n cap)) S o (.slice ao n cap) R:=h.set o _ _ C (by rw [if_pos rfl]) (by rw [if_neg (by omega)]) (by rw [if_neg (by omega)]) (by rw [if_neg (by omega)]);have v:RsC ((w.setCell ⟨S,o,none⟩ (.slice ao n cap)).setCell ⟨S,o+1,none⟩ (.int .i64 s)) S o (.slice ao n cap) ⟨R.marked,s,R.seen,R.covers⟩:=u.set (o+1) _ _ u.cS (by rw [if_neg (by omega)]) (by rw [if_pos rfl]) (by rw [if_neg (by omega)]) (by rw [if_neg (by omega)]);have x:RsC (((w.setCell ⟨S,o,none⟩ (.slice ao n cap)).setCell ⟨S,o+1,none⟩ (.int .i64 s)).setCell ⟨S,o+2,none⟩ (.int .i64 0)) S o (.slice ao n cap) ⟨R.marked,s,0,R.covers⟩:=v.set (o+2) _ _ v.cN (by rw [if_neg (by omega)]) (by rw [if_neg (by omega)]) (by rw [if_pos rfl];rfl) (by rw [if_neg (by omega)]);have y:RsC X S o (.slice ao n cap) ⟨R.marked,s,0,true⟩:=by rw [←B];exact x.set (o+3) _ _ x.cC (by rw [if_neg (by omega)]) (by rw [if_neg (by omega)]) (by rw [if_neg (by omega)]) (by rw [if_pos rfl])
 have A:Kept4 w X S o none:=by rw [←B];exact(zc8 C (by omega)).trans ((zc8 u.cS (by omega)).trans ((zc8 v.cN (by omega)).trans (zc8 x.cC (by omega))))
 have l:Hid (RsC X S o (.slice ao n cap) ⟨R.marked,s,0,true⟩∧Kept4 w X S o none∧(∀ j,w.frozen? ⟨S,j,none⟩=false)∧n≤cap∧cap≤maxLen∧(ao=none→n=0∧cap=0)):=⟨y,A,fz,hn,hcap,h0⟩
 have g:=zcV y.cS s0 s1;clear u v x y A fz hn hcap h0 h;by_cases m:zcc s=true
 ·have d:qC 167 #[.pointer (some ⟨S,o,none⟩)] X (qR X (.bool true)):=by
   have t:zcc (⟨R.marked,s,0,true⟩:Rs).steps=true:=m;rw [t] at g;exact g
  clear g;have f:∀ c,qB X c→zob w S o (.slice ao (begN s n) cap) (R.begin s) (.returned (.tuple #[])) (c.setCell ⟨S,o,none⟩ (.slice ao 0 cap)):=fun c b=>by
   obtain⟨k,q,_⟩:=l.out;have z:=k.below b;have i:S<X.heap.size:=World.block_lt_of_cell? _ _ k.cM;refine⟨rfl,?_,q.trans ((zcW i b).trans (zc8 z.cM (by omega)))⟩;unfold Rs.begin begN;rw [if_pos m,if_pos m];exact z.set o _ _ z.cM (by rw [if_pos rfl]) (by rw [if_neg (by omega)]) (by rw [if_neg (by omega)]) (by rw [if_neg (by omega)])
  have r:∀ c,qB X c→c.cell? ⟨S,o,none⟩=some (.slice ao n cap)∧c.frozen? ⟨S,o,none⟩=false:=fun c b=>by
   obtain⟨k,q,fz,_⟩:=l.out;have i:S<X.heap.size:=World.block_lt_of_cell? _ _ k.cM;exact⟨(k.below b).cM,((zcW (o:=o) (hb:=none) i b).fz o).trans ((q.fz o).trans (fz o))⟩
  cases ao with
  | none =>
   obtain⟨_,_,_,_,_,h0⟩:=l.out;obtain⟨rfl,rfl⟩:=h0 rfl;clear l h0;go_enter Tryz.func151,Tryz.ntmps151;go_wp2_with(go_at_call 167;(with_reducible refine d.mono ?_);rintro e c ⟨rfl,b⟩;obtain⟨D,E⟩:=r c b)
   exact bodyPost_end (results_none rfl _ _ _) rfl (f c b)
  | some a =>
   obtain⟨_,_,_,hn,hcap,h0⟩:=l.out;clear l h0;unfold maxLen at hcap;go_enter Tryz.func151,Tryz.ntmps151;go_wp2_with(go_at_call 167;(with_reducible refine d.mono ?_);rintro e c ⟨rfl,b⟩;obtain⟨D,E⟩:=r c b)
   exact bodyPost_end (results_none rfl _ _ _) rfl (f c b)
 ·have p:zcc s=false:=by simpa using m
  have d:qC 167 #[.pointer (some ⟨S,o,none⟩)] X (qR X (.bool false)):=by
   have t:zcc (⟨R.marked,s,0,true⟩:Rs).steps=false:=p;rw [t] at g;exact g
  clear g;have f:∀ c,qB X c→zob w S o (.slice ao (begN s n) cap) (R.begin s) (.returned (.tuple #[])) c:=fun c b=>by
   obtain⟨k,q,_⟩:=l.out;have i:S<X.heap.size:=World.block_lt_of_cell? _ _ k.cM;refine⟨rfl,?_,q.trans (zcW i b)⟩;unfold Rs.begin begN;rw [if_neg m,if_neg m];exact k.below b
  clear l m p;go_enter Tryz.func151,Tryz.ntmps151;go_wp2_with(go_at_call 167;(with_reducible refine d.mono ?_);rintro e c ⟨rfl,b⟩)
  exact bodyPost_end (results_none rfl _ _ _) rfl (f c b)
section
theorem zah{α:Type}{l:List α}{n:Nat}(h:l.length=n+1):∃ a r,l=a :: r∧r.length=n:=by
 cases l with
 | nil=>simp at h
 | cons a r=>exact⟨a,r,rfl,by simpa using h⟩
theorem zz5{α:Type}(l:List α)(h:l.length=51):∃ x0 x1 x2 x3 x4 x5 x6 x7 x8 x9 x10 x11 x12 x13 x14 x15 x16 x17 x18 x19 x20 x21 x22 x23 x24 x25 x26 x27 x28 x29 x30 x31 x32 x33 x34 x35 x36 x37 x38 x39 x40 x41 x42 x43 x44 x45 x46 x47 x48 x49 x50,l=x0 :: x1 :: x2 :: x3 :: x4 :: x5 :: x6 :: x7 :: x8 :: x9 :: x10 :: x11 :: x12 :: x13 :: x14 :: x15 :: x16 :: x17 :: x18 :: x19 :: x20 :: x21 :: x22 :: x23 :: x24 :: x25 :: x26 :: x27 :: x28 :: x29 :: x30 :: x31 :: x32 :: x33 :: x34 :: x35 :: x36 :: x37 :: x38 :: x39 :: x40 :: x41 :: x42 :: x43 :: x44 :: x45 :: x46 :: x47 :: x48 :: x49 :: x50 :: []:=by
 obtain⟨x0,l0,e0,h0⟩:=zah h;obtain⟨x1,l1,e1,h1⟩:=zah h0;obtain⟨x2,l2,e2,h2⟩:=zah h1;obtain⟨x3,l3,e3,h3⟩:=zah h2;obtain⟨x4,l4,e4,h4⟩:=zah h3;obtain⟨x5,l5,e5,h5⟩:=zah h4;obtain⟨x6,l6,e6,h6⟩:=zah h5;obtain⟨x7,l7,e7,h7⟩:=zah h6;obtain⟨x8,l8,e8,h8⟩:=zah h7;obtain⟨x9,l9,e9,h9⟩:=zah h8;obtain⟨x10,l10,am,p⟩:=zah h9;obtain⟨x11,l11,C,K⟩:=zah p;obtain⟨x12,l12,aI,v⟩:=zah K;obtain⟨x13,l13,H,ab⟩:=zah v;obtain⟨x14,l14,aj,aE⟩:=zah ab;obtain⟨x15,l15,aa,I⟩:=zah aE;obtain⟨x16,l16,N,ac⟩:=zah I;obtain⟨x17,l17,w,f⟩:=zah ac;obtain⟨x18,l18,u,z⟩:=zah f;obtain⟨x19,l19,s,q⟩:=zah z;obtain⟨x20,l20,az,J⟩:=zah q;obtain⟨x21,l21,V,aG⟩:=zah J;obtain⟨x22,l22,x,D⟩:=zah aG;obtain⟨x23,l23,A,aq⟩:=zah D;obtain⟨x24,l24,t,av⟩:=zah aq;obtain⟨x25,l25,E,aH⟩:=zah av;obtain⟨x26,l26,ay,aF⟩:=zah aH;obtain⟨x27,l27,an,n⟩:=zah aF;obtain⟨x28,l28,o,G⟩:=zah n;obtain⟨x29,l29,d,ae⟩:=zah G;obtain⟨x30,l30,a,Q⟩:=zah ae;obtain⟨x31,l31,j,aC⟩:=zah Q;obtain⟨x32,l32,al,M⟩:=zah aC;obtain⟨x33,l33,T,i⟩:=zah M;obtain⟨x34,l34,W,m⟩:=zah i;obtain⟨x35,l35,ah,R⟩:=zah m;obtain⟨x36,l36,ai,au⟩:=zah R;obtain⟨x37,l37,S,Z⟩:=zah au;obtain⟨x38,l38,ag,aw⟩:=zah Z;obtain⟨x39,l39,g,F⟩:=zah aw;obtain⟨x40,l40,ad,ap⟩:=zah F;obtain⟨x41,l41,r,aB⟩:=zah ap;obtain⟨x42,l42,B,L⟩:=zah aB;obtain⟨x43,l43,ak,c⟩:=zah L;obtain⟨x44,l44,U,Y⟩:=zah c;obtain⟨x45,l45,ao,af⟩:=zah Y;obtain⟨x46,l46,ar,k⟩:=zah af;obtain⟨x47,l47,aD,P⟩:=zah k;obtain⟨x48,l48,O,ax⟩:=zah P;obtain⟨x49,l49,y,aA⟩:=zah ax;obtain⟨x50,l50,b,X⟩:=zah aA;have e:=List.length_eq_zero_iff.1 X;exact⟨x0,x1,x2,x3,x4,x5,x6,x7,x8,x9,x10,x11,x12,x13,x14,x15,x16,x17,x18,x19,x20,x21,x22,x23,x24,x25,x26,x27,x28,x29,x30,x31,x32,x33,x34,x35,x36,x37,x38,x39,x40,x41,x42,x43,x44,x45,x46,x47,x48,x49,x50,by rw [e0,e1,e2,e3,e4,e5,e6,e7,e8,e9,am,C,aI,H,aj,aa,N,w,u,s,az,V,x,A,t,E,ay,an,o,d,a,j,al,T,W,ah,ai,S,ag,g,ad,r,B,ak,U,ao,ar,aD,O,y,b,e]⟩
theorem zwJ(W:World)(x0 x1 x2 x3 x4 x5 x6 x7 x8 x9 x10 x11 x12 x13 x14 x15 x16 x17 x18 x19 x20 x21 x22 x23 x24 x25 x26 x27 x28 x29 x30 x31 x32 x33 x34 x35 x36 x37 x38 x39 x40 x41 x42 x43 x44 x45 x46 x47 x48 x49 x50:Value):(Instr.buildSlice 152 1 #[(0,.agg (x0 :: x1 :: x2 :: x3 :: x4 :: x5 :: x6 :: x7 :: x8 :: x9 :: x10 :: x11 :: x12 :: x13 :: x14 :: x15 :: x16 :: x17 :: x18 :: x19 :: x20 :: x21 :: x22 :: x23 :: x24 :: x25 :: x26 :: x27 :: x28 :: x29 :: x30 :: x31 :: x32 :: x33 :: x34 :: x35 :: x36 :: x37 :: x38 :: x39 :: x40 :: x41 :: x42 :: x43 :: x44 :: x45 :: x46 :: x47 :: x48 :: x49 :: x50 :: []).toArray)]).run Tryz.prog W=.ok (.slice (some ⟨W.heap.size,0,none⟩) 1 1) (W.alloc (.cells (x0 :: x1 :: x2 :: x3 :: x4 :: x5 :: x6 :: x7 :: x8 :: x9 :: x10 :: x11 :: x12 :: x13 :: x14 :: x15 :: x16 :: x17 :: x18 :: x19 :: x20 :: x21 :: x22 :: x23 :: x24 :: x25 :: x26 :: x27 :: x28 :: x29 :: x30 :: x31 :: x32 :: x33 :: x34 :: x35 :: x36 :: x37 :: x38 :: x39 :: x40 :: x41 :: x42 :: x43 :: x44 :: x45 :: x46 :: x47 :: x48 :: x49 :: x50 :: []).toArray 217)):=by kernel_rfl
theorem zz6(W:World)(cs:List Value)(h:cs.length=51):(Instr.buildSlice 152 1 #[(0,.agg cs.toArray)]).run Tryz.prog W=.ok (.slice (some ⟨W.heap.size,0,none⟩) 1 1) (W.alloc (.cells cs.toArray 217)):=by
 obtain⟨Q,S,x2,Y,X,U,R,V,T,Z,I,p,o,d,z,G,k,j,w,J,l,K,e,a,L,f,b,H,g,E,i,N,m,u,x,r,n,C,y,D,O,F,c,P,A,t,B,q,v,s,M,rfl⟩:=zz5 cs h;exact zwJ W Q S x2 Y X U R V T Z I p o d z G k j w J l K e a L f b H g E i N m u x r n C y D O F c P A t B q v s M
theorem Tryz.info217:(Tryz.prog.info? 217).map (fun i=>(i.size,i.bytes))=some (51,424):=by kernel_rfl
theorem Tryz.zero217:((Tryz.prog.info? 217).bind (·.zero)).map (·.cells.size)=some 51:=by kernel_rfl
theorem Tryz.under152:Tryz.prog.underlying 152=some (.slice 217):=by kernel_rfl
theorem zkP:∃ i z,Tryz.prog.info? 217=some i∧i.zero=some z∧i.size=51∧i.bytes=424∧z.cells.size=51:=by
 have b:=Tryz.info217;have a:=Tryz.zero217;cases hi:Tryz.prog.info? 217 with
 | none=>rw [hi] at b;cases b
 | some i =>
  rw [hi] at b a;simp only [Option.map_some,Option.some.injEq,Prod.mk.injEq,Option.bind_some] at b a;cases hz:i.zero with
  | none=>rw [hz] at a;cases a
  | some z =>
   rw [hz] at a;simp only [Option.map_some,Option.some.injEq] at a;exact⟨i,z,rfl,hz,b.1,b.2,a⟩
section
variable {P:Program} {md:Region.Mode} {ops:Array Oper} {Q:Exit→Act→World→Prop} {fuel:Nat} {listed:Array Bool} {a:Act} {w:World}
theorem zdG(i:Nat){o:Oper}(hr:Region.ready md ops listed=[i])(ho:ops[i]?=some o)(hg:o.guard=none)(v:Value)(w':World)(h:(execOp a.eval o).run P w=.ok (.value v) w')(rest:wpAny P md ops Q fuel (listed.setIfInBounds i true) (a.put o.dst v) w'):wpAny P md ops Q (fuel+1) listed a w :=
 wpAny_ready hr (by simp) (AllReady.cons ho (fun K hK=>by
  have hw:Region.wanted o (yielded ops a.tmps)=true:=by simp [Region.wanted,hg]
  rw [if_pos hw];unfold Oper.wp;rw [h];exact hK _ _ rest) AllReady.nil)
theorem zwK(i:Nat){o:Oper}(hr:Region.ready md ops listed=[i])(ho:ops[i]?=some o)(hg:o.guard=none)(w':World)(h:(execOp a.eval o).run P w=.ok .skip w')(rest:wpAny P md ops Q fuel (listed.setIfInBounds i true) (a.put o.dst undef) w'):wpAny P md ops Q (fuel+1) listed a w :=
 wpAny_ready hr (by simp) (AllReady.cons ho (fun K hK=>by
  have hw:Region.wanted o (yielded ops a.tmps)=true:=by simp [Region.wanted,hg]
  rw [if_pos hw];unfold Oper.wp;rw [h];exact hK _ _ rest) AllReady.nil)
theorem zuu(i j:Nat){o p:Oper}(hr:Region.ready md ops listed=[i,j])(ho:ops[i]?=some o)(hg:o.guard=none)(v:Value)(w':World)(h:(execOp a.eval o).run P w=.ok (.value v) w')(rest:wpAny P md ops Q fuel (listed.setIfInBounds i true) (a.put o.dst v) w')
  (hp:ops[j]?=some p) (hg2:p.guard=none) (u:Value) (w2:World) (h2:(execOp a.eval p).run P w=.ok (.value u) w2) (rest2:wpAny P md ops Q fuel (listed.setIfInBounds j true) (a.put p.dst u) w2):wpAny P md ops Q (fuel+1) listed a w :=
 wpAny_ready hr (by simp) (AllReady.cons ho (fun K hK=>by
  have hw:Region.wanted o (yielded ops a.tmps)=true:=by simp [Region.wanted,hg]
  rw [if_pos hw];unfold Oper.wp;rw [h];exact hK _ _ rest) (AllReady.cons hp (fun K hK=>by
  have hw:Region.wanted p (yielded ops a.tmps)=true:=by simp [Region.wanted,hg2]
  rw [if_pos hw];unfold Oper.wp;rw [h2];exact hK _ _ rest2) AllReady.nil))
theorem zhr(ty:TypeId)(x:Operand){o:Oper}(ho:o.op=.load ty x)(b f:Nat)(hx:a.eval x=.pointer (some ⟨b,f,none⟩))(cs:List Value)(d:TypeDesc)(hc:w.rangeAt b f cs)
  (hu:P.underlying ty=some d) (hd:d.isRow=true) (hi:(P.info? ty).map (·.size)=some cs.length):(execOp a.eval o).run P w=.ok (.value (.agg cs.toArray)) w:=by
 unfold execOp;simp only [ho,hx,Instr.loadAt,Instr.sureAddr,Sem.run_bind,Sem.run_pure,Result.andThen_ok,run_loadVar_mid _ b f ty cs d hc hu hd hi]
end
theorem ze4{a:Act}{o:Oper}(x:Operand)(ho:o.op=.buildSlice 152 1 #[(0,x)])(cs:List Value)(hx:a.eval x=.agg cs.toArray)(h:cs.length=51)(W:World):(execOp a.eval o).run Tryz.prog W=.ok (.value (.slice (some ⟨W.heap.size,0,none⟩) 1 1)) (W.alloc (.cells cs.toArray 217)):=by
 unfold execOp;simp only [ho,Sem.run_bind];have:=zz6 W cs h;simp only [List.map_toArray,List.map_cons,List.map_nil,hx,this,Sem.run_pure,Result.andThen_ok]
theorem zc1{w w':World}{B e size n:Nat}{v:Value}{l:List Value}(h:w.ownsRow B e size v n l)(hb:∀ q,v.ownBlock=some q→w'.heap[q]?=w.heap[q]?):w'.ownsRow B e size v n l:=by
 refine⟨h.1,?_⟩;rcases h.2 with i|⟨g,b,c,rfl,d,f,a⟩
 ·exact .inl i
 ·exact .inr ⟨g,b,c,rfl,d,(hb g rfl).trans f,a⟩
def mk0:Mk:=⟨none,0,kn0⟩
def Rs.see(R:Rs)(m:Mk):Rs:=⟨if zcc R.steps then R.marked++[m] else R.marked,R.steps,R.seen+1,R.covers&&(!zcc R.steps&&(decide (R.seen<R.marked.length)&&zc5 m.k (R.marked.getD R.seen mk0).k))⟩
def zdx(w:World)(S o B:Nat)(mv:Value)(R:Rs):Ending→World→Prop:=fun e w'=>e=.returned (.tuple #[])∧∃ mv',RsC w' S o mv' R∧w'.ownsRow B 217 51 mv' R.marked.length (zb1 R.marked)∧(∀ q,mv'.ownBlock=some q→mv.ownBlock=some q∨w.heap.size≤q)∧Kept4 w w' S o mv.ownBlock
theorem zoc{w w':World}{S o:Nat}{hb:Option Nat}(hS:S<w.heap.size)(hne:hb≠some S)(h:w.grownBy w' hb):Kept4 w w' S o hb :=
 ⟨h.os,h.tape,h.output,h.size,fun q hq _ h2=>h.block q hq h2,fun j _ _ _ _=>World.cell?_of_block (a:=⟨S,j,none⟩) (h.block S hS (fun e=>hne e.symm)),fun j=>World.frozen?_of_block (a:=⟨S,j,none⟩) (h.block S hS (fun e=>hne e.symm))⟩
theorem zyB(W:World)(cs:List Value):∀(j:Nat) u,cs[j]?=some u→(W.alloc (.cells cs.toArray 217)).cell? ((⟨W.heap.size,0,none⟩:Addr).add j)=some u:=by
 intro j u a;rw [Addr.add_mid,Nat.zero_add,World.cell?_alloc_new (w:=W) cs.toArray 217 j,List.getElem?_toArray];exact a
end
end Go.Proofs.YtfpgjkbjbbgciaaGreatDoor
